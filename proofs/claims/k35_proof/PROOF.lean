import PyProof.Rows.All
import Wide.All
import OpenK.AllK
import Wide.FinOn
import Lean
import PySem.Challenge.RW_freshrooms_k35_not_told_singly
set_option Elab.async false
set_option linter.all false
set_option bootstrap.genMatcherCode false
set_option compiler.extract_closed false
set_option maxRecDepth 100000
theorem Ŕq(_:True:=by rfl):True:=trivial
theorem Ŕq.z:True:=trivial
open Ŕq renaming _auto_1→Ŕ
theorem ŕq(_:True:=by decide):True:=trivial
theorem ŕq.z:True:=trivial
open ŕq renaming _auto_1→ŕ
theorem Ŗq(_:True:=by intro _;rfl):True:=trivial
theorem Ŗq.z:True:=trivial
open Ŗq renaming _auto_1→Ŗ
theorem ŗq(_:True:=by decide +kernel):True:=trivial
theorem ŗq.z:True:=trivial
open ŗq renaming _auto_1→ŗ
theorem Řq(_:True:=by first|exact .inl rfl|exact .inr rfl|assumption):True:=trivial
theorem Řq.z:True:=trivial
open Řq renaming _auto_1→Ř
theorem řq(_:True:=by first|exact Or.inl rfl|exact Or.inr (Or.inl rfl)|exact Or.inr (Or.inr rfl)):True:=trivial
theorem řq.z:True:=trivial
open řq renaming _auto_1→ř
theorem Śq(_:True:=by first|exact Or.inl rfl|exact Or.inr rfl):True:=trivial
theorem Śq.z:True:=trivial
open Śq renaming _auto_1→Ś
theorem śq(_:True:=by first|exact .inl rfl|exact .inr rfl):True:=trivial
theorem śq.z:True:=trivial
open śq renaming _auto_1→ś
theorem oq9{α : Type _}{a b : α}(h:some a=some b):a=b:=Option.some.inj h
theorem lr9{α : Type _}{a : α}{b : List α}(c : List α)(h:a ∈ b):a ∈ c ++ b:=List.mem_append_right c h
theorem ll9{α : Type _}{a : α}{b : List α}(c : List α)(h:a ∈ b):a ∈ b ++ c:=List.mem_append_left c h
theorem lc9{α : Type _}{a : α}{l : List α}(b : α)(h:a ∈ l):a ∈ b::l:=List.mem_cons_of_mem b h
section
open PySem PySem.Spec PyProof.Rows
theorem X0:type_of% @wpAny_bind:=@wpAny_bind
theorem X1:type_of% @List.getElem?_eq_getElem:=@List.getElem?_eq_getElem
theorem X2:type_of% @List.mem_cons_self:=@List.mem_cons_self
theorem X3:type_of% @List.getD_eq_getElem?_getD:=@List.getD_eq_getElem?_getD
theorem X4:type_of% @wpAny_pure:=@wpAny_pure
theorem X5:type_of% @List.length_map:=@List.length_map
theorem X6:type_of% @List.size_toArray:=@List.size_toArray
theorem X7:type_of% @List.nodup_append:=@List.nodup_append
theorem X8:type_of% @Heap.get?_push_of_some:=@Heap.get?_push_of_some
theorem X9:type_of% @Nat.le_refl:=@Nat.le_refl
theorem Xa:type_of% @if_pos:=@if_pos
theorem Xb:type_of% @decide_eq_false:=@decide_eq_false
theorem Xd:type_of% @List.mem_of_getElem?:=@List.mem_of_getElem?
theorem Xe:type_of% @if_neg:=@if_neg
theorem Xf:type_of% @decide_eq_true:=@decide_eq_true
theorem Xg:type_of% @List.mem_map_of_mem:=@List.mem_map_of_mem
theorem Xh:type_of% @Nat.lt_of_lt_of_le:=@Nat.lt_of_lt_of_le
theorem Xi:type_of% @List.length_append:=@List.length_append
theorem Xj:type_of% @Heap.lt_size:=@Heap.lt_size
theorem Xk:type_of% @List.getElem_mem:=@List.getElem_mem
theorem Xl:type_of% @Heap.get?_push_size:=@Heap.get?_push_size
theorem Xm:type_of% @Int.emod_lt_of_pos:=@Int.emod_lt_of_pos
theorem Xn:type_of% @List.length_cons:=@List.length_cons
theorem Xp:type_of% @List.append_assoc:=@List.append_assoc
theorem Xq:type_of% @List.getElem?_append_left:=@List.getElem?_append_left
theorem Xr:type_of% @List.append_nil:=@List.append_nil
theorem Xs:type_of% @List.nodup_nil:=@List.nodup_nil
theorem Xu:type_of% @Int.emod_nonneg:=@Int.emod_nonneg
theorem Xv:type_of% @List.not_mem_nil:=@List.not_mem_nil
theorem Xw:type_of% @List.getElem?_map:=@List.getElem?_map
theorem Xx:type_of% @List.getElem?_set_ne:=@List.getElem?_set_ne
theorem Xy:type_of% @List.getElem?_append_right:=@List.getElem?_append_right
theorem Xz:type_of% @List.length_replicate:=@List.length_replicate
theorem Y0:type_of% @List.map_append:=@List.map_append
theorem Y1:type_of% @Nat.ne_of_lt:=@Nat.ne_of_lt
theorem Y2:type_of% @List.getElem?_set_self:=@List.getElem?_set_self
theorem Y3:type_of% @wpAny_newObj_type:=@wpAny_newObj_type
theorem Y4:type_of% @Nat.le_trans:=@Nat.le_trans
theorem Y5:type_of% @PySem.W.mg_none_of:=@PySem.W.mg_none_of
theorem Y6:type_of% @PySem.W.mg_of:=@PySem.W.mg_of
theorem Y7:type_of% @List.singleton_append:=@List.singleton_append
theorem Y8:type_of% @PyProof.Rows.callWith_type1:=@PyProof.Rows.callWith_type1
theorem Y9:type_of% @List.map_map:=@List.map_map
theorem Ya:type_of% @Array.length_toList:=@Array.length_toList
theorem Yb:type_of% @wpAny_holding:=@wpAny_holding
theorem Yc:type_of% @List.mem_cons:=@List.mem_cons
theorem Yd:type_of% @List.eq_of_mem_replicate:=@List.eq_of_mem_replicate
theorem Ye:type_of% @wpAny_call_entry:=@wpAny_call_entry
theorem Yf:type_of% @Nat.zero_le:=@Nat.zero_le
theorem Yg:type_of% @Int.toNat_natCast:=@Int.toNat_natCast
theorem Yh:type_of% @PySem.mem_of_lookup:=@PySem.mem_of_lookup
theorem Yi:type_of% @List.drop_eq_getElem_cons:=@List.drop_eq_getElem_cons
theorem Yj:type_of% @List.length_singleton:=@List.length_singleton
theorem Yk:type_of% @List.perm_append_comm:=@List.perm_append_comm
theorem Yl:type_of% @Nat.lt_irrefl:=@Nat.lt_irrefl
theorem Ym:type_of% @wpAny_typeNameOfWhole_keyiter:=@wpAny_typeNameOfWhole_keyiter
theorem Yn:type_of% @List.flatten_cons:=@List.flatten_cons
theorem Yo:type_of% @wpAny_execs_nil:=@wpAny_execs_nil
theorem Yp:type_of% @List.length_set:=@List.length_set
theorem Yq:type_of% @Heap.get?_update_ne:=@Heap.get?_update_ne
theorem Yr:type_of% @List.map_congr_left:=@List.map_congr_left
theorem Ys:type_of% @Calls.callWith_builtin:=@Calls.callWith_builtin
theorem Yt:type_of% @List.lookup_cons:=@List.lookup_cons
theorem Yu:type_of% @wpAny_Call_Name_kw:=@wpAny_Call_Name_kw
theorem Yv:type_of% @Array.getElem?_toList:=@Array.getElem?_toList
theorem Yw:type_of% @wpAny_passesOwn:=@wpAny_passesOwn
theorem Yx:type_of% @List.prefix_rfl:=@List.prefix_rfl
theorem Yy:type_of% @List.Sublist.refl:=@List.Sublist.refl
theorem Yz:type_of% @List.flatMap_cons:=@List.flatMap_cons
theorem Z0:type_of% @List.length_take:=@List.length_take
theorem Z1:type_of% @List.length_drop:=@List.length_drop
theorem Z2:type_of% @List.all_eq_true:=@List.all_eq_true
theorem Z3:type_of% @wpAny_field:=@wpAny_field
theorem Z4:type_of% @wpAny_mono:=@wpAny_mono
end
noncomputable section
namespace L2
open PySem PySem.Spec PyProof.Rows
abbrev Key:=Sum Int Str
noncomputable def wkp:Key->Value->Bool
 |.inl k,v=>Value.isInt k v
 |.inr x,v=>Value.isStrOf x v
noncomputable def keyH(w:World):Key->Int
 |.inl k=>hashInt k
 |.inr x=>hashStr w x
theorem Q3:∀{k:Key} {v:Value},wkp k v=true->(∃i t,k=Sum.inl i/\v=Value.int i t)\/(∃x t,k=Sum.inr x/\v=Value.str x t)
 |.inl i,v,h=>by
  obtain⟨t,e⟩:=Value.isInt_shape (k:=i) (v:=v) h;exact .inl ⟨i,t,rfl,e⟩
 |.inr x,v,h=>by
  obtain⟨t,e⟩:=Value.isStrOf_shape (x:=x) (v:=v) h;exact .inr ⟨x,t,rfl,e⟩
theorem wko(a b:Int):decide ((Sum.inl a:Key)=Sum.inl b)=(a==b):=by
 by_cases e:a=b
 ·subst e;simp
 ·have h:¬(Sum.inl a:Key)=Sum.inl b:=λq=>e (Sum.inl.inj q)
  rw[Xb h];exact(beq_eq_false_iff_ne.mpr e).symm
theorem wkl(a b:Str):decide ((Sum.inr a:Key)=Sum.inr b)=decide (a=b):=by
 by_cases e:a=b
 ·subst e;simp
 ·have h:¬(Sum.inr a:Key)=Sum.inr b:=λq=>e (Sum.inr.inj q)
  rw[Xb h,Xb e]
theorem wkn(a:Int)(b:Str):decide ((Sum.inl a:Key)=Sum.inr b)=false:=Xb (λq=>nomatch q)
theorem wkm(a:Str)(b:Int):decide ((Sum.inr a:Key)=Sum.inl b)=false:=Xb (λq=>nomatch q)
noncomputable def kvb(prog:Program)(w:World):PySem.KeyKind prog w Key where
 is:=wkp
 hash:=keyH w
 inj:=λv a b ha hb=>by
  rcases Q3 ha with⟨i,t,rfl,rfl⟩|⟨x,t,rfl,rfl⟩
  ·rcases Q3 hb with⟨j,u,rfl,e⟩|⟨y,u,rfl,e⟩
   ·injection e with e1 _;rw[e1]
   ·exact nomatch e
  ·rcases Q3 hb with⟨j,u,rfl,e⟩|⟨y,u,rfl,e⟩
   ·exact nomatch e
   ·injection e with e1 _;rw[e1]
 byValue:=λk v h=>by
  rcases Q3 h with⟨i,t,rfl,rfl⟩|⟨x,t,rfl,rfl⟩<;>rfl
 pyHash:=λhv h=>by
  rcases Q3 hv with⟨i,t,rfl,rfl⟩|⟨x,t,rfl,rfl⟩
  ·exact wpAny_pyHash_int h
  ·exact wpAny_pyHash_str h
 eqBool:=λhu hv h=>by
  rcases Q3 hu with⟨i,t,rfl,rfl⟩|⟨x,t,rfl,rfl⟩
  ·rcases Q3 hv with⟨j,u,rfl,rfl⟩|⟨y,u,rfl,rfl⟩
   ·rw[wko]at h;exact wpAny_eqBool_int h
   ·rw[wkn]at h;exact SeqAt.EqAt.int_str i t y u _ _ _ _ h
  ·rcases Q3 hv with⟨j,u,rfl,rfl⟩|⟨y,u,rfl,rfl⟩
   ·rw[wkm]at h;exact SeqAt.EqAt.str_int x t j u _ _ _ _ h
   ·rw[wkl]at h;exact wpAny_eqBool_str h
 «strs»:=λk x t v h=>by
  rcases Q3 h with⟨i,u,rfl,e⟩|⟨y,u,rfl,e⟩
  ·exact nomatch e
  ·injection e with e1 _;subst e1;cases v<;>rfl
inductive V where
 |non|bl (b:Bool)|int (i:Int)|str (x:Str)|byt (b:Array UInt8)|flt (b:UInt64)|ref (a:Addr)|ty (n:String)
 deriving DecidableEq
noncomputable def RelV:V->Value->Prop
 |.non,u=>u=Value.none
 |.bl b,u=>u=Value.bool b
 |.int i,u=>∃t,u=Value.int i t
 |.str x,u=>∃t,u=Value.str x t
 |.byt b,u=>∃t,u=Value.bytes b t
 |.flt b,u=>∃t,u=Value.float b t
 |.ref a,u=>u=Value.ref a
 |.ty n,u=>u=Value.type n
abbrev Vals:List V->List Value->Prop:=Paired RelV
theorem Vals.length{xs:List V}{us:List Value}(r:Vals xs us):xs.length=us.length:=Paired.length r
theorem Vals.get:∀{xs:List V} {us:List Value} {i:Nat} {x:V},Vals xs us->xs[i]?=some x->∃u,us[i]?=some u/\RelV x u
 |_,_,_,_,.nil,e=>by simp at e
 |_,_,0,_,.cons r _,e=>by simp at e;subst e;exact⟨_,rfl,r⟩
 |_,_,i+1,x,.cons _ t,e=>by
  obtain⟨u,h1,h2⟩:=Vals.get (i:=i) (x:=x) t (by simpa using e);exact⟨u,by simpa using h1,h2⟩
theorem Vals.append:∀{xs ys:List V} {us ws:List Value},Vals xs us->Vals ys ws->Vals (xs++ys) (us++ws)
 |_,_,_,_,.nil,s=>s
 |_,_,_,_,.cons r t,s=>.cons r (Vals.append t s)
theorem Vals.take:∀{xs:List V} {us:List Value} (n:Nat),Vals xs us->Vals (xs.take n) (us.take n)
 |_,_,0,_=>.nil
 |_,_,_+1,.nil=>.nil
 |_,_,n+1,.cons r t=>.cons r (Vals.take n t)
theorem Vals.drop:∀{xs:List V} {us:List Value} (n:Nat),Vals xs us->Vals (xs.drop n) (us.drop n)
 |_,_,0,r=>r
 |_,_,_+1,.nil=>.nil
 |_,_,n+1,.cons _ t=>Vals.drop n t
noncomputable def wxz:Option V->Option Value->Prop
 |some v,some u=>RelV v u
 |none,none=>True
 |_,_=>False
noncomputable def KV{κ:Type}:List (κ×V)->List (κ×Value)->Prop:=Paired λ(p:κ×V) (q:κ×Value)=>p.1=q.1/\RelV p.2 q.2
noncomputable def kV:Key->V
 |.inl i=>.int i
 |.inr x=>.str x
inductive HO where
 |lst (xs:List V)
 |tup (xs:List V)
 |dK (kvs:List (Key×V))|dT (kvs:List (List Key×V))
 |set (S:Int->Bool) (n:Nat)
 |ins (C dx:Addr) (fs:List (Str×V))
 |own (x:Addr)
 |xd (fs:List (Str×V))
 |met (f x:Addr)
 |rng (lo hi:Int)
 |frz (o:Obj) (u:HO)
 |tbl (ps:Array Value)
 |ext (φ:Heap->Prop)
abbrev Hp:=Addr->Option HO
noncomputable def IsTupD(h:Heap)(a:Addr)(items:Array Value):Prop:=∃o,h.get? a=some o/\o.cls=.type "tuple"/\o.dict=none/\∃n,o.data=.seq items n
theorem IsTupD.tup{h:Heap}{a:Addr}{items:Array Value}(p:IsTupD h a items):IsTup h a items:=by
 obtain⟨o,e,c,_,n,d⟩:=p;exact⟨o,e,c,n,d⟩
theorem IsTupD.new(h:Heap)(xs:Array Value):IsTupD (h.push { cls:=.type "tuple",data:=.seq xs }) h.objs.size xs:=⟨_,Xl _ rfl,rfl,rfl,0,rfl⟩
noncomputable def upd(H:Hp)(a:Addr)(o:HO):Hp:=λb=>if b=a then some o else H b
theorem wV{H:Hp}{a:Addr}{o:HO}:upd H a o a=some o:=by unfold upd;rw[Xa rfl]
theorem kJ{H:Hp}{a b:Addr}{o:HO}(h:b≠a):upd H a o b=H b:=by unfold upd;rw[Xe h]
theorem xk{H:Hp}{a b:Addr}{o:HO}(h:H a=some o)(h':H b=none):a≠b:=by
 intro e;subst e;rw[h]at h';cases h'
section
variable (P:Program)(w:World)
noncomputable def ObjOk(H : Hp)(h : Heap)(a : Addr): HO -> Prop
  |.lst xs=>xs.length<=sizeLine /\ ∃(ak : List Value) (n : Nat), Vals xs ak /\ h.get? a = some { cls:= .type "list", data:= .seq ak.toArray n }
  |.tup xs=>xs.length<=sizeLine /\ ∃ak : List Value, Vals xs ak /\ IsTupD h a ak.toArray
  |.dK kvs=>kvs.length<=sizeLine /\ (a==sysModules) = false /\ ∃vs, KV kvs vs /\ h.DictOf (kvb P w) a vs
  |.dT kvs=>kvs.length<=sizeLine /\ (a==sysModules) = false /\ ∃xs : List (List Key × Addr × Value),
      Paired (λ(p : List Key × V) (q : List Key × Addr × Value)=>p.1 = q.1 /\ H q.2.1 = some (.tup (p.1.map kV)) /\ RelV p.2 q.2.2) kvs xs /\
      ∃o es ep, h.get? a = some o /\ o.ExactDict /\ o.data = .dict es ep /\ es.toList = xs.map (entryOfKey (tupleKind (kvb P w))) /\ (xs.map (·.1)).Nodup
  |.set S n=>h.SetOf (intKind P w) a S n
  |.ins C dx fs=>H dx = some (.own a) /\ fs.length<=1000 /\ dx≠a /\ h.get? a = some (PySem.W.instObj C dx) /\
      ∃mA, h.Ns1 dx mA /\ (∀f, wxz (fs.lookup f) (mA f)) /\ PySem.Within mA (fs.map (·.1))
  |.own _=> ∃o, h.get? a = some o
  |.xd fs=> ∃mA, h.Ns1 a mA /\ ∀f, wxz (fs.lookup f) (mA f)
  |.rng lo hi=> ∃t u v, h.get? a = some { cls:= .type "range", data:= .fields #[.int lo t, .int hi u, .int 1 v] }
  |.frz o u=>h.get? a = some o /\ ObjOk H h a u
  |.tbl ps=>h.get? a = some { cls:= .none, data:= .fields ps }
  |.met f x=>h.get? a = some (PySem.W.methodObj (.ref f) (.ref x))
  |.ext φ=>φ h /\ (∃o, h.get? a = some o) /\ ∀h1 h2 : Heap, φ h1 -> (∀o, h1.get? a = some o -> h2.get? a = some o) -> φ h2
noncomputable def HOk(H:Hp)(h:Heap):Prop:=∀a o,H a=some o->ObjOk P w H h a o
end
section
variable {P:Program}{w:World}{H H':Hp}{h h':Heap}{a:Addr}{o:HO}
theorem ObjOk.lt(x:ObjOk P w H h a o):a<h.objs.size:=by
 cases o with
 |lst xs=>obtain⟨_,_,_,_,e⟩:=x;exact Xj e
 |tup xs=>obtain⟨_,_,_,p⟩:=x;exact p.tup.lt
 |dK kvs=>obtain⟨_,_,_,_,o,_,_,e,_⟩:=x;exact Xj e
 |dT kvs=>obtain⟨_,_,_,_,o,_,_,e,_⟩:=x;exact Xj e
 |set S n=>obtain⟨o,_,_,_,e,_⟩:=x;exact Xj e
 |ins C dx fs=>obtain⟨_,_,_,e,_⟩:=x;exact Xj e
 |own y=>obtain⟨_,e⟩:=x;exact Xj e
 |xd fs=>obtain⟨_,⟨_,_,_,e,_⟩,_⟩:=x;exact Xj e
 |rng lo hi=>obtain⟨_,_,_,e⟩:=x;exact Xj e
 |frz ob u=>obtain⟨e,_⟩:=x;exact Xj e
 |tbl ps=>exact Xj (show h.get? a=some _ from x)
 |met f y=>exact Xj (show h.get? a=some _ from x)
 |ext φ=>obtain⟨_,⟨_,e⟩,_⟩:=x;exact Xj e
theorem Paired.mapP{α β:Type}{F G:α->β->Prop}:∀{l₁:List α} {l₂:List β},Paired F l₁ l₂->(∀a b,F a b->G a b)->Paired G l₁ l₂
 |_,_,.nil,_=>.nil
 |_,_,.cons r t,f=>.cons (f _ _ r) (Paired.mapP t f)
theorem ObjOk.stay(x:ObjOk P w H h a o)(k:∀b u,(b=a\/H b=some (.own a))->h.get? b=some u->h'.get? b=some u)
  (ho:∀b,H b=some (.own a)->H' b=some (.own a)) (ht:∀b xs,H b=some (.tup xs)->H' b=some (.tup xs)):ObjOk P w H' h' a o:=by
 induction o with
 |lst xs=>obtain⟨z,ak,n,r,e⟩:=x;exact⟨z,ak,n,r,k _ _ (.inl rfl) e⟩
 |tup xs=>obtain⟨z,ak,r,ob,e,c⟩:=x;exact⟨z,ak,r,ob,k _ _ (.inl rfl) e,c⟩
 |dK kvs=>obtain⟨z,y,vs,r,ob,es,ep,e,c⟩:=x;exact⟨z,y,vs,r,ob,es,ep,k _ _ (.inl rfl) e,c⟩
 |dT kvs=>
  obtain⟨z,y,xs,r,ob,es,ep,e,c⟩:=x;exact⟨z,y,xs,Paired.mapP r λp q z=>⟨z.1,ht _ _ z.2.1,z.2.2⟩,ob,es,ep,k _ _ (.inl rfl) e,c⟩
 |set S n=>obtain⟨ob,es,ep,t,e,c⟩:=x;exact⟨ob,es,ep,t,k _ _ (.inl rfl) e,c⟩
 |ins C dx fs=>
  obtain⟨d,z,ne,e,mA,⟨od,es,ep,e2,c⟩,r⟩:=x;exact⟨ho _ d,z,ne,k _ _ (.inl rfl) e,mA,⟨od,es,ep,k _ _ (.inr d) e2,c⟩,r⟩
 |own y=>obtain⟨ob,e⟩:=x;exact⟨ob,k _ _ (.inl rfl) e⟩
 |xd fs=>obtain⟨mA,⟨od,es,ep,e,c⟩,r⟩:=x;exact⟨mA,⟨od,es,ep,k _ _ (.inl rfl) e,c⟩,r⟩
 |rng lo hi=>obtain⟨t,u,v,e⟩:=x;exact⟨t,u,v,k _ _ (.inl rfl) e⟩
 |frz ob u ih=>obtain⟨e,q⟩:=x;exact⟨k _ _ (.inl rfl) e,ih q⟩
 |tbl ps=>
  have e:h.get? a=some { cls:=.none,data:=.fields ps }:=x;show h'.get? a=some { cls:=.none,data:=.fields ps };exact k a _ (.inl rfl) e
 |met f y=>
  have e:h.get? a=some (PySem.W.methodObj (.ref f) (.ref y)):=x;show h'.get? a=some (PySem.W.methodObj (.ref f) (.ref y));exact k a _ (.inl rfl) e
 |ext φ=>obtain⟨p,⟨o,e⟩,st⟩:=x;exact⟨st _ _ p λo q=>k _ _ (.inl rfl) q,⟨o,k _ _ (.inl rfl) e⟩,st⟩
theorem HOk.lt(x:HOk P w H h)(e:H a=some o):a<h.objs.size:=(x a o e).lt
theorem HOk.fresh(x:HOk P w H h)(e:h.objs.size<=a):H a=none:=by
 cases q:H a with
 |none=>rfl
 |some u=>exact absurd (Xh (x.lt q) e) (Yl _)
theorem HOk.kept(x:HOk P w H h)(k:∀b u,h.get? b=some u->h'.get? b=some u):HOk P w H h':=λa o e=>
 (x a o e).stay (λb u _ q=>k b u q) (λ_ q=>q) λ_ _ q=>q
theorem HOk.laid(x:HOk P w H h)(k:∀b u,h.get? b=some u->h'.get? b=some u)(hp:h.objs.size<=a)(new:ObjOk P w (upd H a o) h' a o):HOk P w (upd H a o) h':=λb u e=>by
 have hn:=x.fresh hp
 by_cases hb:b=a
 ·subst hb;rw[wV]at e;cases e;exact new
 ·rw[kJ hb]at e;exact(x b u e).stay (λc v _ q=>k c v q) (λc q=>by rw[kJ (xk q hn)];exact q) λc xs q=>by rw[kJ (xk q hn)];exact q
end
noncomputable def Rd(H:Hp)(a:Addr)(u:HO):Prop:=H a=some u\/∃o,H a=some (.frz o u)
theorem Rd.ok{P:Program}{w:World}{H:Hp}{h:Heap}{a:Addr}{u:HO}(r:Rd H a u)(x:HOk P w H h):ObjOk P w H h a u:=by
 rcases r with r|⟨o,r⟩
 ·exact x a u r
 ·obtain⟨_,q⟩:=x a _ r;exact q
noncomputable def Mut:Option HO->Prop
 |some (.lst _)=>True
 |some (.dK _)=>True
 |some (.dT _)=>True
 |some (.set _ _)=>True
 |some (.ins _ _ _)=>True
 |some (.ext _)=>True
 |_=>False
section
variable {P:Program}{w:World}{H:Hp}{h h':Heap}{x e:Addr}{o':HO}
theorem HOk.write(ok:HOk P w H h)(mu:Mut (H x))(he:e=x\/H e=some (.own x))(k:∀b u,b≠e->h.get? b=some u->h'.get? b=some u)(oi:∃u,h'.get? e=some u)
  (new:ObjOk P w (upd H x o') h' x o'):HOk P w (upd H x o') h':=λb u q=>by
 have qs:∀c y,H c=some (.own y)->c≠x:=λc y r z=>by subst z;rw[r]at mu;exact mu
 have ntup:∀c xs,H c=some (.tup xs)->c≠x:=λc xs r z=>by subst z;rw[r]at mu;exact mu
 by_cases hb:b=x
 ·subst hb;rw[wV]at q;cases q;exact new
 ·rw[kJ hb]at q
  by_cases hbe:b=e
  ·have q':H b=some (.own x):=by
    rcases he with z|z
    ·exact absurd (hbe.trans z) hb
    ·rw[hbe];exact z
   rw[q]at q';cases q';obtain⟨v,hv⟩:=oi;exact⟨v,by rw[hbe];exact hv⟩
  ·refine(ok b u q).stay (λc v hc r=>k c v ?_ r) (λc r=>by rw[kJ (qs c b r)];exact r) λc xs r=>by rw[kJ (ntup c xs r)];exact r
   rcases hc with rfl|hc
   ·exact hbe
   ·rintro rfl;rcases he with z|z
    ·exact qs c b hc z
    ·rw[hc]at z;cases z;exact hb rfl
end
structure Un (fs ex:List Addr)(H H':Hp)(h h':Heap):Prop where
 keep:∀b o,h.get? b=some o->H b=none->b∉fs->b∉ex->h'.get? b=some o
 slot:∀b o,h.get? b=some o->H b=none->b∈fs->b∉ex->∃sl,h'.get? b=some { o with slots:=sl }
 free:∀b o,h.get? b=some o->H b=none->b∉ex->H' b=none
 there:∀b o,h.get? b=some o->b∉ex->∃o',h'.get? b=some o'
 tups:∀b xs,H b=some (.tup xs)->H' b=some (.tup xs)
 frzs:∀b o u,H b=some (.frz o u)->H' b=some (.frz o u)
 tbls:∀b ps,H b=some (.tbl ps)->∃ic,H' b=some (.tbl (ps++ic))
section
variable {fs fs' ex ex':List Addr}{H H1 H2:Hp}{h h1 h2 h':Heap}{a x e:Addr}{o:HO}
theorem Un.any(u:Un fs ex H H1 h h1){b:Addr}{ob:Obj}(q:h.get? b=some ob)(n:H b=none)(hx:b∉ex):∃sl,h1.get? b=some { ob with slots:=sl }:=by
 by_cases hb:b∈fs
 ·exact u.slot b ob q n hb hx
 ·exact⟨ob.slots,u.keep b ob q n hb hx⟩
theorem Un.kept(k:∀b u,h.get? b=some u->h'.get? b=some u):Un fs ex H H h h':=
 ⟨λb ob q _ _ _=>k b ob q,λb ob q _ _ _=>⟨ob.slots,k b ob q⟩,λ_ _ _ n _=>n,λb ob q _=>⟨ob,k b ob q⟩,λ_ _ q=>q,λ_ _ _ q=>q,λ_ ps q=>⟨#[],by rw[q];simp⟩⟩
theorem Un.refl:Un fs ex H H h h:=Un.kept λ_ _ q=>q
theorem Un.laid(k:∀b u,h.get? b=some u->h'.get? b=some u)(hp:h.objs.size<=a)(hn:H a=none):Un fs ex H (upd H a o) h h' where
 keep:=λb u q _ _ _=>k b u q
 slot:=λb u q _ _ _=>⟨u.slots,k b u q⟩
 free:=λb u q n _=>by rw[kJ (Y1 (Xh (Xj q) hp))];exact n
 there:=λb u q _=>⟨u,k b u q⟩
 tups:=λb xs q=>by rw[kJ (xk q hn)];exact q
 frzs:=λb u xs q=>by rw[kJ (xk q hn)];exact q
 tbls:=λb ps q=>⟨#[],by rw[kJ (xk q hn),q];simp⟩
theorem Un.write(mu:Mut (H x))(he:e=x\/H e=some (.own x))(k:∀b u,b≠e->h.get? b=some u->h'.get? b=some u)(oi:∃u,h'.get? e=some u):Un fs ex H (upd H x o) h h':=by
 have hx:∀b,H b=none->b≠x:=λb n z=>by subst z;rw[n]at mu;exact mu
 have hb:∀b,H b=none->b≠e:=λb n z=>by
  subst z;rcases he with r|r
  ·exact hx b n r
  ·rw[n]at r;cases r
 have hm:∀b u,H b=some u->¬Mut (some u)->b≠x:=λb u q nm z=>by subst z;rw[q]at mu;exact nm mu
 refine⟨λb u q n _ _=>k b u (hb b n) q,λb u q n _ _=>⟨u.slots,k b u (hb b n) q⟩,λb u q n _=>by rw[kJ (hx b n)];exact n,λb u q _=>?_,
  λb xs q=>by rw[kJ (hm b _ q λz=>z)];exact q,λb u xs q=>by rw[kJ (hm b _ q λz=>z)];exact q,λb ps q=>⟨#[],by rw[kJ (hm b _ q λz=>z),q];simp⟩⟩
 by_cases hbe:b=e
 ·subst hbe;exact oi
 ·exact⟨u,k b u hbe q⟩
end
noncomputable def trk(h:Heap)(H:Hp):List Addr:=(List.range h.objs.size).filter λa=>(H a).isSome
noncomputable def JK(h:Heap)(H:Hp):Heap:=PySem.W.hideAll h (trk h H)
theorem qx4(h:Heap)(H:Hp):(JK h H).objs.size=h.objs.size:=PySem.W.hideAll_size _ _
theorem vjs{h:Heap}{H:Hp}{b:Addr}{o:Obj}(e:h.get? b=some o)(n:H b=none):(JK h H).get? b=some o:=
 PySem.W.hideAll_get _ e λhm=>by
  have q:(H b).isSome=true:=(List.mem_filter.mp hm).2;rw[n]at q;simp at q
theorem vwe{h:Heap}{H:Hp}{b:Addr}{o:Obj}(e:(JK h H).get? b=some o):h.get? b=some o/\H b=none:=by
 have e':h.get? b=some o:=PySem.W.of_hideAll (trk h H) e;refine⟨e',?_⟩;cases q:H b with
 |none=>rfl
 |some x=>
  have hm:b∈trk h H:=List.mem_filter.mpr ⟨List.mem_range.mpr (Xj e'),by simp[q]⟩;have z:(JK h H).get? b=none:=PySem.W.hideAll_none (trk h H) hm;rw[z]at e;cases e
noncomputable def vxj(g h:Heap)(L:Addr):List (Addr×Obj):=(List.range h.objs.size).filterMap λa=>if a=L\/(g.get? a).isSome=true then none else(h.get? a).map λo=>(a,o)
noncomputable def jx(g h:Heap)(L d:Addr):List (Addr×Obj):=(vxj g h L).filter λp=>decide (p.1≠d)
structure Mod (K:PySem.W.Frag)(mg:Str->Option Value)(base:Heap):Prop where
 kin:K.In base
 glob:base.Ns mainGlobals mg
 blt:∃mb,base.Ns builtinsNs mb/\∀x:Str,x≠"__name__"->mb x=bootBuiltins x
 nolimit:base.NoLimit
structure Cx where
 prog:Program
 w:World
 K:PySem.W.Frag
 mg:Str->Option Value
 base:Heap
 A:Around
 N:List Str
 s₀:Shared
 H₀:Hp
 env:Env
 outer:List Env
 stack:List Env
 ex:List Addr
 fn:Str->Bool
 calm:Bool
 pn:List (Addr×Obj)
 xe:Value->Shared->Prop
noncomputable def frs(l:List Env):List Addr:=l.filterMap (·.frame)
abbrev Cx.fs(X:Cx):List Addr:=frs X.outer
noncomputable def Vis(sc:Scope)(x:Str):Prop:=sc.names.lookup x=some .local\/sc.names.lookup x=some .cell\/sc.names.lookup x=some .free
noncomputable def Loc(sc:Scope)(x:Str):Prop:=sc.names.lookup x=some .local\/sc.names.lookup x=some .cell
noncomputable def wz1(env:Env)(h:Heap)(m:Str->Option Value)(x:Str)(u:Value):Prop:=
 (env.kindOf x=some .local/\m x=some u)\/((env.kindOf x=some .cell\/env.kindOf x=some .free)/\∃c,env.cells.lookup x=some c/\h.IsCell c (some u))
structure Cx.Ok (X:Cx):Prop where
 mod:Mod X.K X.mg X.base
 kind:X.env.scope.kind=.function
 glob:X.env.globals=mainGlobals
 blt:X.env.builtins=builtinsNs
 above:X.s₀.heap.objs.size<=X.env.locals
 inj:∀x y c,X.env.cells.lookup x=some c->X.env.cells.lookup y=some c->x=y
 has:∀x,(X.env.kindOf x=some .cell\/X.env.kindOf x=some .free)->∃c,X.env.cells.lookup x=some c
 cab:∀x c,X.fn x=true->X.env.cells.lookup x=some c->X.s₀.heap.objs.size<=c
 hd:X.calm=true->X.A.handled=none
 frames:X.A.frames=some X.stack
 stk:X.stack=X.outer\/(X.stack=X.env::X.outer/\X.env.frame=some X.env.locals)
 exf:∀b∈X.ex,b≠X.env.locals/\∀x c,X.env.cells.lookup x=some c->c≠b
 bs:∀b o,X.base.get? b=some o->X.s₀.heap.get? b=some o/\X.H₀ b=none
 bsz:X.base.objs.size<=X.s₀.heap.objs.size
 noex:∀b o,X.base.get? b=some o->b∉X.ex
 exfs:∀b∈X.ex,b∉X.fs
 funs:X.s₀.heap.FunFrames X.base X.outer
 frf:∀b∈X.fs,X.H₀ b=none
structure Inv (X:Cx)(pins:List (Addr×Obj))(σ:List (Option V))(H:Hp)(s:Shared):Prop where
 ok:X.Ok
 os:s.os=X.s₀.os
 bare:AllBare s.gens
 base:Un X.fs X.ex X.H₀ H X.s₀.heap s.heap
 loc:∃m,s.heap.Ns X.env.locals m/\∀(i:Nat) (x:Str) (v:V),X.N[i]?=some x->σ[i]?=some (some v)->Vis X.env.scope x->∃u,RelV v u/\wz1 X.env s.heap m x u
 cell:∀x c,X.env.cells.lookup x=some c->∃v,s.heap.IsCell c v
 free:H X.env.locals=none
 freeC:∀x c,X.env.cells.lookup x=some c->H c=none
 pin:∀p∈X.pn++pins,s.heap.get? p.1=some p.2/\H p.1=none/\p.1≠X.env.locals/\p.1∉X.fs/\∀v,p.2.data≠.cell v
 hok:HOk X.prog X.w H s.heap
 len:σ.length=X.N.length
section
variable {X:Cx}{pins:List (Addr×Obj)}{σ:List (Option V)}{H H':Hp}{s:Shared}{h':Heap}
theorem Cx.Ok.nofr(ok:X.Ok){b:Addr}{o:Obj}(e:X.base.get? b=some o):b∉X.fs:=λhb=>by
 have:=(ok.funs.mem hb).1;rw[e]at this;cases this
theorem Inv.bs(I:Inv X pins σ H s):∀b o,X.base.get? b=some o->s.heap.get? b=some o/\H b=none:=λb o e=>
 ⟨I.base.keep b o (I.ok.bs b o e).1 (I.ok.bs b o e).2 (I.ok.nofr e) (I.ok.noex b o e),I.base.free b o (I.ok.bs b o e).1 (I.ok.bs b o e).2 (I.ok.noex b o e)⟩
theorem Inv.bk(I:Inv X pins σ H s):∀b o,X.base.get? b=some o->s.heap.get? b=some o:=λb o e=>(I.bs b o e).1
theorem Inv.mod(I:Inv X pins σ H s):Mod X.K X.mg X.base:=I.ok.mod
theorem Inv.kIn(I:Inv X pins σ H s):X.K.In s.heap:=I.ok.mod.kin.keeps I.bk
theorem Inv.lt(I:Inv X pins σ H s):X.env.locals<s.heap.objs.size:=let ⟨_,hn,_⟩:=I.loc;hn.lt
theorem Inv.sz(I:Inv X pins σ H s):X.s₀.heap.objs.size<=s.heap.objs.size:=Y4 I.ok.above (Nat.le_of_lt I.lt)
theorem Inv.nofs(I:Inv X pins σ H s){a:Addr}(h:s.heap.objs.size<=a):a∉X.fs:=λhb=>by
 obtain⟨_,o,ho,_⟩:=I.ok.funs.mem hb;exact absurd (Xh (Xj ho) (Y4 I.sz h)) (Yl _)
theorem Inv.cne(I:Inv X pins σ H s):∀x c,X.env.cells.lookup x=some c->c≠X.env.locals:=λx c e z=>by
 obtain⟨v,o,ho,hd⟩:=I.cell x c e;obtain⟨m,⟨o',es,ep,lq,lz,_⟩,_⟩:=I.loc;rw[z,lq]at ho;cases ho;rw[lz]at hd;cases hd
theorem Inv.funs(I:Inv X pins σ H s):s.heap.FunFrames X.base X.outer:=by
 have all:∀(l:List Env),(∀b∈frs l,b∈X.fs)->X.s₀.heap.FunFrames X.base l->s.heap.FunFrames X.base l:=by
  intro l
  induction l with
  |nil=>intro _ _;trivial
  |cons env r ih=>
   intro hs hl;obtain⟨hk,⟨L,o,hf,hn,ho,hd⟩,hr⟩:=hl;have hL:L∈X.fs:=hs L (by unfold frs;rw[List.filterMap_cons,hf];exact X2);obtain⟨sl,e⟩:=I.base.slot L o ho (I.ok.frf L hL) hL λz=>I.ok.exfs L z hL
   exact⟨hk,⟨L,_,hf,hn,e,hd⟩,ih (λb hb=>hs b (by unfold frs;rw[List.filterMap_cons,hf];exact lc9 _ hb)) hr⟩
 exact all X.outer (λ_ hb=>hb) I.ok.funs
theorem Inv.stack(I:Inv X pins σ H s):s.heap.FunFrames X.base X.stack:=by
 rcases I.ok.stk with e|⟨e,hf⟩
 ·rw[e];exact I.funs
 ·rw[e];obtain⟨m,hn,_⟩:=I.loc;refine .cons (by rw[I.ok.kind];decide) hf hn ?_ I.funs;exact Heap.get?_none_of_le (Y4 I.ok.bsz I.ok.above)
theorem Inv.stkSub(I:Inv X pins σ H s):∀b∈frs X.stack,b∈X.env.locals::X.fs:=λb hb=>by
 rcases I.ok.stk with e|⟨e,hf⟩
 ·rw[e]at hb;exact lc9 _ hb
 ·rw[e]at hb;unfold frs at hb;rw[List.filterMap_cons,hf]at hb;exact hb
theorem Inv.stkFree(I:Inv X pins σ H s):∀b∈frs X.stack,H b=none:=λb hb=>by
 rcases List.mem_cons.mp (I.stkSub b hb)with e|hb
 ·rw[e];exact I.free
 ·obtain⟨_,o,ho,_⟩:=I.ok.funs.mem hb;exact I.base.free b o ho (I.ok.frf b hb) λz=>I.ok.exfs b z hb
theorem Inv.step{g':Array GenState}{t':Nat}{d':Drawn}{ch:List Addr}(I:Inv X pins σ H s)
  (gh:∀b∈ch,(b∈X.ex\/X.s₀.heap.objs.size<=b)/\b≠X.env.locals/\(∀x c,X.env.cells.lookup x=some c->c≠b)/\∀p∈X.pn++pins,p.1≠b)
  (keep:∀b o,b≠X.env.locals->b∉X.fs->b∉ch->s.heap.get? b=some o->H b=none->h'.get? b=some o)
  (slot:∀b o,b≠X.env.locals->b∈X.fs->b∉ch->s.heap.get? b=some o->H b=none->∃sl,h'.get? b=some { o with slots:=sl }) (free:∀b o,b∉ch->s.heap.get? b=some o->H b=none->H' b=none)
  (there:∀b o,b∉ch->s.heap.get? b=some o->∃o',h'.get? b=some o')
  (tups:∀b xs,H b=some (.tup xs)->H' b=some (.tup xs)) (frzs:∀b o u,H b=some (.frz o u)->H' b=some (.frz o u)) (tbls:∀b ps,H b=some (.tbl ps)->∃ic,H' b=some (.tbl (ps++ic)))
  (ns:∀m,s.heap.Ns X.env.locals m->h'.Ns X.env.locals m) (hok:HOk X.prog X.w H' h') (hg:AllBare g'):
  Inv X pins σ H' { s with heap:=h',gens:=g',drawn:=d',toks:=t' }:=by
 have pw:∀b o,X.s₀.heap.get? b=some o->b≠X.env.locals:=λb o e=>Y1 (Xh (Xj e) I.ok.above)
 have ly:∀b o,X.s₀.heap.get? b=some o->b∉X.ex->b∉ch:=λb o e hx hb=>by
  rcases(gh b hb).1 with z|z
  ·exact hx z
  ·exact absurd (Xh (Xj e) z) (Yl _)
 have i5:∀x c,X.env.cells.lookup x=some c->∀v,s.heap.IsCell c v->h'.IsCell c v:=λx c e v ⟨o,ho,hd⟩=>by
  have kt:c∉ch:=λz=>(gh c z).2.2.1 x c e rfl
  by_cases hc:c∈X.fs
  ·obtain⟨sl,q⟩:=slot c o (I.cne x c e) hc kt ho (I.freeC x c e);exact⟨_,q,hd⟩
  ·exact⟨o,keep c o (I.cne x c e) hc kt ho (I.freeC x c e),hd⟩
 refine⟨I.ok,I.os,hg,⟨λb o e n hb hx=>?_,λb o e n hb hx=>?_,λb o e n hx=>?_,λb o e hx=>?_,λb xs e=>tups b xs (I.base.tups b xs e),λb o xs e=>frzs b o xs (I.base.frzs b o xs e),λb ps e=>?_⟩,?_,λx c e=>?_,?_,λx c e=>?_,λp hp=>?_,hok,I.len⟩
 ·exact keep b o (pw b o e) hb (ly b o e hx) (I.base.keep b o e n hb hx) (I.base.free b o e n hx)
 ·obtain⟨sl,e1⟩:=I.base.slot b o e n hb hx;obtain⟨sl',e2⟩:=slot b _ (pw b o e) hb (ly b o e hx) e1 (I.base.free b o e n hx);exact⟨sl',e2⟩
 ·obtain⟨o',e1⟩:=I.base.there b o e hx;exact free b o' (ly b o e hx) e1 (I.base.free b o e n hx)
 ·obtain⟨o',e1⟩:=I.base.there b o e hx;exact there b o' (ly b o e hx) e1
 ·obtain⟨m1,e1⟩:=I.base.tbls b ps e;obtain⟨m2,e2⟩:=tbls b _ e1;exact⟨m1++m2,by rw[e2,Array.append_assoc]⟩
 ·obtain⟨m,hn,hl⟩:=I.loc;refine⟨m,ns m hn,λi x v e1 e2 e3=>?_⟩;obtain⟨u,r,l⟩:=hl i x v e1 e2 e3;refine⟨u,r,?_⟩;rcases l with l|⟨k,c,e,z⟩
  ·exact .inl l
  ·exact .inr ⟨k,c,e,i5 x c e _ z⟩
 ·obtain⟨v,z⟩:=I.cell x c e;exact⟨v,i5 x c e v z⟩
 ·obtain⟨m,⟨o,_,_,ho,_⟩,_⟩:=I.loc;exact free _ o (λz=>(gh _ z).2.1 rfl) ho I.free
 ·obtain⟨v,o,ho,hd⟩:=I.cell x c e;exact free c o (λz=>(gh c z).2.2.1 x c e rfl) ho (I.freeC x c e)
 ·obtain⟨e,n,ne,nf,d⟩:=I.pin p hp;have kt:p.1∉ch:=λz=>(gh p.1 z).2.2.2 p hp rfl
  exact⟨keep p.1 p.2 ne nf kt e n,free p.1 p.2 kt e n,ne,nf,d⟩
theorem Inv.un{t':Nat}(I:Inv X pins σ H s)(u:Un X.fs [] H H' s.heap h')(hok:HOk X.prog X.w H' h'):Inv X pins σ H' { s with heap:=h',toks:=t' }:=by
 obtain⟨m,⟨o,es,ep,ho,r⟩,_⟩:=id I.loc;obtain⟨sl,hL⟩:=u.any ho I.free (by simp);exact I.step (g':=s.gens) (d':=s.drawn) (ch:=[]) (λ_ z=>nomatch z) (λb o _ hb _ e n=>u.keep b o e n hb (by simp)) (λb o _ hb _ e n=>u.slot b o e n hb (by simp)) (λb o _ e n=>u.free b o e n (by simp)) (λb o _ e=>u.there b o e (by simp)) u.tups u.frzs u.tbls (λm' hm=>by
  obtain⟨o',es',ep',lq,r'⟩:=hm;rw[ho]at lq;cases lq;exact⟨_,es',ep',hL,r'⟩) hok I.bare
theorem Inv.call{g':Array GenState}{t':Nat}{d':Drawn}{ch:List Addr}(I:Inv X pins σ H s)(u:Un (frs X.stack) ch H H' s.heap h')(hok:HOk X.prog X.w H' h')(hg:AllBare g')
  (gh:∀b∈ch,(b∈X.ex\/X.s₀.heap.objs.size<=b)/\b≠X.env.locals/\(∀x c,X.env.cells.lookup x=some c->c≠b)/\∀p∈X.pn++pins,p.1≠b):
  Inv X pins σ H' { s with heap:=h',gens:=g',drawn:=d',toks:=t' }:=by
 obtain⟨m,⟨o,es,ep,ho,r⟩,_⟩:=id I.loc;obtain⟨sl,hL⟩:=u.any ho I.free λz=>(gh _ z).2.1 rfl
 exact I.step (ch:=ch) gh (λb o hL hb hc e n=>u.keep b o e n (λz=>(List.mem_cons.mp (I.stkSub b z)).elim hL hb) hc) (λb o _ _ hc e n=>u.any e n hc) (λb o hc e n=>u.free b o e n hc) (λb o hc e=>u.there b o e hc) u.tups u.frzs u.tbls (λm' hm=>by
  obtain⟨o',es',ep',lq,r'⟩:=hm;rw[ho]at lq;cases lq;exact⟨_,es',ep',hL,r'⟩) hok hg
theorem Inv.turned{t':Nat}{it:Addr}(I:Inv X pins σ H s)(k:∀b o,b≠it->s.heap.get? b=some o->h'.get? b=some o)(hn:H it=none)(hL:it≠X.env.locals)
  (h1:it∈X.ex\/X.s₀.heap.objs.size<=it) (h2:∀x c,X.env.cells.lookup x=some c->c≠it) (h3:∀p∈X.pn++pins,p.1≠it):Inv X pins σ H { s with heap:=h',toks:=t' }:=by
 have p6:∀b u,H b=some u->b≠it:=λb u e z=>by rw[z,hn]at e;cases e
 refine I.step (g':=s.gens) (d':=s.drawn) (ch:=[it]) (λb hb=>?_) (λb o _ _ hc e _=>k b o (λz=>hc (by simp[z])) e) (λb o _ _ hc e _=>⟨o.slots,k b o (λz=>hc (by simp[z])) e⟩) (λ_ _ _ _ n=>n)
  (λb o hc e=>⟨o,k b o (λz=>hc (by simp[z])) e⟩) (λ_ _ e=>e) (λ_ _ _ e=>e) (λb ps e=>⟨#[],by rw[e];simp⟩) (λm hm=>?_) (λb u e=>?_) I.bare
 ·have e:b=it:=by simpa using hb
  subst e;exact⟨h1,hL,h2,h3⟩
 ·obtain⟨o,es,ep,ho,r⟩:=hm;exact⟨o,es,ep,k _ o (Ne.symm hL) ho,r⟩
 ·refine(I.hok b u e).stay (λc v hc q=>k c v ?_ q) (λ_ q=>q) λ_ _ q=>q
  rcases hc with z|z
  ·rw[z];exact p6 b u e
  ·exact p6 c _ z
theorem Inv.tok(I:Inv X pins σ H s)(t:Nat):Inv X pins σ H { s with toks:=t }:=I.un (h':=s.heap) (t':=t) Un.refl I.hok
theorem Inv.kept{t':Nat}(I:Inv X pins σ H s)(k:∀b u,s.heap.get? b=some u->h'.get? b=some u):Inv X pins σ H { s with heap:=h',toks:=t' }:=I.un (Un.kept k) (I.hok.kept k)
theorem Inv.laid{a:Addr}{o:HO}{t':Nat}(I:Inv X pins σ H s)(k:∀b u,s.heap.get? b=some u->h'.get? b=some u)(hp:s.heap.objs.size<=a)(new:ObjOk X.prog X.w (upd H a o) h' a o):
  Inv X pins σ (upd H a o) { s with heap:=h',toks:=t' }:=I.un (Un.laid k hp (I.hok.fresh hp)) (I.hok.laid k hp new)
theorem Inv.write{x e:Addr}{o:HO}{t':Nat}(I:Inv X pins σ H s)(mu:Mut (H x))(he:e=x\/H e=some (.own x))(k:∀b u,b≠e->s.heap.get? b=some u->h'.get? b=some u)(oi:∃u,h'.get? e=some u)
  (new:ObjOk X.prog X.w (upd H x o) h' x o):Inv X pins σ (upd H x o) { s with heap:=h',toks:=t' }:=I.un (Un.write mu he k oi) (I.hok.write mu he k oi new)
theorem Inv.pins_of{de:List (Addr×Obj)}(I:Inv X pins σ H s)(h:∀p∈de,s.heap.get? p.1=some p.2/\H p.1=none/\p.1≠X.env.locals/\p.1∉X.fs/\∀v,p.2.data≠.cell v):Inv X de σ H s:=
 ⟨I.ok,I.os,I.bare,I.base,I.loc,I.cell,I.free,I.freeC,λp hp=>(List.mem_append.mp hp).elim (λz=>I.pin p (ll9 _ z)) (h p),I.hok,I.len⟩
theorem kv7{N:List Str}(hN:N.Nodup){i j:Nat}{x:Str}(a:N[i]?=some x)(b:N[j]?=some x):i=j:=by
 obtain⟨h1,e1⟩:=List.getElem?_eq_some_iff.mp a;obtain⟨h2,e2⟩:=List.getElem?_eq_some_iff.mp b;exact(List.getElem_inj hN).mp (e1.trans e2.symm)
theorem qqv{M:Model}{A:Around}{E:Value->Shared->Prop}{i:Nat}{x:Str}{v:V}{u:Value}{Q:Unit->Shared->Prop}(I:Inv X pins σ H s)(hN:X.N.Nodup)(hi:X.N[i]?=some x)(hx:Loc X.env.scope x)(r:RelV v u)
  (h:∀s',Inv X pins (σ.set i (some v)) H s'->(∃a,Heap.SameBut a s.heap s'.heap/\(a=X.env.locals\/X.env.cells.lookup x=some a))->Q () s') (hf:autoParam (X.fn x=true\/X.env.scope.names.lookup x=some .local) Ř):wpAny M A (storeName X.env x u) Q E s:=by
 obtain⟨m,hn,hl⟩:=id I.loc;have nk:(X.env.scope.kind == .class||(X.env.scope.kind == .module&&X.env.locals != X.env.globals))=false:=by rw[I.ok.kind];rfl
 have sk:i < σ.length:=by rw[I.len];exact(List.getElem?_eq_some_iff.mp hi).1
 have cne:=I.cne;have im:∀{a:Addr} {h':Heap},(∃o,s.heap.get? a=some o/\H a=none)->Heap.SameBut a s.heap h'->HOk X.prog X.w H h':=fun {a h'} ha hs b ob e=>by
  obtain⟨_,_,bo⟩:=ha;refine(I.hok b ob e).stay (λc w' hc q=>(hs.2 c ?_).trans q) (λ_ q=>q) λ_ _ q=>q
  rintro rfl;rcases hc with rfl|hc
  ·rw[bo]at e;cases e
  ·rw[bo]at hc;cases hc
 rcases hx with hk|hk
 ·refine wpAny_storeName_local hk hn (λh' nl hs=>?_) nk;obtain⟨oL,_,_,hoL,_⟩:=id hn;refine h _ ⟨I.ok,I.os,I.bare,⟨λb o e n hb hx=>?_,λb o e n hb hx=>?_,I.base.free,λb o e hx=>?_,I.base.tups,I.base.frzs,I.base.tbls⟩,⟨_,nl,λj y v' e1 e2 e3=>?_⟩,λy c e=>?_,I.free,I.freeC,λp hp=>?_,im ⟨oL,hoL,I.free⟩ hs,by simpa using I.len⟩ ⟨_,hs,.inl rfl⟩
  ·exact(hs.2 b (Y1 (Xh (Xj e) I.ok.above))).trans (I.base.keep b o e n hb hx)
  ·obtain⟨sl,e1⟩:=I.base.slot b o e n hb hx;exact⟨sl,(hs.2 b (Y1 (Xh (Xj e) I.ok.above))).trans e1⟩
  ·obtain⟨o',e1⟩:=I.base.there b o e hx;exact⟨o',(hs.2 b (Y1 (Xh (Xj e) I.ok.above))).trans e1⟩
  ·by_cases hj:j=i
   ·subst hj;rw[hi]at e1;cases e1;rw[Y2 sk]at e2;cases e2;exact⟨u,r,.inl ⟨hk,by simp⟩⟩
   ·rw[Xx (Ne.symm hj)]at e2;obtain⟨u',r',q⟩:=hl j y v' e1 e2 e3;refine⟨u',r',?_⟩;rcases q with⟨k,e⟩|⟨k,c,e,z⟩
    ·refine .inl ⟨k,?_⟩;have:y≠x:=λe=>hj (kv7 hN e1 (e▸hi))
     simp[this,e]
    ·exact .inr ⟨k,c,e,z.sameBut hs (cne y c e)⟩
  ·obtain⟨w',z⟩:=I.cell y c e;exact⟨w',z.sameBut hs (cne y c e)⟩
  ·obtain⟨e,n,ne,nf,d⟩:=I.pin p hp;exact⟨(hs.2 p.1 ne).trans e,n,ne,nf,d⟩
 ·have hfn:X.fn x=true:=by
   rcases hf with z|z
   ·exact z
   ·rw[z]at hk;cases hk
  obtain⟨c,hc⟩:=I.ok.has x (.inl hk);obtain⟨w',z⟩:=I.cell x c hc;refine wpAny_storeName_cell I.ok.kind hk hc z (λh' jl hs=>?_);obtain⟨oc,hoc,hocd⟩:=id z;refine h { s with heap:=h' } ⟨I.ok,I.os,I.bare,⟨λb o e n hb hx=>?_,λb o e n hb hx=>?_,I.base.free,λb o e hx=>?_,I.base.tups,I.base.frzs,I.base.tbls⟩,⟨m,hn.sameBut hs (Ne.symm (cne x c hc)),λj y v' e1 e2 e3=>?_⟩,λy c' e=>?_,I.free,I.freeC,λp hp=>?_,im ⟨oc,hoc,I.freeC x c hc⟩ hs,by simpa using I.len⟩ ⟨c,hs,.inr hc⟩
  ·exact(hs.2 b (Y1 (Xh (Xj e) (I.ok.cab x c hfn hc)))).trans (I.base.keep b o e n hb hx)
  ·obtain⟨sl,e1⟩:=I.base.slot b o e n hb hx;exact⟨sl,(hs.2 b (Y1 (Xh (Xj e) (I.ok.cab x c hfn hc)))).trans e1⟩
  ·obtain⟨o',e1⟩:=I.base.there b o e hx;exact⟨o',(hs.2 b (Y1 (Xh (Xj e) (I.ok.cab x c hfn hc)))).trans e1⟩
  ·by_cases hj:j=i
   ·subst hj;rw[hi]at e1;cases e1;rw[Y2 sk]at e2;cases e2;exact⟨u,r,.inr ⟨.inl hk,c,hc,jl⟩⟩
   ·rw[Xx (Ne.symm hj)]at e2;obtain⟨u',r',q⟩:=hl j y v' e1 e2 e3;refine⟨u',r',?_⟩;rcases q with q|⟨k,c',e,z'⟩
    ·exact .inl q
    ·refine .inr ⟨k,c',e,z'.sameBut hs ?_⟩;rintro rfl;exact hj (kv7 hN e1 (I.ok.inj _ _ _ e hc▸hi))
  ·by_cases cu:c'=c
   ·subst cu;exact⟨_,jl⟩
   ·obtain⟨w2,z2⟩:=I.cell y c' e;exact⟨w2,z2.sameBut hs cu⟩
  ·obtain⟨e,n,ne,nf,d⟩:=I.pin p hp;refine⟨(hs.2 p.1 ?_).trans e,n,ne,nf,d⟩;intro q;rw[q,hoc]at e;have q':oc=p.2:=oq9 e;exact d w' (by rw[<-q'];exact hocd)
theorem ZY{M:Model}{A:Around}{E:Value->Shared->Prop}{i:Nat}{x:Str}{v:V}{u:Value}{Q:Unit->Shared->Prop}(I:Inv X pins σ H s)(hN:X.N.Nodup)(hi:X.N[i]?=some x)(hx:Loc X.env.scope x)(r:RelV v u)
  (h:∀s',Inv X pins (σ.set i (some v)) H s'->Q () s') (hf:autoParam (X.fn x=true\/X.env.scope.names.lookup x=some .local) Ř):wpAny M A (storeName X.env x u) Q E s:=
 qqv I hN hi hx r (λs' I' _=>h s' I') hf
theorem Inv.call'{s':Shared}{ch:List Addr}(I:Inv X pins σ H s)(ho:s'.os=s.os)(u:Un (frs X.stack) ch H H' s.heap s'.heap)(hok:HOk X.prog X.w H' s'.heap)(hg:AllBare s'.gens)
  (gh:∀b∈ch,(b∈X.ex\/X.s₀.heap.objs.size<=b)/\b≠X.env.locals/\(∀x c,X.env.cells.lookup x=some c->c≠b)/\∀p∈X.pn++pins,p.1≠b):Inv X pins σ H' s':=by
 obtain⟨h',g',d',t',o'⟩:=s';have e:o'=s.os:=ho;subst e;exact I.call (g':=g') (t':=t') (d':=d') u hok hg gh
end
abbrev XK:=Value->Option Addr->Hp->Prop
abbrev St:=List (Option V)
abbrev VK:=V->Hp->Prop
abbrev TE:=St->Hp->VK->Prop
abbrev TT:=St->Hp->(Bool->Hp->Prop)->Prop
abbrev TA:=St->Hp->(List V->Hp->Prop)->Prop
structure Ends where
 nx:St->Hp->Prop
 rt:VK
 bk:St->Hp->Prop:=λ_ _=>False
 ct:St->Hp->Prop:=λ_ _=>False
abbrev TS:=Ends->St->Hp->Prop
noncomputable def EP(X:Cx)(pins:List (Addr×Obj))(σ:St)(Q:VK)(u:Value)(s':Shared):Prop:=∃v H',Inv X pins σ H' s'/\RelV v u/\Q v H'
noncomputable def TP(X:Cx)(pins:List (Addr×Obj))(σ:St)(Q:Bool->Hp->Prop)(b:Bool)(s':Shared):Prop:=∃H',Inv X pins σ H' s'/\Q b H'
noncomputable def AP(X:Cx)(pins:List (Addr×Obj))(σ:St)(Q:List V->Hp->Prop)(us:List Value)(s':Shared):Prop:=∃vs H',Inv X pins σ H' s'/\Vals vs us/\Q vs H'
noncomputable def SP(X:Cx)(pins:List (Addr×Obj))(D:Ends)(f:Flow)(s':Shared):Prop:=
 match f with
 |.next=>∃ σ' H',Inv X pins σ' H' s'/\D.nx σ' H'
 |.brk=>∃ σ' H',Inv X pins σ' H' s'/\D.bk σ' H'
 |.cont=>∃ σ' H',Inv X pins σ' H' s'/\D.ct σ' H'
 |.ret u=>∃v σ' H',Inv X pins σ' H' s'/\RelV v u/\D.rt v H'
noncomputable def PE(X:Cx)(e:Expr)(t:TE):Prop:=
 ∀(pins:List (Addr×Obj)) (s:Shared) (σ:St) (H:Hp) (Q:VK),Inv X pins σ H s->t σ H Q->wpAny (model X.prog X.w) X.A (eval e X.env) (EP X pins σ Q) X.xe s
noncomputable def PT(X:Cx)(e:Expr)(t:TT):Prop:=
 ∀(pins:List (Addr×Obj)) (s:Shared) (σ:St) (H:Hp) (Q:Bool->Hp->Prop),Inv X pins σ H s->t σ H Q->wpAny (model X.prog X.w) X.A (isTrue e X.env (eval e X.env)) (TP X pins σ Q) X.xe s
noncomputable def PW(X:Cx)(e:Expr)(t:TT):Prop:=
 ∀(fi:Sem Value) (pins:List (Addr×Obj)) (s:Shared) (σ:St) (H:Hp) (Q:Bool->Hp->Prop),Inv X pins σ H s->t σ H Q->wpAny (model X.prog X.w) X.A (isTrue e X.env fi) (TP X pins σ Q) X.xe s
theorem PW.pt{X:Cx}{e:Expr}{t:TT}(h:PW X e t):PT X e t:=h _
noncomputable def PA(X:Cx)(es:List Expr)(t:TA):Prop:=
 ∀(pos:Pos) (pins:List (Addr×Obj)) (s:Shared) (σ:St) (H:Hp) (Q:List V->Hp->Prop),Inv X pins σ H s->t σ H Q->wpAny (model X.prog X.w) X.A (spliced (backTo pos (starEach es X.env))) (AP X pins σ Q) X.xe s
noncomputable def PS(X:Cx)(st:Stmt)(t:TS):Prop:=
 ∀(pins:List (Addr×Obj)) (s:Shared) (σ:St) (H:Hp) (D:Ends),Inv X pins σ H s->t D σ H->wpAny (model X.prog X.w) X.A (exec st X.env) (SP X pins D) X.xe s
noncomputable def PSs(X:Cx)(st:List Stmt)(t:TS):Prop:=
 ∀(pins:List (Addr×Obj)) (s:Shared) (σ:St) (H:Hp) (D:Ends),Inv X pins σ H s->t D σ H->wpAny (model X.prog X.w) X.A (execs st X.env) (SP X pins D) X.xe s
theorem thn{α:Type}{t:Sem α}{Q Q':α->Shared->Prop}{M:Model}{A:Around}{E:Value->Shared->Prop}{s:Shared}(h:wpAny M A t Q E s)(hQ:∀a s,Q a s->Q' a s):wpAny M A t Q' E s:=Z4 h hQ λ_ _ x=>x
section
variable {X:Cx}
abbrev zV(i:Nat):TE:=fun σ H Q=>∃v,σ[i]?=some (some v)/\Q v H
abbrev tC(v:V):TE:=λ_ H Q=>Q v H
theorem wjj{i:Nat}{x:Str}{pos:Pos}(hN:X.N[i]?=some x)(hv:Vis X.env.scope x)(hd:autoParam ((x==("__debug__":Str))=false) ŕ)(gm:autoParam ((x==("__classdict__":Str))=false) ŕ):PE X (.Name x pos) (zV i):=by
 intro pins s σ H Q I h;obtain⟨v,e,h⟩:=h;obtain⟨m,hn,hl⟩:=I.loc;obtain⟨u,r,l⟩:=hl i x v hN e hv;have fin:EP X pins σ Q u s:=⟨v,H,I,r,h⟩;rcases l with⟨hk,hm⟩|⟨hk,c,hc,hcell⟩
 ·exact wpAny_Name (wpAny_loadName_local I.ok.kind hk hn hm fin) hd
 ·rcases hk with hk|hk
  ·exact wpAny_Name (wpAny_loadName_cell I.ok.kind hk hc hcell fin) hd
  ·exact wpAny_Name (wpAny_loadName_free I.ok.kind hk hc hcell fin gm) hd
theorem qvy{i j pos}:PE X (.Constant (.int i) j pos) (tC (.int i)):=λ_ _ _ H _ I h=>wpAny_Constant_int ⟨.int i,H,I.tok _,⟨_,rfl⟩,h⟩
theorem zx{b j pos}:PE X (.Constant (.bool b) j pos) (tC (.bl b)):=λ_ _ _ H _ I h=>Constant_bool ⟨.bl b,H,I,rfl,h⟩
theorem wjm{j pos}:PE X (.Constant .none j pos) (tC .non):=λ_ _ _ H _ I h=>Constant_none ⟨.non,H,I,rfl,h⟩
theorem vq1{x j pos}:PE X (.Constant (.str x) j pos) (tC (.str x)):=λ_ _ _ H _ I h=>Calls.Constant_str ⟨.str x,H,I.tok _,⟨_,rfl⟩,h⟩
noncomputable def Gl(X:Cx)(x:Str):Prop:=X.env.kindOf x=some .globalImplicit
theorem VW{E:Value->Shared->Prop}{pins:List (Addr×Obj)}{s:Shared}{σ:St}{H:Hp}{x:Str}{u:Value}{pos:Pos}{Q:Value->Shared->Prop}(I:Inv X pins σ H s)(hg:Gl X x)(hm:X.mg x=some u)(h:Q u s)
  (hd:autoParam ((x==("__debug__":Str))=false) ŕ):wpAny (model X.prog X.w) X.A (eval (.Name x pos) X.env) Q E s:=
 Calls.Name_function_global I.ok.kind hg (Calls.loadGlobal_global (by rw[I.ok.glob];exact I.mod.glob.keeps I.bk) hm h) hd
theorem Qj{E:Value->Shared->Prop}{pins:List (Addr×Obj)}{s:Shared}{σ:St}{H:Hp}{x:Str}{u:Value}{pos:Pos}{Q:Value->Shared->Prop}(I:Inv X pins σ H s)(hg:Gl X x)(hm:X.mg x=none)(hv:bootBuiltins x=some u)(h:Q u s)
  (hn:autoParam (x≠"__name__") ŕ) (hd:autoParam ((x==("__debug__":Str))=false) ŕ):wpAny (model X.prog X.w) X.A (eval (.Name x pos) X.env) Q E s:=by
 obtain⟨mb,h1,h2⟩:=I.mod.blt;exact Calls.Name_function_global I.ok.kind hg (Calls.loadGlobal_builtin (by rw[I.ok.glob];exact I.mod.glob.keeps I.bk) hm (by rw[I.ok.blt];exact h1.keeps I.bk) ((h2 x hn).trans hv) h) hd
theorem vvx{x:Str}{v:V}{u:Value}{pos:Pos}(hg:Gl X x)(hm:X.mg x=some u)(r:RelV v u)(hd:autoParam ((x==("__debug__":Str))=false) ŕ):PE X (.Name x pos) (tC v):=
 λ_ _ _ H _ I h=>VW I hg hm ⟨v,H,I,r,h⟩ hd
theorem vw2{x:Str}{v:V}{u:Value}{pos:Pos}(hg:Gl X x)(hm:X.mg x=none)(hv:bootBuiltins x=some u)(r:RelV v u)(hn:autoParam (x≠"__name__") ŕ)(hd:autoParam ((x==("__debug__":Str))=false) ŕ):PE X (.Name x pos) (tC v):=
 λ_ _ _ H _ I h=>Qj I hg hm hv ⟨v,H,I,r,h⟩ hn hd
variable {a b:Expr}{ta tb:TE}{pos:Pos}
variable {tA tB':TT}{jx:List Expr}
abbrev tAnd(t u:TT):TT:=fun σ H Q=>t σ H λc H1=>if c=true then u σ H1 Q else Q false H1
abbrev tOr(t u:TT):TT:=fun σ H Q=>t σ H λc H1=>if c=true then Q true H1 else u σ H1 Q
abbrev tNot(t:TT):TT:=fun σ H Q=>t σ H λc H1=>Q (!c) H1
theorem vvg(ha:PT X a tA):PW X (.BoolOp .And [a] pos) tA:=by
 intro wh pins s σ H Q I h;refine isTrue_and (thn (ha pins s σ H Q I h) λc s1 e=>?_);cases c with
 |true=>exact isTrue_and_nil e
 |false=>exact e
theorem wj8(ha:PT X a tA):PW X (.BoolOp .Or [a] pos) tA:=by
 intro wh pins s σ H Q I h;refine isTrue_or (thn (ha pins s σ H Q I h) λc s1 e=>?_);cases c with
 |false=>exact isTrue_or_nil e
 |true=>exact e
theorem wj9(ha:PT X a tA)(hb:PW X (.BoolOp .And (b::jx) pos) tB'):PW X (.BoolOp .And (a::b::jx) pos) (tAnd tA tB'):=by
 intro wh pins s σ H Q I h;refine isTrue_and (thn (ha pins s σ H _ I h) λc s1 ⟨H1,I1,q1⟩=>?_);cases c with
 |true=>exact hb wh pins s1 σ H1 Q I1 q1
 |false=>exact⟨H1,I1,q1⟩
theorem wvv(ha:PT X a tA)(hb:PW X (.BoolOp .Or (b::jx) pos) tB'):PW X (.BoolOp .Or (a::b::jx) pos) (tOr tA tB'):=by
 intro wh pins s σ H Q I h;refine isTrue_or (thn (ha pins s σ H _ I h) λc s1 ⟨H1,I1,q1⟩=>?_);cases c with
 |true=>exact⟨H1,I1,q1⟩
 |false=>exact hb wh pins s1 σ H1 Q I1 q1
abbrev wvb(ta tb:TE):TE:=fun σ H Q=>ta σ H λx H1=>∃c,x=.bl c/\if c=true then tb σ H1 Q else Q (.bl false) H1
abbrev tOrV(ta tb:TE):TE:=fun σ H Q=>ta σ H λx H1=>∃c,x=.bl c/\if c=true then Q (.bl true) H1 else tb σ H1 Q
theorem wjl{op}{t:TE}(h:PE X a t):PE X (.BoolOp op [a] pos) t:=λpins s σ H Q I hw=>BoolOp_one (h pins s σ H Q I hw)
theorem wjr(ha:PE X a ta)(hb:PE X (.BoolOp .And (b::jx) pos) tb):PE X (.BoolOp .And (a::b::jx) pos) (wvb ta tb):=by
 intro pins s σ H Q I h;refine BoolOp_and (thn (ha pins s σ H _ I h) λv s1 ⟨x,H1,I1,r1,q1⟩=>?_);obtain⟨c,rfl,q1⟩:=q1;cases r1;refine wpAny_truthy_bool ?_;cases c with
 |true=>exact hb pins s1 σ H1 Q I1 q1
 |false=>exact⟨.bl false,H1,I1,rfl,q1⟩
theorem ww2(ha:PE X a ta)(hb:PE X (.BoolOp .Or (b::jx) pos) tb):PE X (.BoolOp .Or (a::b::jx) pos) (tOrV ta tb):=by
 intro pins s σ H Q I h;refine BoolOp_or (thn (ha pins s σ H _ I h) λv s1 ⟨x,H1,I1,r1,q1⟩=>?_);obtain⟨c,rfl,q1⟩:=q1;cases r1;refine wpAny_truthy_bool ?_;cases c with
 |false=>exact hb pins s1 σ H1 Q I1 q1
 |true=>exact⟨.bl true,H1,I1,rfl,q1⟩
abbrev tIf(t:TT)(ta tb:TE):TE:=fun σ H Q=>t σ H λc H1=>if c=true then ta σ H1 Q else tb σ H1 Q
theorem vjd{c:Expr}(hc:PT X c tA)(ha:PE X a ta)(hb:PE X b tb):PE X (.IfExp c a b pos) (tIf tA ta tb):=by
 intro pins s σ H Q I h;refine wpAny_IfExp (thn (hc pins s σ H _ I h) λd s1 ⟨H1,I1,q1⟩=>?_);cases d with
 |true=>exact ha pins s1 σ H1 Q I1 q1
 |false=>exact hb pins s1 σ H1 Q I1 q1
end
noncomputable def SqL(K:PySem.W.Frag)(H:Hp)(a:Addr)(xs:List V):Prop:=
 Rd H a (.lst xs) \/
  ∃(o:Obj) (ak:Array Value) (n:Nat),K.lookup a=some o/\o.cls=.type "list"/\o.dict=none/\o.data=.seq ak n/\ak.size<=sizeLine/\Vals xs ak.toList
noncomputable def SqT(K:PySem.W.Frag)(H:Hp)(a:Addr)(xs:List V):Prop:=
 Rd H a (.tup xs) \/
  ∃(o:Obj) (ak:Array Value) (n:Nat),K.lookup a=some o/\o.cls=.type "tuple"/\o.dict=none/\o.data=.seq ak n/\ak.size<=sizeLine/\Vals xs ak.toList
noncomputable def absV:Value->Option V
 |.none=>some .non
 |.bool b=>some (.bl b)
 |.int i _=>some (.int i)
 |.str x _=>some (.str x)
 |.bytes b _=>some (.byt b)
 |.float b _=>some (.flt b)
 |.ref a=>some (.ref a)
 |.type n=>some (.ty n)
 |_=>none
theorem RelV.abs{x:V}{u:Value}(r:RelV x u):absV u=some x:=by
 cases x with
 |non=>cases r;rfl
 |bl _=>cases r;rfl
 |int _=>obtain⟨t,rfl⟩:=r;rfl
 |str _=>obtain⟨t,rfl⟩:=r;rfl
 |byt _=>obtain⟨t,rfl⟩:=r;rfl
 |flt _=>obtain⟨t,rfl⟩:=r;rfl
 |ref _=>cases r;rfl
 |ty _=>cases r;rfl
theorem RelV.inj{x y:V}{u:Value}(r:RelV x u)(q:RelV y u):x=y:=oq9 (r.abs.symm.trans q.abs)
theorem Vals.inj:∀{xs ys:List V} {us:List Value},Vals xs us->Vals ys us->xs=ys
 |_,_,_,.nil,.nil=>rfl
 |_,_,_,.cons r t,.cons r' t'=>by rw[r.inj r',Vals.inj t t']
section
variable {X:Cx}{pins:List (Addr×Obj)}{σ:St}{H:Hp}{s:Shared}{a:Addr}{xs ys:List V}
theorem SqL.of{K:PySem.W.Frag}(h:H a=some (.lst xs)):SqL K H a xs:=.inl (.inl h)
theorem SqT.of{K:PySem.W.Frag}(h:H a=some (.tup xs)):SqT K H a xs:=.inl (.inl h)
theorem Inv.list(I:Inv X pins σ H s)(h:SqL X.K H a xs):∃ak:List Value,Vals xs ak/\PlainL s.heap a ak.toArray/\xs.length<=sizeLine:=by
 rcases h with h|⟨o,ak,n,hk,hc,hd,hs,hz,r⟩
 ·obtain⟨z,ak,n,r,e⟩:=h.ok I.hok;exact⟨ak,r,⟨_,n,e,rfl,rfl,rfl⟩,z⟩
 ·refine⟨ak.toList,r,⟨o,n,I.kIn a o hk,hc,hd,by simpa using hs⟩,?_⟩;have e:=r.length;simp only[Ya]at e;omega
theorem Inv.tuple(I:Inv X pins σ H s)(h:SqT X.K H a xs):∃ak:List Value,Vals xs ak/\IsTup s.heap a ak.toArray/\xs.length<=sizeLine:=by
 rcases h with h|⟨o,ak,n,hk,hc,_,hs,hz,r⟩
 ·obtain⟨z,ak,r,p⟩:=h.ok I.hok;exact⟨ak,r,p.tup,z⟩
 ·refine⟨ak.toList,r,⟨o,I.kIn a o hk,hc,n,by simpa using hs⟩,?_⟩;have e:=r.length;simp only[Ya]at e;omega
theorem Inv.tupleD(I:Inv X pins σ H s)(h:SqT X.K H a xs):∃o,s.heap.get? a=some o/\o.dict=none:=by
 rcases h with h|⟨o,ak,n,hk,hc,hd,hs,hz,r⟩
 ·obtain⟨z,ak,r,o,e,_,d,_⟩:=h.ok I.hok;exact⟨o,e,d⟩
 ·exact⟨o,I.kIn a o hk,hd⟩
theorem Inv.list_inj(I:Inv X pins σ H s)(h:SqL X.K H a xs)(h':SqL X.K H a ys):xs=ys:=by
 obtain⟨ak,r,⟨o,n,e,_,_,d⟩,_⟩:=I.list h;obtain⟨its',r',⟨o',n',e',_,_,d'⟩,_⟩:=I.list h';rw[e]at e';cases e';rw[d]at d';injection d' with d1 _;have:ak=its':=by simpa using congrArg Array.toList d1
 subst this;exact r.inj r'
theorem Inv.tuple_inj(I:Inv X pins σ H s)(h:SqT X.K H a xs)(h':SqT X.K H a ys):xs=ys:=by
 obtain⟨ak,r,⟨o,e,_,n,d⟩,_⟩:=I.tuple h;obtain⟨its',r',⟨o',e',_,n',d'⟩,_⟩:=I.tuple h';rw[e]at e';cases e';rw[d]at d';injection d' with d1 _;have:ak=its':=by simpa using congrArg Array.toList d1
 subst this;exact r.inj r'
end
abbrev Cx.wish(X:Cx)(E:Value->Shared->Prop):Cx:={ X with xe:=E }
abbrev Cx.nox(X:Cx):Cx:=X.wish λ_ _=>False
theorem Cx.Ok.wish{X:Cx}(ok:X.Ok)(E:Value->Shared->Prop):(X.wish E).Ok:=
 ⟨ok.mod,ok.kind,ok.glob,ok.blt,ok.above,ok.inj,ok.has,ok.cab,ok.hd,ok.frames,ok.stk,ok.exf,ok.bs,ok.bsz,ok.noex,ok.exfs,ok.funs,ok.frf⟩
theorem Cx.Ok.unwish{X:Cx}{E:Value->Shared->Prop}(ok:(X.wish E).Ok):X.Ok:=
 ⟨ok.mod,ok.kind,ok.glob,ok.blt,ok.above,ok.inj,ok.has,ok.cab,ok.hd,ok.frames,ok.stk,ok.exf,ok.bs,ok.bsz,ok.noex,ok.exfs,ok.funs,ok.frf⟩
section
variable {X:Cx}{pins:List (Addr×Obj)}{σ:St}{H:Hp}{s:Shared}{E:Value->Shared->Prop}
theorem Inv.wish(I:Inv X pins σ H s)(E:Value->Shared->Prop):Inv (X.wish E) pins σ H s:=⟨I.ok.wish E,I.os,I.bare,I.base,I.loc,I.cell,I.free,I.freeC,I.pin,I.hok,I.len⟩
theorem Inv.unwish(I:Inv (X.wish E) pins σ H s):Inv X pins σ H s:=⟨I.ok.unwish,I.os,I.bare,I.base,I.loc,I.cell,I.free,I.freeC,I.pin,I.hok,I.len⟩
theorem SP.unwish{D:Ends}{f:Flow}{s':Shared}(h:SP (X.wish E) pins D f s'):SP X pins D f s':=by
 cases f with
 |next=>obtain⟨σ',H',I,q⟩:=h;exact⟨σ',H',I.unwish,q⟩
 |brk=>obtain⟨σ',H',I,q⟩:=h;exact⟨σ',H',I.unwish,q⟩
 |cont=>obtain⟨σ',H',I,q⟩:=h;exact⟨σ',H',I.unwish,q⟩
 |ret u=>obtain⟨v,σ',H',I,r,q⟩:=h;exact⟨v,σ',H',I.unwish,r,q⟩
end
section
variable {X:Cx}{st:Stmt}{jx:List Stmt}{t u:TS}{e:Expr}{te:TE}{pos:Pos}
abbrev wv9:TS:=λD σ H=>D.nx σ H
abbrev tSeq(t u:TS):TS:=λD σ H=>t { D with nx:=u D } σ H
theorem vvn:PSs X [] wv9:=λ_ _ σ H _ I h=>Yo ⟨σ,H,I,h⟩
theorem jx9(h1:PS X st t)(h2:PSs X jx u):PSs X (st::jx) (tSeq t u):=by
 intro pins s σ H D I h;refine wpAny_execs_cons (thn (h1 pins s σ H { D with nx:=u D } I h) λf s1 q=>?_);cases f with
 |next=>
  obtain⟨σ',H',I',q⟩:=q;exact h2 pins s1 σ' H' D I' q
 |ret v=>exact q
 |brk=>exact q
 |cont=>exact q
theorem vvm(h1:PS X st t):PSs X [st] t:=by
 intro pins s σ H D I h;refine wpAny_execs_cons (thn (h1 pins s σ H D I h) λf s1 q=>?_);cases f with
 |next=>exact Yo q
 |ret v=>exact q
 |brk=>exact q
 |cont=>exact q
theorem Inv.quiet{pins:List (Addr×Obj)}{σ:St}{H:Hp}{s:Shared}(I:Inv X pins σ H s):interactive X.env=false:=by simp[interactive,I.ok.kind]
abbrev vz6(te:TE):TS:=λD σ H=>te σ H λ_ H1=>D.nx σ H1
theorem kz3(he:PE X e te)(hs:autoParam (swapsWith e none pos.line X.env=pure false) Ŕ):PS X (.Expr e pos) (vz6 te):=by
 intro pins s σ H D I h;exact wpAny_Expr_any (thn (he pins s σ H _ I h) λv s1 ⟨x,H1,I1,r1,q1⟩=>⟨σ,H1,I1,q1⟩) I.quiet hs
abbrev tRet(te:TE):TS:=λD σ H=>te σ H D.rt
theorem wjb(he:PE X e te):PS X (.Return (some e) pos) (tRet te):=by
 intro pins s σ H D I h;exact wpAny_Return_some (thn (he pins s σ H _ I h) λv s1 ⟨x,H1,I1,r1,q1⟩=>⟨x,σ,H1,I1,r1,q1⟩)
abbrev tIfS(c:TT)(t u:TS):TS:=λD σ H=>c σ H λb H1=>if b=true then t D σ H1 else u D σ H1
theorem wvw{c:Expr}{a b:List Stmt}{tc:TT}(hc:PT X c tc)(ha:PSs X a t)(hb:PSs X b u):PS X (.If c a b pos) (tIfS tc t u):=by
 intro pins s σ H D I h;refine wpAny_If (thn (hc pins s σ H _ I h) λd s1 ⟨H1,I1,q1⟩=>?_);cases d with
 |true=>exact ha pins s1 σ H1 D I1 q1
 |false=>exact hb pins s1 σ H1 D I1 q1
end
abbrev TG:=V->St->Hp->(St->Hp->Prop)->Prop
abbrev TGs:=List V->St->Hp->(St->Hp->Prop)->Prop
noncomputable def PG(X:Cx)(dq:Expr)(t:TG):Prop:=
 ∀(pins:List (Addr×Obj)) (s:Shared) (σ:St) (H:Hp) (v:V) (u:Value) (Q:St->Hp->Prop),Inv X pins σ H s->RelV v u->t v σ H Q ->
  wpAny (model X.prog X.w) X.A (assign dq X.env u) (λ_ s'=>∃ σ' H',Inv X pins σ' H' s'/\Q σ' H') X.xe s
noncomputable def PGs(X:Cx)(ts:List Expr)(t:TGs):Prop:=
 ∀(pins:List (Addr×Obj)) (s:Shared) (σ:St) (H:Hp) (vs:List V) (us:List Value) (Q:St->Hp->Prop),Inv X pins σ H s->Vals vs us->t vs σ H Q ->
  wpAny (model X.prog X.w) X.A (assignInOrder ((assignEach ts X.env).map (·.2)) us) (λ_ s'=>∃ σ' H',Inv X pins σ' H' s'/\Q σ' H') X.xe s
section
variable {X:Cx}{pos:Pos}
abbrev Z8(i:Nat):TG:=λv σ H Q=>Q (σ.set i (some v)) H
theorem J8{i:Nat}{x:Str}(hN:X.N.Nodup)(hi:X.N[i]?=some x)(hx:Loc X.env.scope x)(hf:autoParam (X.fn x=true\/X.env.scope.names.lookup x=some .local) Ř):PG X (.Name x pos) (Z8 i):=by
 intro pins s σ H v u Q I r h;exact wpAny_assign_Name (ZY I hN hi hx r (λs' I'=>⟨_,H,I',h⟩) hf)
abbrev wxx:TGs:=λvs σ H Q=>vs=[]/\Q σ H
abbrev wkz(t:TG)(u:TGs):TGs:=λvs σ H Q=>∃v r,vs=v::r/\t v σ H fun σ' H'=>u r σ' H' Q
theorem Vw:PGs X [] wxx:=by
 intro pins s σ H vs us Q I r h;obtain⟨e,h⟩:=h;subst e;cases r;exact assignInOrder_nil ⟨σ,H,I,h⟩
theorem wX{e:Expr}{es:List Expr}{t:TG}{u:TGs}(h1:PG X e t)(h2:PGs X es u)
  (hs:autoParam ((assignEach (e::es) X.env).map (·.2)=assign e X.env::(assignEach es X.env).map (·.2)) Ŕ):PGs X (e::es) (wkz t u):=by
 intro pins s σ H vs us Q I r h;obtain⟨v,vr,e1,h⟩:=h;subst e1;cases r with
 |cons r rr=>
  rw[hs];refine assignInOrder_cons (thn (h1 pins s σ H _ _ _ I r h) λ_ s1 ⟨σ1,H1,I1,q1⟩=>?_);exact h2 pins s1 σ1 H1 _ _ Q I1 rr q1
abbrev wxb(te:TE)(g:TG):TS:=λD σ H=>te σ H λx H1=>g x σ H1 D.nx
theorem wjd{tg e:Expr}{te:TE}{g:TG}(he:PE X e te)(hg:PG X tg g)(hs:autoParam (swapsWithSole [tg] e pos.line X.env=pure false) Ŕ)(hw:autoParam (swappedStores [tg] e X.env=pure none) Ŕ)
  (h1:autoParam ((assignEach [tg] X.env).map (·.2)=[assign tg X.env]) Ŕ):PS X (.Assign [tg] e pos) (wxb te g):=by
 intro pins s σ H D I h;refine wpAny_Assign_stores (thn (he pins s σ H _ I h) λv s1 ⟨x,H1,I1,r1,q1⟩=>?_) hs hw;rw[h1];exact thn (hg pins s1 σ H1 x v _ I1 r1 q1) λ_ s2 q=>q
theorem vkw{i:Nat}{x:Str}{e:Expr}{te:TE}{cg:Pos}(hN:X.N.Nodup)(hi:X.N[i]?=some x)(hx:Loc X.env.scope x)(he:PE X e te)(hs:autoParam (swapsWith e (some (.Name x cg)) pos.line X.env=pure false) Ŕ)(hf:autoParam (X.fn x=true\/X.env.scope.names.lookup x=some .local) Ř):
  PS X (.Assign [.Name x cg] e pos) (wxb te (Z8 i)):=by
 intro pins s σ H D I h;refine wpAny_Assign_Name (thn (he pins s σ H _ I h) λv s1 ⟨y,H1,I1,r1,q1⟩=>?_) hs;exact ZY I1 hN hi hx r1 (λs2 I2=>⟨_,H1,I2,q1⟩) hf
end
section
variable {X:Cx}{pos:Pos}
abbrev vz1(c:TT)(tb:TS):TS:=λD σ H=>∃W:Nat->St->Hp->Prop,(∃m,W m σ H)/\∀m σ H,W m σ H ->
 c σ H λb H1=>if b=true then ∃N:St->Hp->Prop,(∀ σ' H',N σ' H'->∃m',m'<m/\W m' σ' H')/\tb { D with nx:=N,ct:=N,bk:=D.nx } σ H1 else D.nx σ H1
theorem vj4{c:Expr}{body:List Stmt}{tc:TT}{tb:TS}(hp:PassesOwn (model X.prog X.w) X.A X.env X.xe)(hc:PT X c tc)(hb:PSs X body tb):PS X (.While c body [] pos) (vz1 tc tb):=by
 intro pins s σ H D I h;obtain⟨W,⟨m0,w0⟩,fb⟩:=h;refine wpAny_While (codeAny_whileLoop (λn s'=>∃ σ' H',Inv X pins σ' H' s'/\W n σ' H') ?_ m0 ⟨σ,H,I,w0⟩);rintro n s1 ⟨σ1,H1,I1,w1⟩;refine Yw hp (thn (hc pins s1 σ1 H1 _ I1 (fb n σ1 H1 w1)) λb s2 ⟨H2,I2,q2⟩=>?_);cases b with
 | true=>
  obtain⟨N,hN,q2⟩:=q2;rw[Xa rfl];refine Yw hp (thn (hb pins s2 σ1 H2 _ I2 q2) λf s3 q3=>?_);cases f with
  |next=>
   obtain⟨σ3,H3,I3,n3⟩:=q3;obtain⟨m',hm,w3⟩:=hN σ3 H3 n3;exact⟨m',hm,σ3,H3,I3,w3⟩
  |cont=>
   obtain⟨σ3,H3,I3,n3⟩:=q3;obtain⟨m',hm,w3⟩:=hN σ3 H3 n3;exact⟨m',hm,σ3,H3,I3,w3⟩
  |brk=>exact q3
  |ret v=>exact q3
 |false=>
  rw[Xe Bool.false_ne_true];exact Yo ⟨σ1,H2,I2,q2⟩
end
structure It where
 go:Nat->Hp->Prop
 yld:Nat->Hp->V->Hp->Prop
 stop:Nat->Hp->Prop
noncomputable def ww(X:Cx)(pins:List (Addr×Obj))(H:Hp)(b:Addr):Prop:=
 H b=none/\b≠X.env.locals/\b∉X.fs/\(b∈X.ex\/X.s₀.heap.objs.size<=b)/\(∀x c,X.env.cells.lookup x=some c->c≠b)/\∀p∈X.pn++pins,p.1≠b
theorem Inv.fpOk{X:Cx}{pins:List (Addr×Obj)}{σ:St}{H H':Hp}{s:Shared}{b:Addr}(I:Inv X pins σ H s)(hb:s.heap.objs.size<=b)(hn:H' b=none):ww X pins H' b:=by
 refine⟨hn,Nat.ne_of_gt (Xh I.lt hb),I.nofs hb,.inr (Y4 I.sz hb),λx c e z=>?_,λp hp z=>?_⟩
 ·obtain⟨v,q⟩:=I.cell x c e;exact absurd (Xh q.lt (by rw[z];exact hb)) (Yl _)
 ·exact absurd (Xh (Xj (I.pin p hp).1) (by rw[z];exact hb)) (Yl _)
structure Turn (P:Program)(w:World)(K:PySem.W.Frag)(tg:Expr)(J:It)(fp:List Addr)(it:Addr)(tn:Nat->Heap->Prop):Prop where
 mem:it∈fp
 obj:∀i h,tn i h->∀b∈fp,∃o,h.get? b=some o/\∀v,o.data≠.cell v
 keep:∀i h h',tn i h->(∀b∈fp,∀o,h.get? b=some o->h'.get? b=some o)->tn i h'
 item:∀(X:Cx),X.prog=P->X.w=w->X.K=K->X.calm=true->∀(i:Nat) (pins:List (Addr×Obj)) (s:Shared) (σ:St) (H:Hp) (E:Value->Shared->Prop),Inv X pins σ H s->(∀b∈fp,ww X pins H b)->tn i s.heap->J.go i H ->
  wpAny (model P w) X.A (pyNext (.ref it)) (λr s1=>∃u,r=some u /\
   wpAny (model P w) X.A (letOwnedTupleGo tg (.ref it) u) (λ_ s2=>∃x H',Inv X pins σ H' s2/\RelV x u/\J.yld i H x H'/\tn (i+1) s2.heap/\∀b∈fp,H' b=none) E s1) E s
 done:∀(X:Cx),X.prog=P->X.w=w->X.K=K->X.calm=true->∀(i:Nat) (pins:List (Addr×Obj)) (s:Shared) (σ:St) (H:Hp) (E:Value->Shared->Prop),Inv X pins σ H s->(∀b∈fp,ww X pins H b)->tn i s.heap->J.stop i H ->
  wpAny (model P w) X.A (pyNext (.ref it)) (λr s1=>r=none/\Inv X pins σ H s1) E s
 self:∀(A:Around) (i:Nat) (s:Shared) (Q:Value->Shared->Prop) (E:Value->Shared->Prop),tn i s.heap->Q (.ref it) s->wpAny (model P w) A (pyIter (.ref it)) Q E s
abbrev TI:=St->Hp->(It->Hp->Prop)->Prop
noncomputable def PIE(X:Cx)(pins:List (Addr×Obj))(σ:St)(tg:Expr)(R:It->Hp->Prop)(itv:Value)(s2:Shared):Prop:=
 ∃(it:Addr) (fp:List Addr) (tn:Nat->Heap->Prop) (J:It) (H':Hp),itv=.ref it/\Inv X pins σ H' s2/\Turn X.prog X.w X.K tg J fp it tn/\tn 0 s2.heap/\(∀b∈fp,ww X pins H' b)/\R J H'
noncomputable def PI(X:Cx)(tg iter:Expr)(wi:TI):Prop:=
 ∀(pins:List (Addr×Obj)) (s:Shared) (σ:St) (H:Hp) (R:It->Hp->Prop),Inv X pins σ H s->wi σ H R ->
  wpAny (model X.prog X.w) X.A (eval iter X.env) (λv s1=>wpAny (model X.prog X.w) X.A (pyIter v) (PIE X pins σ tg R) X.xe s1) X.xe s
theorem vjv {M : Model} {A : Around} {E : Value -> Shared -> Prop} {s : Shared} {tg : Expr} {it : Addr} {u : Value} {o : Obj} {n : String} {vs : Array Value} {Q : Unit -> Shared -> Prop} (ho : s.heap.get? it = some o) (hc : o.cls = .type n) (hd : o.data = .fields vs)
    (hn : ["enumerate", "zip", "dict_itemiterator", "dict_reverseitemiterator", "odict_iterator", "itertools.zip_longest", "itertools.pairwise"].contains n = false) (hQ : Q () s): wpAny M A (letOwnedTupleGo tg (.ref it) u) Q E s:= by
  unfold letOwnedTupleGo;cases tg <;> first
    |exact X4 hQ
    |(cases u <;> first
        |exact X4 hQ
        | (refine X0 (wpAny_load ho ?_)
           rw[hc, hd];show wpAny M A (if(["enumerate", "zip", "dict_itemiterator", "dict_reverseitemiterator", "odict_iterator", "itertools.zip_longest", "itertools.pairwise"].contains n&&vs[0]? == some (rawInt _)) = true then _ else _) Q E s;rw[Xe (by intro h; rw[hn, Bool.false_and]at h; cases h)];exact X4 hQ))
noncomputable def Itl(K:PySem.W.Frag)(a:Addr):It:=
 ⟨λi H=>∃xs x,SqL K H a xs/\xs[i]?=some x,λi H x H'=>H'=H/\∀xs,SqL K H a xs->xs[i]?=some x,λi H=>∃xs,SqL K H a xs/\xs.length<=i⟩
noncomputable def Itt(K:PySem.W.Frag)(a:Addr):It:=
 ⟨λi H=>∃xs x,SqT K H a xs/\xs[i]?=some x,λi H x H'=>H'=H/\∀xs,SqT K H a xs->xs[i]?=some x,λi H=>∃xs,SqT K H a xs/\xs.length<=i⟩
noncomputable def Itr(lo:Int)(n:Nat):It:=⟨λi _=>i<n,λi H x H'=>H'=H/\x=.int (lo+i),λi _=>n<=i⟩
theorem qqn{P:Program}{w:World}{K:PySem.W.Frag}{tg:Expr}(a it:Addr):Turn P w K tg (Itl K a) [it] it (λi h=>h.IsListIter it a i) where
 mem:=by simp
 obj:=λi h st b hb=>by
  have e:b=it:=by simpa using hb
  subst e;obtain⟨o,e,c,d⟩:=st;exact⟨o,e,λv z=>by rw[d]at z;cases z⟩
 keep:=λi h h' st k=>st.at λo e=>k it (by simp) o e
 item:=by
  intro X hP hw hK hc i pins s σ H E I hf st hg;subst hP hw hK;obtain⟨xs,x,hq,hx⟩:=hg;obtain⟨ak,rv,p,hz⟩:=I.list hq;obtain⟨u,hu,ru⟩:=rv.get hx;obtain⟨f0,f1,f2,f3,f4,f5⟩:=hf it (by simp);refine wpAny_pyNext_list_item st p.isList (x:=u) (by simpa using hu) λh' cy sb=>?_
  have I1:Inv X pins σ H { s with heap:=h' }:=I.turned (t':=s.toks) (λb o hb e=>(sb.2 b hb).trans e) f0 f1 f3 f4 f5;obtain⟨o,e,c,d⟩:=id cy;exact⟨u,rfl,vjv (s:={ s with heap:=h' }) e c d (by decide) ⟨x,H,I1,ru,⟨rfl,λys hy=>by rw[I.list_inj hy hq];exact hx⟩,cy,λb hb=>(hf b hb).1⟩⟩
 done:=by
  intro X hP hw hK hc i pins s σ H E I hf st hg;subst hP hw hK;obtain⟨xs,hq,hx⟩:=hg;obtain⟨ak,rv,p,hz⟩:=I.list hq;obtain⟨f0,f1,f2,f3,f4,f5⟩:=hf it (by simp);have hl:=rv.length;exact wpAny_pyNext_list_end (I.ok.hd hc) st p.isList (by simp;omega) λh' eb=>⟨rfl,I.turned (t':=s.toks) (λb o hb e=>eb b o hb e) f0 f1 f3 f4 f5⟩
 self:=λ_ _ _ _ _ st h=>wpAny_pyIter_listiter st h
theorem qkk{P:Program}{w:World}{K:PySem.W.Frag}{tg:Expr}(a it:Addr):Turn P w K tg (Itt K a) [it] it (λi h=>h.IsTupleIter it a i) where
 mem:=by simp
 obj:=λi h st b hb=>by
  have e:b=it:=by simpa using hb
  subst e;obtain⟨o,e,c,d⟩:=st;exact⟨o,e,λv z=>by rw[d]at z;cases z⟩
 keep:=λi h h' st k=>st.at λo e=>k it (by simp) o e
 item:=by
  intro X hP hw hK hc i pins s σ H E I hf st hg;subst hP hw hK;obtain⟨xs,x,hq,hx⟩:=hg;obtain⟨ak,rv,p,hz⟩:=I.tuple hq;obtain⟨u,hu,ru⟩:=rv.get hx;obtain⟨f0,f1,f2,f3,f4,f5⟩:=hf it (by simp);refine wpAny_pyNext_tuple_item st (show s.heap.IsTuple a ak.toArray from p) (x:=u) (by simpa using hu) λh' cy sb=>?_
  have I1:Inv X pins σ H { s with heap:=h' }:=I.turned (t':=s.toks) (λb o hb e=>(sb.2 b hb).trans e) f0 f1 f3 f4 f5;obtain⟨o,e,c,d⟩:=id cy;exact⟨u,rfl,vjv (s:={ s with heap:=h' }) e c d (by decide) ⟨x,H,I1,ru,⟨rfl,λys hy=>by rw[I.tuple_inj hy hq];exact hx⟩,cy,λb hb=>(hf b hb).1⟩⟩
 done:=by
  intro X hP hw hK hc i pins s σ H E I hf st hg;subst hP hw hK;obtain⟨xs,hq,hx⟩:=hg;obtain⟨ak,rv,p,hz⟩:=I.tuple hq;obtain⟨f0,f1,f2,f3,f4,f5⟩:=hf it (by simp);have hl:=rv.length;exact wpAny_pyNext_tuple_end (I.ok.hd hc) st (show s.heap.IsTuple a ak.toArray from p) (by simp;omega) λh' eb=>⟨rfl,I.turned (t':=s.toks) (λb o hb e=>eb b o hb e) f0 f1 f3 f4 f5⟩
 self:=λ_ _ _ _ _ st h=>wpAny_pyIter_tupleiter st h
theorem qkl{P:Program}{w:World}{K:PySem.W.Frag}{tg:Expr}(it:Addr)(lo:Int)(n:Nat):Turn P w K tg (Itr lo n) [it] it (λi h=>IsRangeIter h it (lo+(i:Nat)*1) ((n:Int) - (i:Nat)) 1) where
 mem:=by simp
 obj:=λi h st b hb=>by
  have e:b=it:=by simpa using hb
  subst e;exact⟨_,st,λv z=>by
   have z':Data.fields _=Data.cell v:=z;cases z'⟩
 keep:=λi h h' st k=>k it (by simp) _ st
 item:=by
  intro X hP hw hK hc i pins s σ H E I hf st hg;subst hP hw hK;obtain⟨f0,f1,f2,f3,f4,f5⟩:=hf it (by simp);have W:=Walks.range (prog:=X.prog) (w:=X.w) (I.ok.hd hc) it lo 1 n;refine W.item i s _ _ hg st λv h' tk hv cy kk=>?_
  obtain⟨t,rfl⟩:=hv;have I1:Inv X pins σ H { s with heap:=h',toks:=tk }:=I.turned (λb o hb e=>kk b o (by simpa using hb) e) f0 f1 f3 f4 f5;refine⟨_,rfl,vjv (s:={ s with heap:=h',toks:=tk }) (n:="range_iterator") cy rfl rfl (by decide) ⟨.int (lo+i),H,I1,⟨t,?_⟩,⟨rfl,rfl⟩,cy,λb hb=>(hf b hb).1⟩⟩;rw[Int.mul_one]
 done:=by
  intro X hP hw hK hc i pins s σ H E I hf st hg;subst hP hw hK;obtain⟨f0,f1,f2,f3,f4,f5⟩:=hf it (by simp);exact wpAny_pyNext_range_end (I.ok.hd hc) st (by have:n<=i:=hg;omega) λh' eb=>⟨rfl,I.turned (t':=s.toks) (λb o hb e=>eb b o hb e) f0 f1 f3 f4 f5⟩
 self:=λ_ _ _ _ _ st h=>wpAny_pyIter_rangeiter st h
section
variable {X:Cx}{tg:Expr}
theorem qjb{pins:List (Addr×Obj)}{σ:St}{H:Hp}{s:Shared}{R:It->Hp->Prop}{E:Value->Shared->Prop}{lo hi:Int}{t u v:Tok}{tk:Nat}(I:Inv X pins σ H s)(h1:-(2 ^ 62)<=lo)(h2:lo<2 ^ 62)(h3:-(2 ^ 62)<=hi)(h4:hi<2 ^ 62)
  (q:R (Itr lo (hi - lo).toNat) H):wpAny (model X.prog X.w) X.A (pyIter (.ref s.heap.objs.size)) (PIE X pins σ tg R) E { s with heap:=s.heap.push { cls:=.type "range",data:=.fields #[.int lo t,.int hi u,.int 1 v] },toks:=tk }:=by
 refine wpAny_pyIter_range (IsRange.new ..) (small_one h1 h2 h3 h4) ?_;have I1:Inv X pins σ H { s with heap:=s.heap.push { cls:=.type "range",data:=.fields #[.int lo t,.int hi u,.int 1 v] },toks:=tk }:=I.kept λb o e=>X8 _ e
 refine⟨(s.heap.push { cls:=.type "range",data:=.fields #[.int lo t,.int hi u,.int 1 v] }).objs.size,[(s.heap.push { cls:=.type "range",data:=.fields #[.int lo t,.int hi u,.int 1 v] }).objs.size],_,_,H,rfl,
  I1.kept (t':=tk) λb o e=>X8 _ e,qkl _ lo (hi - lo).toNat,?_,λb hb=>?_,q⟩
 ·have e1:lo+((0:Nat):Int)*1=lo:=by simp
  have e2:(((hi - lo).toNat:Nat):Int) - ((0:Nat):Int)=Builtin.Range.rangeSize lo hi 1:=by rw[rangeSize_one];split<;>omega
  show IsRangeIter _ _ (lo+((0:Nat):Int)*1) ((((hi - lo).toNat:Nat):Int) - ((0:Nat):Int)) 1;rw[e1,e2];exact Xl _ rfl
 ·have e:b=(s.heap.push { cls:=.type "range",data:=.fields #[.int lo t,.int hi u,.int 1 v] }).objs.size:=by simpa using hb
  subst e;exact I1.fpOk (X9 _) (I1.hok.fresh (X9 _))
abbrev wwi(ta:TA):TI:=fun σ H R=>ta σ H λvs H1=>∃j:Int,vs=[.int j]/\-(2 ^ 62)<=j/\j<2 ^ 62/\R (Itr 0 j.toNat) H1
abbrev wwh(ta:TA):TI:=fun σ H R=>ta σ H λvs H1=>∃i j:Int,vs=[.int i,.int j]/\(-(2 ^ 62)<=i/\i<2 ^ 62/\-(2 ^ 62)<=j/\j<2 ^ 62)/\R (Itr i (j - i).toNat) H1
theorem qvw{a:Expr}{ta:TA}{p pos:Pos}(hg:Gl X "range")(hm:X.mg "range"=none)(ha:PA X [a] ta)(hs:autoParam (starEach [a] X.env=[(false,eval a X.env)]) Ŕ):PI X tg (.Call (.Name "range" p) [a] [] pos) (wwi ta):=by
 intro pins s σ H R I h;refine Call_ (Qj I hg hm boot_range (Y8 (thn (ha pos pins s σ H _ I h) λus s1 ⟨vs,H1,I1,r1,q1⟩=>?_) hs rfl));obtain⟨j,e,q1,q2,q⟩:=q1;subst e;cases r1 with
 |cons r rr=>
  cases rr;obtain⟨t,rfl⟩:=r;exact call_range_1 (qjb I1 (by omega) (by omega) q1 q2 (by simpa using q))
theorem qvv{a b:Expr}{ta:TA}{p pos:Pos}(hg:Gl X "range")(hm:X.mg "range"=none)(ha:PA X [a,b] ta)(hs:autoParam (starEach [a,b] X.env=[(false,eval a X.env),(false,eval b X.env)]) Ŕ)(fk:autoParam (starEach [b] X.env=[(false,eval b X.env)]) Ŕ):
  PI X tg (.Call (.Name "range" p) [a,b] [] pos) (wwh ta):=by
 intro pins s σ H R I h;refine Call_ (Qj I hg hm boot_range (Y8 (thn (ha pos pins s σ H _ I h) λus s1 ⟨vs,H1,I1,r1,q1⟩=>?_) (by rw[hs,fk]) (by rw[fk];rfl)));obtain⟨i,j,e,⟨q1,q2,q3,q4⟩,q⟩:=q1;subst e;cases r1 with
 | cons r rr=>
  cases rr with
  |cons r' rr=>
   cases rr;obtain⟨t,rfl⟩:=r;obtain⟨t',rfl⟩:=r';exact call_range_2 (qjb I1 q1 q2 q3 q4 q)
abbrev tFor(wi:TI)(g:TG)(tb:TS):TS:=λD σ H=>wi σ H λJ H1=>∃W:Nat->Nat->St->Hp->Prop,(∃m,W 0 m σ H1)/\∀i m σ H,W i m σ H ->
 (J.stop i H/\D.nx σ H)\/(J.go i H/\∃N:St->Hp->Prop,(∀ σ' H',N σ' H'->∃m',m'<m/\W (i+1) m' σ' H')/\∀x H',J.yld i H x H'->g x σ H' fun σ2 H2=>tb { D with nx:=N,ct:=N,bk:=D.nx } σ2 H2)
noncomputable def Q1(fp:List Addr)(h:Heap):List (Addr×Obj):=fp.filterMap λb=>(h.get? b).map λo=>(b,o)
theorem jz7{fp:List Addr}{h:Heap}{b:Addr}{o:Obj}(hb:b∈fp)(e:h.get? b=some o):(b,o)∈Q1 fp h:=List.mem_filterMap.mpr ⟨b,hb,by rw[e];rfl⟩
theorem kwo{fp:List Addr}{h:Heap}{p:Addr×Obj}(hp:p∈Q1 fp h):p.1∈fp/\h.get? p.1=some p.2:=by
 obtain⟨b,hb,e⟩:=List.mem_filterMap.mp hp;cases q:h.get? b with
 |none=>rw[q]at e;cases e
 |some o=>
  rw[q]at e;have e':(b,o)=p:=oq9 e;subst e';exact⟨hb,q⟩
theorem Inv.pinned{pins:List (Addr×Obj)}{σ:St}{H:Hp}{s:Shared}{fp:List Addr}(I:Inv X pins σ H s)(hf:∀b∈fp,ww X pins H b)(ho:∀b∈fp,∃o,s.heap.get? b=some o/\∀v,o.data≠.cell v):Inv X (pins++Q1 fp s.heap) σ H s:=
 I.pins_of λp hp=>(List.mem_append.mp hp).elim (λz=>I.pin p (lr9 _ z)) λz=>by
  obtain⟨hb,e⟩:=kwo z;obtain⟨f0,f1,f2,_⟩:=hf p.1 hb;obtain⟨o,e',d⟩:=ho p.1 hb;rw[e]at e';cases e';exact⟨e,f0,f1,f2,d⟩
theorem Inv.unpinned{pins pl:List (Addr×Obj)}{σ:St}{H:Hp}{s:Shared}(I:Inv X (pins++pl) σ H s):Inv X pins σ H s:=I.pins_of λp hp=>I.pin p (lr9 _ (ll9 _ hp))
theorem wjc{iter:Expr}{body:List Stmt}{wi:TI}{g:TG}{tb:TS}{pos:Pos}(hp:PassesOwn (model X.prog X.w) X.A X.env X.xe)(hc:X.calm=true)(hi:PI X tg iter wi)(hg:PG X tg g)(hb:PSs X body tb)
  (hs:autoParam (∀x,foldedSetIterable iter X.env x=pure x) Ŗ):PS X (.For tg iter body [] pos) (tFor wi g tb):=by
 intro pins s σ H D I h;refine wpAny_For (thn (hi pins s σ H _ I h) λv s1 h1=>thn h1 λitv s2 h2=>?_) hs;obtain⟨it,fp,tn,J,H2,e,I2,T,bn,f2,W,⟨m0,w0⟩,fb⟩:=h2;subst e;have ii:∀{H':Hp},(∀b∈fp,H' b=none)->∀b∈fp,ww X pins H' b:=λhn b hb=>⟨hn b hb,(f2 b hb).2⟩
 refine codeAny_forLoop_any (λn s'=>∃i σ' H',Inv X pins σ' H' s'/\tn i s'.heap/\(∀b∈fp,H' b=none)/\W i n σ' H') ?_ m0 ⟨0,σ,H2,I2,bn,λb hb=>(f2 b hb).1,w0⟩;rintro n s3 ⟨i,σ3,H3,I3,dj,oe,w3⟩;rcases fb i n σ3 H3 w3 with⟨stop,qn⟩|⟨go,N,hN,step⟩
 ·refine Yw hp (thn (T.done X rfl rfl rfl hc i pins s3 σ3 H3 X.xe I3 (ii oe) dj stop) λr s4 ⟨hr,I4⟩=>?_);subst hr;exact Yo ⟨σ3,H3,I4,qn⟩
 ·refine Yw hp (thn (T.item X rfl rfl rfl hc i pins s3 σ3 H3 X.xe I3 (ii oe) dj go) λr s4 ⟨u,hr,h4⟩=>?_);subst hr;refine Yw hp (thn h4 λ_ s5 ⟨x,H5,I5,r5,y5,st5,fr5⟩=>?_);have I5':=I5.pinned (ii fr5) (T.obj _ _ st5);refine Yw hp (thn (hg _ s5 σ3 H5 x u _ I5' r5 (step x H5 y5)) λ_ s6 ⟨σ6,H6,I6,q6⟩=>?_);refine Yw hp (thn (hb _ s6 σ6 H6 _ I6 q6) λf s7 q7=>?_);have bz:∀{σ7:St} {H7:Hp},Inv X (pins++Q1 fp s5.heap) σ7 H7 s7->N σ7 H7->∃m,m<n/\∃i σ' H',Inv X pins σ' H' s7/\tn i s7.heap/\(∀b∈fp,H' b=none)/\W i m σ' H':=fun {σ7 H7} I7 n7=>by
   obtain⟨m',hm,w7⟩:=hN σ7 H7 n7;refine⟨m',hm,i+1,σ7,H7,I7.unpinned,T.keep _ _ _ st5 λb hb o e=>(I7.pin (b,o) (lr9 _ (lr9 _ (jz7 hb e)))).1,λb hb=>?_,w7⟩;obtain⟨o,e,d⟩:=T.obj _ _ st5 b hb;exact(I7.pin (b,o) (lr9 _ (lr9 _ (jz7 hb e)))).2.1
  cases f with
  |next=>obtain⟨σ7,H7,I7,n7⟩:=q7;exact bz I7 n7
  |cont=>obtain⟨σ7,H7,I7,n7⟩:=q7;exact bz I7 n7
  |brk=>obtain⟨σ7,H7,I7,q7⟩:=q7;exact⟨σ7,H7,I7.unpinned,q7⟩
  |ret v=>obtain⟨x7,σ7,H7,I7,r7,q7⟩:=q7;exact⟨x7,σ7,H7,I7.unpinned,r7,q7⟩
end
abbrev R2:=V->V->Hp->VK->Prop
noncomputable def OpR(X:Cx)(f:Value->Value->Sem Value)(r:R2):Prop:=
 ∀(pins:List (Addr×Obj)) (s:Shared) (σ:St) (H:Hp) (x y:V) (v u:Value) (Q:VK),Inv X pins σ H s->RelV x v->RelV y u->r x y H Q ->
  wpAny (model X.prog X.w) X.A (f v u) (EP X pins σ Q) X.xe s
noncomputable def CallR(X:Cx)(f:Value)(r:List V->Hp->VK->Prop):Prop:=
 ∀(pins:List (Addr×Obj)) (s:Shared) (σ:St) (H:Hp) (xs:List V) (us:List Value) (Q:VK),Inv X pins σ H s->Vals xs us->r xs H Q ->
  wpAny (model X.prog X.w) X.A (call f us) (EP X pins σ Q) X.xe s
noncomputable def TruR(X:Cx)(r:V->Hp->(Bool->Hp->Prop)->Prop):Prop:=
 ∀(pins:List (Addr×Obj)) (s:Shared) (σ:St) (H:Hp) (x:V) (v:Value) (Q:Bool->Hp->Prop),Inv X pins σ H s->RelV x v->r x H Q ->
  wpAny (model X.prog X.w) X.A (truthy v) (TP X pins σ Q) X.xe s
abbrev tOp(r:R2)(ta tb:TE):TE:=fun σ H Q=>ta σ H λx H1=>tb σ H1 λy H2=>r x y H2 Q
abbrev tUn(r:V->Hp->VK->Prop)(ta:TE):TE:=fun σ H Q=>ta σ H λx H1=>r x H1 Q
noncomputable def rI(C:Int->Int->Prop)(g:Int->Int->V):R2:=λx y H Q=>∃i j,x=.int i/\y=.int j/\C i j/\Q (g i j) H
noncomputable def rI0(g:Int->Int->V):R2:=λx y H Q=>∃i j,x=.int i/\y=.int j/\Q (g i j) H
section
variable {X:Cx}{a b c:Expr}{ta tb tc:TE}{pos:Pos}
theorem wx1(ha:PE X a ta)(hb:PE X b tb){pins:List (Addr×Obj)}{s:Shared}{σ:St}{H:Hp}{R:V->V->Hp->Prop}(I:Inv X pins σ H s)
  (h:ta σ H λx H1=>tb σ H1 λy H2=>R x y H2) {Q:Value->Shared->Prop} {f:Value->Value->Sem Value}
  (hf:∀v u s2 x y H2,Inv X pins σ H2 s2->RelV x v->RelV y u->R x y H2->wpAny (model X.prog X.w) X.A (f v u) Q X.xe s2):
  wpAny (model X.prog X.w) X.A (eval a X.env) (λv s₁=>wpAny (model X.prog X.w) X.A (eval b X.env) (λu s₂=>wpAny (model X.prog X.w) X.A (f v u) Q X.xe s₂) X.xe s₁) X.xe s:=by
 refine thn (ha pins s σ H _ I h) λv s1 ⟨x,H1,I1,r1,q1⟩=>?_
 refine thn (hb pins s1 σ H1 _ I1 q1) λu s2 ⟨y,H2,I2,r2,q2⟩=>?_
 exact hf v u s2 x y H2 I2 r1 r2 q2
theorem ww3{op:Operator}{r:R2}(ho:OpR X (binaryOp op) r)(ha:PE X a ta)(hb:PE X b tb):PE X (.BinOp a op b pos) (tOp r ta tb):=by
 intro pins s σ H Q I h;exact wpAny_BinOp (wx1 ha hb I h λv u s2 x y H2 I2 rx ry q=>ho pins s2 σ H2 x y v u Q I2 rx ry q)
theorem opI{f:Value->Value->Sem Value}{C:Int->Int->Prop}{g:Int->Int->Int}
  (ko:∀(i j:Int) (t u:Tok) (s:Shared) (Q:Value->Shared->Prop) (E:Value->Shared->Prop),C i j->Q (.int (g i j) s.toks) { s with toks:=s.toks+1 }->wpAny (model X.prog X.w) X.A (f (.int i t) (.int j u)) Q E s):
  OpR X f (rI C λi j=>.int (g i j)):=by
 intro pins s σ H x y v u Q I rx ry h;obtain⟨i,j,rfl,rfl,hc,q⟩:=h;obtain⟨t,rfl⟩:=rx;obtain⟨t',rfl⟩:=ry;exact ko i j t t' s _ _ hc ⟨.int (g i j),H,I.tok _,⟨_,rfl⟩,q⟩
theorem wxo{f:Value->Value->Sem Value}{g:Int->Int->Int}
  (ko:∀(i j:Int) (t u:Tok) (s:Shared) (Q:Value->Shared->Prop) (E:Value->Shared->Prop),Q (.int (g i j) s.toks) { s with toks:=s.toks+1 }->wpAny (model X.prog X.w) X.A (f (.int i t) (.int j u)) Q E s):
  OpR X f (rI0 λi j=>.int (g i j)):=by
 intro pins s σ H x y v u Q I rx ry h;obtain⟨i,j,rfl,rfl,q⟩:=h;obtain⟨t,rfl⟩:=rx;obtain⟨t',rfl⟩:=ry;exact ko i j t t' s _ _ ⟨.int (g i j),H,I.tok _,⟨_,rfl⟩,q⟩
theorem wxp{f:Value->Value->Sem Value}{g:Int->Int->Bool}
  (ko:∀(i j:Int) (t u:Tok) (s:Shared) (Q:Value->Shared->Prop) (E:Value->Shared->Prop),Q (.bool (g i j)) s->wpAny (model X.prog X.w) X.A (f (.int i t) (.int j u)) Q E s):
  OpR X f (rI0 λi j=>.bl (g i j)):=by
 intro pins s σ H x y v u Q I rx ry h;obtain⟨i,j,rfl,rfl,q⟩:=h;obtain⟨t,rfl⟩:=rx;obtain⟨t',rfl⟩:=ry;exact ko i j t t' s _ _ ⟨.bl (g i j),H,I,rfl,q⟩
noncomputable def wz2(i j:Int):Prop:=0<=j/\j<=1000000/\i.natAbs<2 ^ 64
theorem op_add:OpR X (binaryOp .Add) (rI0 λi j=>.int (i+j)):=wxo λ_ _ _ _ _ _ _ q=>add_int q
theorem qw1:OpR X (binaryOp .Sub) (rI0 λi j=>.int (i - j)):=wxo λ_ _ _ _ _ _ _ q=>sub_int q
theorem wjv:OpR X (binaryOp .Mod) (rI (λ_ j=>0<j) λi j=>.int (i % j)):=opI λi j _ _ _ _ _ hc q=>by
 have h1:(0:Int)<j:=hc;exact mod_int' (by omega) (by rw[Int.fmod_eq_emod_of_nonneg i (by omega)];exact q)
theorem qji:OpR X (binaryOp .Pow) (rI wz2 λi j=>.int (i ^ j.toNat)):=opI λ_ _ _ _ _ _ _ hc q=>pow_int_small hc.1 hc.2.1 hc.2.2 q
end
section
variable {X:Cx}{a b c:Expr}{ta tb tc:TE}{pos:Pos}
theorem kx3{pins:List (Addr×Obj)}{σ:St}{H:Hp}{s:Shared}{Q:VK}{k k':Bool}(I:Inv X pins σ H s)(q:Q (.bl k) H)(e:k=k'):EP X pins σ Q (.bool k') s:=by
 subst e;exact⟨.bl k,H,I,rfl,q⟩
theorem wjw:OpR X (compareOp .Lt) (rI0 λi j=>.bl (decide (i<j))):=wxp λ_ _ _ _ _ _ _ q=>lt_int q
theorem XV:OpR X (compareOp .Gt) (rI0 λi j=>.bl (decide (j<i))):=wxp λ_ _ _ _ _ _ _ q=>gt_int q
theorem qw3:OpR X (compareOp .In) (λx y H Q=>∃i j,x=.str i/\y=.str j/\Q (.bl (!(Builtin.Str.occurrences j i 0 j.length 1).isEmpty)) H):=by
 intro pins s σ H x y v u Q I rx ry h;obtain⟨i,j,rfl,rfl,q⟩:=h;obtain⟨t,rfl⟩:=rx;obtain⟨t',rfl⟩:=ry;exact in_str (kx3 I q rfl)
theorem Zj : OpR X (compareOp .Is) (λx y H Q=>y = .non /\ Q (.bl (decide (x = .non))) H):= by
  intro pins s σ H x y v u Q I rx ry h;obtain⟨rfl, q⟩:= h;cases ry;refine is_none_gen (kx3 I q ?_);cases x <;> first
    |(cases rx; rfl)
    |(obtain⟨t, rfl⟩:= rx; rfl)
theorem qw2 : OpR X (compareOp .IsNot) (λx y H Q=>y = .non /\ Q (.bl (!decide (x = .non))) H):= by
  intro pins s σ H x y v u Q I rx ry h;obtain⟨rfl, q⟩:= h;cases ry;refine isnot_none_gen (kx3 I q ?_);cases x <;> first
    |(cases rx; rfl)
    |(obtain⟨t, rfl⟩:= rx; rfl)
theorem OpR.or{f:Value->Value->Sem Value}{r r':R2}(h:OpR X f r)(h':OpR X f r'):OpR X f (λx y H Q=>r x y H Q\/r' x y H Q):=by
 intro pins s σ H x y v u Q I rx ry q;rcases q with q|q
 ·exact h pins s σ H x y v u Q I rx ry q
 ·exact h' pins s σ H x y v u Q I rx ry q
theorem k7(b:Expr){op:CmpOp}(h:autoParam (op≠.In) ŕ)(h2:autoParam (op≠.NotIn) ŕ):behindInMarks op b=false:=by
 have e1:(op==CmpOp.In)=false:=by cases op<;>first|rfl|exact absurd rfl h
 have e2:(op==CmpOp.NotIn)=false:=by cases op<;>first|rfl|exact absurd rfl h2
 cases b<;>simp[behindInMarks,e1,e2]
theorem vvz{op:CmpOp}{r:R2}(ho:OpR X (compareOp op) r)(ha:PE X a ta)(hb:PE X b tb)(hm:behindInMarks op b=false):PE X (.Compare a [op] [b] pos) (tOp r ta tb):=by
 intro pins s σ H Q I h;exact wpAny_Compare1 (wx1 ha hb I h λv u s2 x y H2 I2 rx ry q=>ho pins s2 σ H2 x y v u Q I2 rx ry q) hm
abbrev wv8(t:TE):TT:=fun σ H Q=>t σ H λx H'=>∃k,x=.bl k/\Q k H'
theorem vvl{op:CmpOp}{r:R2}(ho:OpR X (compareOp op) r)(ha:PE X a ta)(hb:PE X b tb)(hm:behindInMarks op b=false):PT X (.Compare a [op] [b] pos) (wv8 (tOp r ta tb)):=by
 intro pins s σ H Q I h;refine wpAny_isTrue_Compare1 (thn (ha pins s σ H _ I h) λv s1 ⟨x,H1,I1,r1,q1⟩=>thn (hb pins s1 σ H1 _ I1 q1) λu s2 ⟨y,H2,I2,r2,q2⟩=>
  thn (ho pins s2 σ H2 x y v u _ I2 r1 r2 q2) λc s3 ⟨z,H3,I3,r3,k,e,q3⟩=>?_) hm
 subst e;cases r3;exact wpAny_truthy_bool ⟨H3,I3,q3⟩
noncomputable def wx5(K:PySem.W.Frag)(x:V)(H:Hp)(k:Bool):Prop:=
 match x with
 |.non=>k=false
 |.bl b=>k=b
 |.int i=>k=(i != 0)
 |.str y=>y.length<=sizeLine/\k=((y.length:Int) != 0)
 |.byt y=>y.size<=sizeLine/\k=((y.size:Int) != 0)
 |.ref p=>(∃xs,SqL K H p xs/\k=!xs.isEmpty)\/(∃xs,SqT K H p xs/\k=!xs.isEmpty)\/∃kvs,H p=some (.dK kvs)/\k=!kvs.isEmpty
 |_=>False
theorem qq7{κ:Type}{kvs:List (κ×V)}{vs:List (κ×Value)}(r:KV kvs vs):(!vs.isEmpty)=!kvs.isEmpty:=by
 cases r<;>rfl
theorem kqh{xs:List V}{ak:List Value}(r:Vals xs ak):(!ak.toArray.isEmpty)=!xs.isEmpty:=by
 cases r<;>simp
theorem Wv:(sizeLine:Nat)<2 ^ 63:=by rw[sizeLine_eq];decide
theorem vz0:TruR X (λx H Q=>∃k,wx5 X.K x H k/\Q k H):=by
 intro pins s σ H x v Q I rx h;obtain⟨k,e,q⟩:=h;have hl:=Wv;have hs:sizeLine=16777216:=sizeLine_eq;cases x with
 | non=>
  cases rx;have e':k=false:=e;subst e';exact truthy_none ⟨H,I,q⟩
 | bl b=>
  cases rx;have e':k=b:=e;subst e';exact wpAny_truthy_bool ⟨H,I,q⟩
 | int i=>
  obtain⟨t,rfl⟩:=rx;have e':k=(i != 0):=e;subst e';exact PySem.P.truthy_int ⟨H,I,q⟩
 | str y=>
  obtain⟨t,rfl⟩:=rx;obtain⟨hy,e'⟩:y.length<=sizeLine/\k=((y.length:Int) != 0):=e;subst e';exact PySem.P.truthy_str (by omega) ⟨H,I.tok _,q⟩
 | byt y=>
  obtain⟨t,rfl⟩:=rx;obtain⟨hy,e'⟩:y.size<=sizeLine/\k=((y.size:Int) != 0):=e;subst e';exact PySem.W.truthy_bytes (by omega) ⟨H,I.tok _,q⟩
 | ref p=>
  cases rx;have e':(∃xs,SqL X.K H p xs/\k=!xs.isEmpty)\/(∃xs,SqT X.K H p xs/\k=!xs.isEmpty)\/∃kvs,H p=some (.dK kvs)/\k=!kvs.isEmpty:=e;rcases e' with⟨xs,hx,e'⟩|⟨xs,hx,e'⟩|⟨kvs,hx,e'⟩
  ·subst e';obtain⟨ak,r,pl,hz⟩:=I.list hx;have av:=r.length;exact wpAny_truthy_list pl.isList (by simp only[X6];omega) ⟨H,I.tok _,by rw[kqh r];exact q⟩
  ·subst e';obtain⟨ak,r,pl,hz⟩:=I.tuple hx;have av:=r.length;exact truthy_tuple pl (by simp only[X6];omega) ⟨H,I.tok _,by rw[kqh r];exact q⟩
  ·subst e';obtain⟨hz,hS,vs,r,m⟩:kvs.length<=sizeLine/\(p==sysModules)=false/\∃vs,KV kvs vs/\s.heap.DictOf (kvb X.prog X.w) p vs:=I.hok p _ hx;have av:kvs.length=vs.length:=Paired.length r;exact wpAny_truthy_dict hS m (by omega) ⟨H,I.tok _,by rw[qq7 r];exact q⟩
 |_=>exact(show False from e).elim
theorem vj3(ha:PE X a ta)(he:∀fi,isTrue a X.env fi=(do let v <-fi;standAt a.pos;holding [v] (truthy v))):
  PT X a (fun σ H Q=>ta σ H λx H'=>∃k,wx5 X.K x H' k/\Q k H'):=by
 intro pins s σ H Q I h;exact isTrue_plain (thn (ha pins s σ H _ I h) λv s1 ⟨x,H1,I1,r1,q1⟩=>vz0 pins s1 σ H1 x v Q I1 r1 q1) (he _)
theorem op_add_str:OpR X (binaryOp .Add) (λx y H Q=>∃i j,x=.str i/\y=.str j/\i.length+j.length<=sizeLine/\Q (.str (i++j)) H):=by
 intro pins s σ H x y v u Q I rx ry h;obtain⟨i,j,rfl,rfl,hz,q⟩:=h;obtain⟨t,rfl⟩:=rx;obtain⟨t',rfl⟩:=ry;exact add_str (λt' tk=>⟨.str (i++j),H,I.tok _,⟨_,rfl⟩,q⟩) hz
theorem z9{x:V}{us:List Value}(r:Vals [x] us):∃u,us=[u]/\RelV x u:=by
 cases r with
 |cons r1 r2=>cases r2;exact⟨_,rfl,r1⟩
theorem vqq{x y:V}{us:List Value}(r:Vals [x,y] us):∃u w',us=[u,w']/\RelV x u/\RelV y w':=by
 cases r with
 |cons r1 r2=>
  cases r2 with
  |cons r3 r4=>cases r4;exact⟨_,_,rfl,r1,r3⟩
theorem qxv(hc:X.calm=true):CallR X (.builtin "min") (λxs H Q=>∃i j,xs=[.int i,.int j]/\Q (.int (if j<i then j else i)) H):=by
 intro pins s σ H xs us Q I r h;obtain⟨i,j,rfl,q⟩:=h;obtain⟨u,w',rfl,⟨t,rfl⟩,⟨t',rfl⟩⟩:=vqq r;refine min_two_ints (I.ok.hd hc) λh' tk k=>⟨_,H,I.kept k,?_,q⟩
 by_cases hj:j<i
 ·rw[Xa hj,Xa hj];exact⟨_,rfl⟩
 ·rw[Xe hj,Xe hj];exact⟨_,rfl⟩
theorem qxx:CallR X (.type "int") (λxs H Q=>(∃i,xs=[.int i]/\Q (.int i) H)\/∃k,xs=[.bl k]/\Q (.int (if k then 1 else 0)) H):=by
 intro pins s σ H xs us Q I r h;rcases h with⟨i,rfl,q⟩|⟨k,rfl,q⟩
 ·obtain⟨u,rfl,t,rfl⟩:=z9 r;exact call_int_int ⟨.int i,H,I,⟨_,rfl⟩,q⟩
 ·obtain⟨u,rfl,r1⟩:=z9 r;cases r1;exact call_int_bool ⟨.int (if k then 1 else 0),H,I.tok _,⟨_,rfl⟩,q⟩
end
structure Cls (K:PySem.W.Frag)(C:Addr):Prop where
 pg:PySem.W.plainGet K C Str.empty=true
 hd:PySem.W.hasDictIn K C=true
 po:PySem.W.plainOver K C=true
 sa:PySem.W.findIn K (.ref C) "__setattr__"=some (some (.builtin "object.__setattr__"))
section
variable {X:Cx}{pins:List (Addr×Obj)}{σ:St}{H:Hp}{s:Shared}{A:Around}{E:Value->Shared->Prop}{Q:Value->Shared->Prop}{c:Value}{b:Bool}
inductive TyOf (K:PySem.W.Frag)(H:Hp):V->Value->Prop where
 | non:TyOf K H .non (.type "NoneType")
 | bl (x:Bool):TyOf K H (.bl x) (.type "bool")
 | int (i:Int):TyOf K H (.int i) (.type "int")
 | str (x:Str):TyOf K H (.str x) (.type "str")
 | flt (x:UInt64):TyOf K H (.flt x) (.type "float")
 | lst {a:Addr} {xs:List V} (e:H a=some (.lst xs)):TyOf K H (.ref a) (.type "list")
 | frz {a:Addr} {o:Obj} {xs:List V} (e:H a=some (.frz o (.lst xs))):TyOf K H (.ref a) (.type "list")
 | tup {a:Addr} {xs:List V} (e:H a=some (.tup xs)):TyOf K H (.ref a) (.type "tuple")
 | dK {a:Addr} {kvs:List (Key×V)} (e:H a=some (.dK kvs)):TyOf K H (.ref a) (.type "dict")
 | dT {a:Addr} {kvs:List (List Key×V)} (e:H a=some (.dT kvs)):TyOf K H (.ref a) (.type "dict")
 | ins {a C dx:Addr} {fs:List (Str×V)} (e:H a=some (.ins C dx fs)) (cl:Cls K C) (ha:PySem.W.findIn K (.ref C) "__class__"=some (some (.builtin "object.__class__")))
   (hn:PySem.W.specialIn K (.builtin "object.__class__") "__get__"=some (some (.builtin "getset_descriptor.__get__"))) (htk:PySem.W.takesIn K (.builtin "object.__class__")=some true)
   (hm:PySem.W.mroIn K C (.type "object")=some true):TyOf K H (.ref a) (.ref C)
end
structure Room (k:Nat)(A:Around):Prop where
 hd:A.handled=none
 dp:A.depth+3*k+5<recursionLimit
 un:A.units+16*k+200<cLine
 gd:A.guards=some []
theorem Room.mono{j k:Nat}{A:Around}(r:Room k A)(h:j<=k):Room j A:=⟨r.hd,by have:=r.dp;omega,by have:=r.un;omega,r.gd⟩
theorem Room.deeper{k:Nat}{A:Around}(r:Room (k+1) A)(env:Env):Room k (A.deeper env):=
 ⟨r.hd,by have:=r.dp;show A.depth+1+3*k+5<_;omega,by have:=r.un;show A.units+3+16*k+200<_;omega,r.gd⟩
theorem Room.depth{k:Nat}{A:Around}(r:Room k A):A.depth<recursionLimit:=by have:=r.dp;omega
theorem Room.units{k:Nat}{A:Around}(r:Room k A):A.units+64<cLine:=by have:=r.un;omega
abbrev wx9:TA:=λ_ H Q=>Q [] H
abbrev vz7(ta:TE)(tr:TA):TA:=fun σ H Q=>ta σ H λx H1=>tr σ H1 λxs H2=>Q (x::xs) H2
section
variable {X:Cx}{e:Expr}{es:List Expr}{te:TE}{t:TA}{pos:Pos}
theorem xj:PA X [] wx9:=λ_ _ _ _ H Q I h=>Calls.spliced_nil ⟨[],H,I,.nil,h⟩
theorem wv(ha:PE X e te)(hr:PA X es t)(hs:autoParam (starEach (e::es) X.env=(false,eval e X.env)::starEach es X.env) Ŕ):PA X (e::es) (vz7 te t):=by
 intro pos pins s σ H Q I h;rw[hs];show wpAny _ _ (spliced ((false,eval e X.env)::backTo pos (starEach es X.env))) _ _ s;refine Calls.spliced_cons (thn (ha pins s σ H _ I h) λu s1 ⟨x,H1,I1,r1,q1⟩=>?_);exact thn (hr pos pins s1 σ H1 _ I1 q1) λus s2 ⟨xs,H2,I2,r2,q2⟩=>⟨x::xs,H2,I2,.cons r1 r2,q2⟩
abbrev tTup(t:TA):TE:=fun σ H Q=>t σ H λxs H1=>xs.length<=sizeLine/\∀p,H1 p=none->Q (.ref p) (upd H1 p (.tup xs))
abbrev tLst(t:TA):TE:=fun σ H Q=>t σ H λxs H1=>xs.length<=sizeLine/\∀p,H1 p=none->Q (.ref p) (upd H1 p (.lst xs))
theorem wjk{x1}(h:PA X es t):PE X (.Tuple es x1 pos) (tTup t):=by
 intro pins s σ H Q I hq;refine wpAny_Tuple_spliced (thn (h pos pins s σ H _ I hq) λus s1 ⟨xs,H1,I1,r,z,q⟩=>⟨by rw[<-r.length];exact z,?_⟩);have hf:H1 s1.heap.objs.size=none:=I1.hok.fresh (X9 _);refine⟨.ref s1.heap.objs.size,upd H1 s1.heap.objs.size (.tup xs),I1.laid (t':=s1.toks) (λb u e=>X8 _ e) (X9 _) ?_,rfl,q _ hf⟩;exact⟨z,us,r,⟨_,Xl _ rfl,rfl,rfl,_,rfl⟩⟩
theorem wjn(h:PA X es t):PE X (.List es pos) (tLst t):=by
 intro pins s σ H Q I hq;refine wpAny_List_spliced (thn (h pos pins s σ H _ I hq) λus s1 ⟨xs,H1,I1,r,z,q⟩=>⟨by rw[<-r.length];exact z,?_⟩);have hf:H1 s1.heap.objs.size=none:=I1.hok.fresh (X9 _);refine⟨.ref s1.heap.objs.size,upd H1 s1.heap.objs.size (.lst xs),I1.laid (t':=s1.toks) (λb u e=>X8 _ e) (X9 _) ?_,rfl,q _ hf⟩;exact⟨z,us,0,r,Xl _ rfl⟩
end
abbrev Sp:=List V->Hp->VK->XK->Prop
abbrev CXT:=List Env->Hp->Shared->XK->Value->Shared->Prop
structure Env0 (P:Program)(w:World)(K:PySem.W.Frag)(mg:Str->Option Value)(base:Heap)(A:Around)(outer:List Env)(s:Shared)(H:Hp):Prop where
 frames:A.frames=some outer
 mod:Mod K mg base
 bs:∀b o,base.get? b=some o->s.heap.get? b=some o/\H b=none
 bsz:base.objs.size<=s.heap.objs.size
 funs:s.heap.FunFrames base outer
 frf:∀b∈frs outer,H b=none
 hok:HOk P w H s.heap
 bare:AllBare s.gens
noncomputable def CE(outer:List Env)(P:Program)(w:World)(H:Hp)(s:Shared)(Q:VK)(u:Value)(s':Shared):Prop:=
 ∃v H',s'.os=s.os/\AllBare s'.gens/\Un (frs outer) [] H H' s.heap s'.heap/\HOk P w H' s'.heap/\RelV v u/\Q v H'
noncomputable def CR(CX:CXT)(outer:List Env)(P:Program)(w:World)(H:Hp)(s:Shared)(Q:VK)(E:XK)(r:Result)(s':Shared):Prop:=
 match r with
 |.ok (.ret u)=>CE outer P w H s Q u s'
 |.ok _=>False
 |.error e=>CX outer H s E e s'
structure FnOk (P:Program)(w:World)(K:PySem.W.Frag)(mg:Str->Option Value)(base:Heap)(CX:CXT)(k:Nat)(f:Addr)(fd:FuncData)(ps:List Str)(sp:Sp):Prop where
 len:∀vs H Q E,sp vs H Q E->vs.length=ps.length
 run:∀(A:Around) (outer:List Env) (s:Shared) (H:Hp) (args:Args) (us:List Value) (vs:List V) (Q:VK) (E:XK),Room k A->Env0 P w K mg base A outer s H->BindsTo s fd args (ps.zip us)->Vals vs us->sp vs H Q E ->
  codeAny (model P w) A (.call (.ref f) args) (CR CX outer P w H s Q E) s
section
variable {X:Cx}{pins:List (Addr×Obj)}{σ:St}{H:Hp}{s s':Shared}
theorem Inv.env0(I:Inv X pins σ H s):Env0 X.prog X.w X.K X.mg X.base X.A X.stack s H:=
 ⟨I.ok.frames,I.ok.mod,I.bs,Y4 I.ok.bsz I.sz,I.stack,I.stkFree,I.hok,I.bare⟩
theorem Inv.after{Q:VK}{u:Value}(I:Inv X pins σ H s)(h:CE X.stack X.prog X.w H s Q u s'):EP X pins σ Q u s':=by
 obtain⟨v,H',os,bare,un,hok,r,q⟩:=h;obtain⟨hh,g,d,t,os'⟩:=s';obtain rfl:os'=s.os:=os;exact⟨v,H',I.call (h':=hh) (g':=g) (d':=d) (t':=t) (ch:=[]) un hok bare (λb z=>absurd z (by simp)),r,q⟩
end
abbrev qzm(sp:Sp)(iy:List V)(E:XK)(t:TA):TE:=fun σ H Q=>t σ H λvs H1=>sp (vs++iy) H1 Q E
noncomputable def Binds(K:PySem.W.Frag)(fd:FuncData)(ps:List Str)(ds:List Value):Prop:=
 ∀(s:Shared) (us:List Value),K.In s.heap->(us++ds).length=ps.length->BindsTo s fd ⟨us,[]⟩ (ps.zip (us++ds))
theorem Binds.all{K:PySem.W.Frag}{fd:FuncData}{ps:List Str}(h:∀us:List Value,us.length=ps.length->bindArgs fd ⟨us,[]⟩=pure (ps.zip us)):Binds K fd ps []:=λs us _ hl=>by
 rw[Xr]at hl ⊢;exact .of_eq (h us hl)
noncomputable def qze(CX:CXT)(X:Cx)(E:XK):Prop:=∀(pins:List (Addr×Obj)) (σ:St) (H:Hp) (s:Shared) (e:Value) (s':Shared),Inv X pins σ H s->CX X.stack H s E e s'->X.xe e s'
section
variable {X:Cx}{CX:CXT}{k:Nat}{f C:Addr}{fd:FuncData}{ps:List Str}{sp:Sp}{iy:List V}{ds:List Value}{E:XK}{x m:Str}{p pos apos:Pos}{e o:Expr}{es:List Expr}{ta:TE}{t:TA}
theorem vzj{pins:List (Addr×Obj)}{σ:St}{H:Hp}{s:Shared}{Q:VK}{us:List Value}{vs:List V}(F:FnOk X.prog X.w X.K X.mg X.base CX k f fd ps sp)(hr:Room k X.A)(hb:Binds X.K fd ps ds)(hd:Vals iy ds)(hx:qze CX X E)
  (I:Inv X pins σ H s) (r:Vals vs us) (h:sp (vs++iy) H Q E):wpAny (model X.prog X.w) X.A (call (.ref f) us) (EP X pins σ Q) X.xe s:=by
 have r2:Vals (vs++iy) (us++ds):=r.append hd;have hl:(us++ds).length=ps.length:=by rw[<-r2.length];exact F.len _ _ _ _ h
 refine wpAny_call (codeAny_mono (F.run X.A X.stack s H ⟨us,[]⟩ (us++ds) (vs++iy) Q E hr I.env0 (hb s us I.kIn hl) r2 h) λr s' hq=>?_);cases r with
 |error e=>exact hx pins σ H s e s' I hq
 |ok fl=>
  cases fl with
  |ret u=>exact I.after hq
  |next=>exact False.elim hq
  |brk=>exact False.elim hq
  |cont=>exact False.elim hq
theorem vw0(F:FnOk X.prog X.w X.K X.mg X.base CX k f fd ps sp)(hr:Room k X.A)(hg:Gl X x)(hm:X.mg x=some (.ref f))(hk:PySem.W.keepIn X.K (.ref f)=true)(hb:Binds X.K fd ps ds)(hd:Vals iy ds)(hx:qze CX X E)
  (ha:PA X (e::es) t) (cj:autoParam ((x==("__debug__":Str))=false) ŕ) (he:autoParam (starEach (e::es) X.env=(false,eval e X.env)::starEach es X.env) Ŕ) (be:autoParam ((backTo pos (starEach es X.env)).any (·.1)=false) Ŕ):
  PE X (.Call (.Name x p) (e::es) [] pos) (qzm sp iy E t):=by
 intro pins s σ H Q I h;refine Yu (VW I hg hm ?_ cj);refine PySem.W.callWith_K (h₀:=X.base) I.ok.mod.kin hk (thn (ha pos pins s σ H _ I h) λus s1 ⟨vs,H1,I1,r,q⟩=>⟨I1.kIn,?_⟩) he be;exact vzj F hr hb hd hx I1 r q
end
structure FnScope (N P:List Str)(sc:Scope):Prop where
 kind:sc.kind=.function
 co:sc.isCoroutine=false
 gen:sc.isGenerator=false
 nd:N.Nodup
 pre:N.take P.length=P
 par:∀x∈P,sc.names.lookup x=some .local\/sc.names.lookup x=some .cell
 nofree:∀y∈sc.names,y.2≠.free
theorem kxh{kindOf : Str -> Option NameKind}{x : Str}: ∀{binds : List (Str × Value)} {m : Str -> Option Value}, (∀v, (x, v)∉binds) -> bindL kindOf binds m x = m x
  | [], _, _=>rfl
  | (n, v)::r, m, h=>by
    unfold bindL;rw[kxh λw hw=>h w (lc9 _ hw)]
    split
    · have : x≠n:= by rintro rfl; exact h v X2
      simp[this]
    · rfl
theorem kxj{kindOf : Str -> Option NameKind}{x : Str}: ∀{binds : List (Str × Value)} {m : Str -> Option Value}, (∀v, (x, v)∉binds) -> bindC kindOf binds m x = m x
  | [], _, _=>rfl
  | (n, v)::r, m, h=>by
    unfold bindC;rw[kxj λw hw=>h w (lc9 _ hw)]
    split
    · rfl
    · have : x≠n:= by rintro rfl; exact h v X2
      simp[this]
theorem kxi{kindOf:Str->Option NameKind}{x:Str}{v:Value}:∀{P:List Str} {vs:List Value} {i:Nat} {m:Str->Option Value},P.Nodup->P[i]?=some x->vs[i]?=some v->kindOf x=some .local ->
  bindL kindOf (P.zip vs) m x=some v
 |[],_,_,_,_,h,_,_=>by simp at h
 |_::_,[],_,_,_,_,h,_=>by simp at h
 |p::P,w::vs,0,m,nd,h1,h2,hk=>by
  simp at h1 h2;subst h1;subst h2;show bindL kindOf ((p,w)::P.zip vs) m p=_;unfold bindL;rw[kxh λv hv=>(List.nodup_cons.mp nd).1 (List.of_mem_zip hv).1,Xa hk];simp
 |p::P,w::vs,i+1,m,nd,h1,h2,hk=>by
  show bindL kindOf ((p,w)::P.zip vs) m x=_;unfold bindL;exact kxi (i:=i) (List.nodup_cons.mp nd).2 (by simpa using h1) (by simpa using h2) hk
theorem kxk{kindOf:Str->Option NameKind}{x:Str}{v:Value}:∀{P:List Str} {vs:List Value} {i:Nat} {m:Str->Option Value},P.Nodup->P[i]?=some x->vs[i]?=some v->kindOf x≠some .local ->
  bindC kindOf (P.zip vs) m x=some v
 |[],_,_,_,_,h,_,_=>by simp at h
 |_::_,[],_,_,_,_,h,_=>by simp at h
 |p::P,w::vs,0,m,nd,h1,h2,hk=>by
  simp at h1 h2;subst h1;subst h2;show bindC kindOf ((p,w)::P.zip vs) m p=_;unfold bindC;rw[kxj λv hv=>(List.nodup_cons.mp nd).1 (List.of_mem_zip hv).1,Xe hk];simp
 |p::P,w::vs,i+1,m,nd,h1,h2,hk=>by
  show bindC kindOf ((p,w)::P.zip vs) m x=_;unfold bindC;exact kxk (i:=i) (List.nodup_cons.mp nd).2 (by simpa using h1) (by simpa using h2) hk
noncomputable def start(N:List Str)(vs:List V):St:=vs.map some++List.replicate (N.length - vs.length) none
noncomputable def zw(CX:CXT)(P:Program)(w:World)(K:PySem.W.Frag)(mg:Str->Option Value)(base:Heap)(N:List Str)(qual:Str)(scope:Scope)(f:Addr)(cd:Value)(A:Around)(outer:List Env)(s:Shared)(H:Hp)(E:XK):Cx where
 prog:=P
 w:=w
 K:=K
 mg:=mg
 base:=base
 A:=A.deeper (envOfC qual scope s.heap.objs.size f cd)
 N:=N
 s₀:=s
 H₀:=H
 env:=envOfC qual scope s.heap.objs.size f cd
 outer:=outer
 stack:=envOfC qual scope s.heap.objs.size f cd::outer
 ex:=[]
 calm:=true
 fn:=λ_=>true
 pn:=[]
 xe:=λe s'=>wpAny (model P w) (A.deeper (envOfC qual scope s.heap.objs.size f cd)) (leaving (envOfC qual scope s.heap.objs.size f cd) e) (λ_ n9=>CX outer H s E e n9) (λe' n9=>CX outer H s E e' n9) s'
theorem qk7{sc:Scope}{n:Nat}{x:Str}(h:sc.names.lookup x=some .cell):∃c,(cellsFrom n sc.names []).lookup x=some c:=by
 have q:=PySem.W.cellsFrom_some sc.names n [] (.inl h);exact Option.isSome_iff_exists.mp q
theorem kwx{CX:CXT}{P:Program}{w:World}{K:PySem.W.Frag}{mg:Str->Option Value}{base:Heap}{N ps:List Str}{qual:Str}{scope:Scope}{f:Addr}{cd:Value}{A:Around}{outer:List Env}{s s1:Shared}{H:Hp}{E:XK}{us:List Value}{vs:List V}
  (S:FnScope N ps scope) (hd:A.handled=none) (e0:Env0 P w K mg base A outer s H) (hl:vs.length=ps.length) (r:Vals vs us)
  (x:InCallC s s.heap.objs.size (bindL (envOfC qual scope s.heap.objs.size f cd).kindOf (ps.zip us) λ_=>none) (cellsFrom (s.heap.objs.size+1) scope.names []) (bindC (envOfC qual scope s.heap.objs.size f cd).kindOf (ps.zip us) λ_=>none) s1):
  Inv (zw CX P w K mg base N qual scope f cd A outer s H E) [] (start N vs) H s1:=by
 have be:ps.length<=N.length:=by have:=congrArg List.length S.pre;rw[Z0]at this;omega
 obtain⟨h1,tk,rfl,hk⟩:=x.done;have pe:∀b:Addr,b∉(zw CX P w K mg base N qual scope f cd A outer s H E).ex:=λb z=>absurd (show b∈([]:List Addr)from z) (by simp)
 refine⟨⟨e0.mod,S.kind,rfl,rfl,X9 _,λy z c h1 h2=>?_,λy hy=>?_,λy c _ h=>?_,λ_=>hd,Around.frames_deeper e0.frames,.inr ⟨rfl,rfl⟩,λb z=>absurd z (pe b),e0.bs,e0.bsz,λb _ _=>pe b,λb z=>absurd z (pe b),e0.funs,e0.frf⟩,
  rfl,e0.bare,Un.kept hk,⟨_,x.toInCall.ns,λi y v h1 h2 h3=>?_⟩,λy c h=>⟨_,x.cell y c h⟩,e0.hok.fresh (X9 _),λy c h=>?_,λp hp=>absurd (show p∈([]:List (Addr×Obj))from hp) (by simp),e0.hok.kept hk,?_⟩
 ·exact name_of_addr x.apart (Yh h1) (Yh h2)
 ·have hy:scope.names.lookup y=some .cell\/scope.names.lookup y=some .free:=hy;rcases hy with hy|hy
  ·exact qk7 hy
  ·exact absurd rfl (S.nofree _ (Yh hy))
 ·exact Nat.le_of_lt (x.above y c (Yh h))
 ·have hi:i<vs.length:=by
   unfold start at h2
   by_cases hi:i<vs.length
   ·exact hi
   ·rw[Xy (by simpa using hi)]at h2;rw[List.getElem?_replicate]at h2
    split at h2<;>cases h2
  have ha:vs[i]?=some v:=by
   unfold start at h2;rw[Xq (by simpa using hi),Xw]at h2;cases e:vs[i]? with
   |none=>rw[e]at h2;cases h2
   |some a=>rw[e]at h2;cases h2;rfl
  obtain⟨u,hu,rv⟩:=r.get ha;have hp:ps[i]?=some y:=by
   rw[<-S.pre,List.getElem?_take_of_lt (by omega)];exact h1
  have ndP:ps.Nodup:=by rw[<-S.pre];exact S.nd.sublist (List.take_sublist _ _)
  refine⟨u,rv,?_⟩;rcases S.par y (Xd hp)with k|k
  ·exact .inl ⟨k,kxi ndP hp hu k⟩
  ·obtain⟨c,e⟩:=qk7 (n:=s.heap.objs.size+1) k;refine .inr ⟨.inl k,c,e,?_⟩;have q:=x.cell y c e;rw[kxk ndP hp hu (by show scope.names.lookup y≠_;rw[k];decide)]at q;exact q
 ·exact e0.hok.fresh (Nat.le_of_lt (x.above y c (Yh h)))
 ·unfold start;show _=N.length;rw[Xi,X5,Xz];omega
theorem wwn{CX:CXT}{P:Program}{w:World}{K:PySem.W.Frag}{mg:Str->Option Value}{base:Heap}{k:Nat}{f:Addr}{name qual:Str}{params:Arguments}{body:List Stmt}{scope:Scope}{dV kV ei pm b6 ct oc:Value}{an od:Option Addr}
  {ky:Array (Option Value)} {N ps:List Str} {sp:Sp} (lk:K.lookup f=some ⟨oc,od,.func (PySem.W.fnOf name qual params body scope dV kV ei pm an b6 ct),ky⟩) (gm:PySem.W.codeIn K b6 qual=true) (S:FnScope N ps scope)
  (len:∀vs H Q E,sp vs H Q E->vs.length=ps.length)
  (fc:∀(A:Around) (outer:List Env) (s:Shared) (H:Hp) (vs:List V) (Q:VK) (E:XK),Room k (A.deeper (envOfC qual scope s.heap.objs.size f b6))->sp vs H Q E ->
   ∃t,PSs (zw CX P w K mg base N qual scope f b6 A outer s H E) body t/\t { nx:=λ_ H'=>Q .non H',rt:=Q } (start N vs) H):
  FnOk P w K mg base CX (k+1) f (PySem.W.fnOf name qual params body scope dV kV ei pm an b6 ct) ps sp:=by
 refine⟨len,λA outer s H args us vs Q E hr e0 hb r i9=>?_⟩;have hl:=len _ _ _ _ i9;have KX:K.In s.heap:=e0.mod.kin.keeps λb o e=>(e0.bs b o e).1
 have lim:s.heap.NoLimit:=e0.mod.nolimit.keeps λb o e=>(e0.bs b o e).1
 have kl:∀y∈ps.zip us,scope.names.lookup y.1=some .local\/(scope.names.lookup y.1=some .cell/\((cellsFrom (s.heap.objs.size+1) scope.names []).lookup y.1).isSome=true):=λ⟨n,v⟩ hy=>by
  rcases S.par n (List.of_mem_zip hy).1 with q|q
  ·exact .inl q
  ·exact .inr ⟨q,PySem.W.cellsFrom_some _ _ _ (.inl q)⟩
 refine codeAny_call_function hr.depth (KX _ _ lk) rfl S.co S.gen rfl (PySem.W.codeRec_of KX gm) (hb _ _ _ _ ?_);refine wpAny_newFunctionEnv_cells S.kind kl λenv he s1 x=>?_
 subst he;refine⟨lim.keeps x.toInCall.keep,codeAny_func ?_⟩;obtain⟨t,ht,hq⟩:=fc A outer s H vs Q E (hr.deeper _) i9;have I:Inv (zw CX P w K mg base N qual scope f b6 A outer s H E) [] (start N vs) H s1:=kwx S hr.hd e0 hl r x;refine Z4 (ht [] s1 (start N vs) H _ I hq) (λfl s' hs=>?_) λe s' hs=>hs
 have fin:∀{σ':St} {H':Hp} {v:V} {u:Value},Inv (zw CX P w K mg base N qual scope f b6 A outer s H E) [] σ' H' s'->RelV v u->Q v H'->CE outer P w H s Q u s':=
  fun {σ' H' v u} J rv q=>⟨v,H',J.os,J.bare,J.base,J.hok,rv,q⟩
 cases fl with
 |ret u=>
  obtain⟨v,σ',H',J,rv,q⟩:=hs;exact fin J rv q
 |next=>
  obtain⟨σ',H',J,q⟩:=hs;exact fin (v:=V.non) (u:=Value.none) J rfl q
 |brk=>
  obtain⟨_,_,_,q⟩:=hs;exact False.elim q
 |cont=>
  obtain⟨_,_,_,q⟩:=hs;exact False.elim q
section
variable {X:Cx}{x:Str}{p pos:Pos}{e:Expr}{es:List Expr}{t:TA}{id T:String}{r:List V->Hp->VK->Prop}
abbrev tCB(r:List V->Hp->VK->Prop)(t:TA):TE:=fun σ H Q=>t σ H λvs H1=>r vs H1 Q
theorem kv1(hc:CallR X (.builtin id) r)(hg:Gl X x)(hm:X.mg x=none)(hv:bootBuiltins x=some (.builtin id))(ha:PA X (e::es) t)(hn:autoParam (x≠"__name__") ŕ)(cj:autoParam ((x==("__debug__":Str))=false) ŕ)
  (he:autoParam (starEach (e::es) X.env=(false,eval e X.env)::starEach es X.env) Ŕ) (be:autoParam ((backTo pos (starEach es X.env)).any (·.1)=false) Ŕ):PE X (.Call (.Name x p) (e::es) [] pos) (tCB r t):=by
 intro pins s σ H Q I h;refine Yu (Qj I hg hm hv ?_ hn cj);exact PyProof.Rows.callWith_builtin1 (thn (ha pos pins s σ H _ I h) λus s1 ⟨vs,H1,I1,r1,q1⟩=>hc pins s1 σ H1 vs us Q I1 r1 q1) he be
theorem qvz(hc:CallR X (.type T) r)(hg:Gl X x)(hm:X.mg x=none)(hv:bootBuiltins x=some (.type T))(ha:PA X (e::es) t)(hn:autoParam (x≠"__name__") ŕ)(cj:autoParam ((x==("__debug__":Str))=false) ŕ)
  (he:autoParam (starEach (e::es) X.env=(false,eval e X.env)::starEach es X.env) Ŕ) (be:autoParam ((backTo pos (starEach es X.env)).any (·.1)=false) Ŕ):PE X (.Call (.Name x p) (e::es) [] pos) (tCB r t):=by
 intro pins s σ H Q I h;refine Yu (Qj I hg hm hv ?_ hn cj);exact Y8 (thn (ha pos pins s σ H _ I h) λus s1 ⟨vs,H1,I1,r1,q1⟩=>hc pins s1 σ H1 vs us Q I1 r1 q1) he be
end
end L2
namespace HT
open PySem PyProof.Rows
section
variable {prog:Program}{w:World}{A:Around}{E:Value->Shared->Prop}{s:Shared}
theorem cat_tup{t b:Addr}{vs ws:List Value}{Q:Value->Shared->Prop}(ht:IsTup s.heap t vs.toArray)(hb:IsTup s.heap b ws.toArray)(hv:vs≠[])
  (h1:ws=[]->Q (.ref t) s) (h2:ws≠[]->Q (.ref s.heap.objs.size) { s with heap:=s.heap.push { cls:=.type "tuple",data:=.seq (vs++ws).toArray } })
  (hsz:vs.length+ws.length<=sizeLine):wpAny (model prog w) A (binaryOp .Add (.ref t) (.ref b)) Q E s:=by
 obtain⟨⟨cls,dd,data,sl⟩,ho,hc,n,hd⟩:=id ht;obtain⟨⟨cls2,dd2,data2,lw⟩,ho2,hc2,n2,hd2⟩:=id hb;simp only at hc hd hc2 hd2;subst hc hd hc2 hd2;have e:vs.toArray++ws.toArray=(vs++ws).toArray:=by simp
 by_cases hw:ws=[]
 ·exact concat_meets ⟨_,ho,rfl⟩ ⟨_,ho2,rfl⟩ noFill_tuple_add seq_tuple_add PySem.F.slot_tuple_add PySem.F.entry_tuple_add (PySem.F.args_tuple_add_2 _ _)
   (tuple_addW1 t b vs.toArray ws.toArray n n2 dd dd2 sl lw (by simpa using hv) (by simp[hw])) ⟨ho,ho2,h1 hw⟩
 ·refine concat_meets ⟨_,ho,rfl⟩ ⟨_,ho2,rfl⟩ noFill_tuple_add seq_tuple_add PySem.F.slot_tuple_add PySem.F.entry_tuple_add (PySem.F.args_tuple_add_2 _ _)
   (tuple_addW2 t b vs.toArray ws.toArray n n2 dd dd2 sl lw (by simpa using hv) (by simpa using hw) (by rw[X6,X6];exact hsz)) ⟨ho,ho2,?_⟩
  rw[e];exact h2 hw
noncomputable def sIx(n d:Nat):Option Int->Nat
 |none=>d
 |some v=>if v<0 then(v+(n:Int)).toNat else min v.toNat n
theorem vzf(n d:Nat)(hd:d<=n)(o:Option Int):sIx n d o<=n:=by
 cases o with
 |none=>exact hd
 |some v=>
  show(if v<0 then(v+(n:Int)).toNat else min v.toNat n)<=n
  by_cases hv:v<0
  ·rw[Xa hv];omega
  ·rw[Xe hv];exact Nat.min_le_right _ _
theorem qxs(v:Int)(n d:Nat):(if v<0 then max (v+(n:Int)) 0 else min v (n:Int))=((sIx n d (some v):Nat):Int):=by
 show(if v<0 then max (v+(n:Int)) 0 else min v (n:Int))=(((if v<0 then(v+(n:Int)).toNat else min v.toNat n):Nat):Int)
 by_cases hv:v<0
 ·simp only[Xa hv];omega
 ·simp only[Xe hv];omega
theorem qqf(lo hi:Option Int)(n:Nat):Builtin.Slice.sliceAdjust lo hi 1 (n:Int)=(((sIx n 0 lo:Nat):Int),((sIx n n hi:Nat):Int)):=by
 have h1:¬((1:Int)<0):=by omega
 unfold Builtin.Slice.sliceAdjust;simp only[h1,if_false];refine Prod.ext ?_ ?_
 ·cases lo with
  |none=>rfl
  |some v=>exact qxs v n 0
 ·cases hi with
  |none=>rfl
  |some v=>exact qxs v n n
theorem qkt(i j:Nat):Builtin.Slice.slicePlaces (i:Int) (j:Int) 1=j - i:=by
 unfold Builtin.Slice.slicePlaces;have h1:(1:Int)>0:=by omega
 simp only[h1,if_true,Int.ediv_one]
 split<;>omega
theorem kqa{v:Value}{o:Option Int}{Q:Option Int->Shared->Prop}(p:IsPart v o)(h:Q o s):wpAny (model prog w) A (Builtin.Slice.slicePartIndex v) Q E s:=by
 cases p with
 |none=>exact slicePart_none h
 |int i t=>exact slicePart_int h
theorem jzq{sl:Addr}{vl vu:Value}{lo hi:Option Int}{n:Nat}{Q:Int×Int×Nat->Shared->Prop}(hs:s.heap.IsSliceOf sl vl vu .none)(pl:IsPart vl lo)(pu:IsPart vu hi)
  (h:Q (((sIx n 0 lo:Nat):Int),1,sIx n n hi - sIx n 0 lo) s):wpAny (model prog w) A (Builtin.Slice.sliceApplied (.ref sl) (pure (n:Int))) Q E s:=by
 obtain⟨os,r9,li,dy⟩:=id hs;unfold Builtin.Slice.sliceApplied Builtin.Slice.sliceFields;refine X0 (X0 (Z3 r9 dy (x:=vl) rfl (X0 (Z3 r9 dy (x:=vu) rfl (X0 (Z3 r9 dy (x:=.none) rfl (X4 ?_)))))));refine X0 (slicePart_none ?_);show wpAny _ _ (if((1:Int)==0)=true then _ else _) _ _ s;rw[Xe (by decide)];refine X0 (kqa pl (X0 (kqa pu (X0 (X4 ?_)))));show wpAny _ _ (match Builtin.Slice.sliceAdjust lo hi 1 (n:Int)with|(lo,hi)=>pure (lo,(1:Int),Builtin.Slice.slicePlaces lo hi 1)) _ _ s;rw[qqf lo hi n];show wpAny _ _ (pure (((sIx n 0 lo:Nat):Int),(1:Int),Builtin.Slice.slicePlaces ((sIx n 0 lo:Nat):Int) ((sIx n n hi:Nat):Int) 1)) _ _ s;rw[qkt];exact X4 h
theorem vj8(xs:Array Value)(i k:Nat):((List.range k).filterMap λ(m:Nat)=>xs[((i:Int)+(m:Int)*1).toNat]?).toArray=((xs.toList.drop i).take k).toArray:=by
 have e:(λ(m:Nat)=>xs[((i:Int)+(m:Int)*1).toNat]?)=λm=>xs[i+m]?:=by
  funext m;have:((i:Int)+(m:Int)*1).toNat=i+m:=by omega
  rw[this]
 rw[e];have:=pick_run xs i k;rw[List.filterMap_map]at this;have e2:((λx=>xs[x]?)∘λx=>i+x)=λm=>xs[i+m]?:=rfl
 rw[e2]at this;rw[this]
theorem getItem_tuple_cut{t sl:Addr}{items:Array Value}{vl vu:Value}{lo hi:Option Int}{Q:Value->Shared->Prop}(ht:IsTup s.heap t items)(hs:s.heap.IsSliceOf sl vl vu .none)(pl:IsPart vl lo)(pu:IsPart vu hi)
  (hw:¬(sIx items.size 0 lo=0/\sIx items.size items.size hi=items.size))
  (h:Q (.ref s.heap.objs.size) { s with heap:=s.heap.push { cls:=.type "tuple",data:=.seq ((items.toList.drop (sIx items.size 0 lo)).take (sIx items.size items.size hi - sIx items.size 0 lo)).toArray } })
  (hsz:items.size<=sizeLine):wpAny (model prog w) A (getItem (.ref t) (.ref sl)) Q E s:=by
 have iu:sizeOk (.seq ((items.toList.drop (sIx items.size 0 lo)).take (sIx items.size items.size hi - sIx items.size 0 lo)).toArray):=by
  show((items.toList.drop (sIx items.size 0 lo)).take (sIx items.size items.size hi - sIx items.size 0 lo)).toArray.size<=sizeLine;rw[X6,Z0,Z1,Ya];omega
 have hj:sIx items.size items.size hi<=items.size:=vzf _ _ (X9 _) hi;obtain⟨os,r9,li,dy⟩:=id hs;have hTs:s.TypeIs (.ref sl) "slice":=⟨os,r9,li⟩;unfold getItem
 try with_reducible refine Yb ?_
 first|refine X0 (X4 ?_)|skip
 refine X0 (wpAny_sequenceKey ht.typeIs (by decide) ?_);refine X0 (wpAny_callSpecial?_slot (name:=Str.ofString "__getitem__") ht.typeIs PyProof.Rows.slot_tuple_getitem
  (Ye PyProof.Rows.slot_tuple_getitem ht.typeIs entry_tuple_getitem ?_ (args_tuple_getitem _ _)))
 show wpAny _ _ (Builtin.Tuple.tupleItemsOf (.ref t) >>= _) _ _ s;refine X0 (tupleItemsOf_ ht ?_);refine X0 (wpAny_typeOf hTs ?_);rw[Xa (by decide)];refine X0 (jzq hs pl pu ?_);have ig:¬((((sIx items.size 0 lo:Nat):Int)==0&&(1:Int)==1&&(sIx items.size items.size hi - sIx items.size 0 lo)==items.size)=true):=by
  intro q;rw[Bool.and_eq_true,Bool.and_eq_true]at q;have q1:((sIx items.size 0 lo:Nat):Int)=0:=eq_of_beq q.1.1;have q2:sIx items.size items.size hi - sIx items.size 0 lo=items.size:=eq_of_beq q.2;exact hw ⟨by omega,by omega⟩
 show wpAny _ _ (if(((sIx items.size 0 lo:Nat):Int)==0&&(1:Int)==1&&(sIx items.size items.size hi - sIx items.size 0 lo)==items.size)=true then _ else _) _ _ s;rw[Xe ig,vj8]
 first
  |exact X0 (m:=Builtin.Tuple.tupleExact _) (Y3 (X4 ⟨_,rfl,X4 h⟩) iu)
  |exact X0 (m:=Builtin.Tuple.tupleExact _) (Y3 (X0 (X4 (X4 ⟨_,rfl,X4 h⟩))) iu)
  |exact X0 (X0 (m:=Builtin.Tuple.tupleExact _) (Y3 (X4 (X4 ⟨_,rfl,X4 h⟩)) iu))
  |exact X0 (X0 (m:=Builtin.Tuple.tupleExact _) (Y3 (X4 ⟨_,rfl,X4 h⟩) iu))
end
end HT
namespace L2
open PySem PySem.Spec PyProof.Rows
abbrev TO:=St->Hp->(Option Int->Hp->Prop)->Prop
noncomputable def PO(X:Cx)(e:Option Expr)(t:TO):Prop:=
 ∀(pins:List (Addr×Obj)) (s:Shared) (σ:St) (H:Hp) (Q:Option Int->Hp->Prop),Inv X pins σ H s->t σ H Q ->
  wpAny (model X.prog X.w) X.A (evalPart e X.env) (λu s'=>∃o H',Inv X pins σ H' s'/\IsPart u o/\Q o H') X.xe s
abbrev qqt:TO:=λ_ H Q=>Q none H
abbrev vz5(t:TE):TO:=fun σ H Q=>t σ H λx H1=>∃i,x=.int i/\Q (some i) H1
theorem qq9{ns:List Int}:∀{us:List Value},Vals (ns.map V.int) us->IntsAre us ns:=by
 induction ns with
 | nil=>intro us r;rw[List.map_nil]at r;cases r;exact .nil
 | cons n ns ih=>
  intro us r;rw[List.map_cons]at r;cases r with
  |cons r1 r2=>
   obtain⟨t,e⟩:=r1;subst e;exact .cons n t (ih r2)
section
variable {X:Cx}{e:Expr}{te:TE}{lo hi:Option Expr}{tl th:TO}{pos p2:Pos}
theorem kz4:PO X none qqt:=by
 intro pins s σ H Q I h;rw[evalPart_none];exact X4 ⟨none,H,I,.none,h⟩
theorem vvt(h:PE X e te):PO X (some e) (vz5 te):=by
 intro pins s σ H Q I hw;rw[evalPart_some];refine thn (h pins s σ H _ I hw) λu s1 ⟨x,H1,I1,r1,q1⟩=>?_
 obtain⟨i,rfl,q⟩:=q1;obtain⟨t,rfl⟩:=r1;exact⟨some i,H1,I1,.int i t,q⟩
noncomputable def SlR(X:Cx)(r:V->Option Int->Option Int->Hp->VK->Prop):Prop:=
 ∀(pins:List (Addr×Obj)) (s:Shared) (σ:St) (H:Hp) (x:V) (v vl vu:Value) (lo hi:Option Int) (sl:Addr) (Q:VK),Inv X pins σ H s->RelV x v->s.heap.IsSliceOf sl vl vu .none->IsPart vl lo->IsPart vu hi->r x lo hi H Q ->
  ∃T id,typeLookup (.type T) "__getitem__"=pure (some (.builtin id))/\s.TypeIs v T/\wpAny (model X.prog X.w) X.A (getItem v (.ref sl)) (EP X pins σ Q) X.xe s
theorem SlR.or{r r':V->Option Int->Option Int->Hp->VK->Prop}(h:SlR X r)(h':SlR X r'):SlR X (λx lo hi H Q=>r x lo hi H Q\/r' x lo hi H Q):=by
 intro pins s σ H x v vl vu lo hi sl Q I rx hs pl pu q;rcases q with q|q
 ·exact h pins s σ H x v vl vu lo hi sl Q I rx hs pl pu q
 ·exact h' pins s σ H x v vl vu lo hi sl Q I rx hs pl pu q
abbrev tSl(r:V->Option Int->Option Int->Hp->VK->Prop)(te:TE)(tl th:TO):TE:=fun σ H Q=>te σ H λx H1=>tl σ H1 λl H2=>th σ H2 λu H3=>r x l u H3 Q
theorem vja{r:V->Option Int->Option Int->Hp->VK->Prop}(hr:SlR X r)(he:PE X e te)(hl:PO X lo tl)(hu:PO X hi th):PE X (.Subscript e (.Slice lo hi none p2) pos) (tSl r te tl th):=by
 intro pins s σ H Q I h;refine Subscript_ (thn (he pins s σ H _ I h) λv s1 ⟨x,H1,I1,r1,q1⟩=>?_);refine wpAny_Slice (thn (hl pins s1 σ H1 _ I1 q1) λvl s2 ⟨l,H2,I2,pl,q2⟩=>thn (hu pins s2 σ H2 _ I2 q2) λvu s3 ⟨u,H3,I3,pu,q3⟩=>?_);rw[evalPart_none];refine X4 ?_;have I4:Inv X pins σ H3 { s3 with heap:=s3.heap.push { cls:=.type "slice",data:=.fields #[vl,vu,.none] } }:=I3.kept (t':=s3.toks) λb ob q=>X8 _ q
 obtain⟨T,id,hT,ht,hg⟩:=hr pins { s3 with heap:=s3.heap.push { cls:=.type "slice",data:=.fields #[vl,vu,.none] } } σ H3 x v vl vu l u s3.heap.objs.size Q I4 r1 (Heap.IsSliceOf.new ..) pl pu q3;show wpAny (model X.prog X.w) X.A (subscriptTail e (.Slice lo hi none p2) v (.ref s3.heap.objs.size)) (EP X pins σ Q) X.xe { s3 with heap:=s3.heap.push { cls:=.type "slice",data:=.fields #[vl,vu,.none] } };exact tail_any (ops:=[.ref s3.heap.objs.size,v]) ht hT hg (by with_unfolding_all rfl)
noncomputable def QX(xs:List V)(lo hi:Option Int):List V:=(xs.drop (HT.sIx xs.length 0 lo)).take (HT.sIx xs.length xs.length hi - HT.sIx xs.length 0 lo)
theorem kke(xs:List V)(lo hi:Option Int):(QX xs lo hi).length<=xs.length:=by
 unfold QX;rw[Z0,Z1];omega
noncomputable def wxc(K:PySem.W.Frag):V->Option Int->Option Int->Hp->VK->Prop:=λx lo hi H Q=>∃a xs,x=.ref a/\SqT K H a xs /\
 ¬(HT.sIx xs.length 0 lo=0/\HT.sIx xs.length xs.length hi=xs.length)/\∀p,H p=none->Q (.ref p) (upd H p (.tup (QX xs lo hi)))
theorem sl_tup:SlR X (wxc X.K):=by
 intro pins s σ H x v vl vu lo hi sl Q I rx hs pl pu h;obtain⟨a,xs,rfl,hx,hw,q⟩:=h;cases rx;obtain⟨ak,r,ht,hz⟩:=I.tuple hx;have av:ak.toArray.size=xs.length:=by rw[X6];exact r.length.symm
 refine⟨"tuple",_,PyProof.Rows.slot_tuple_getitem.lookup,ht.typeIs,?_⟩;refine HT.getItem_tuple_cut ht hs pl pu (by rw[av];exact hw) ?_ (by rw[av];exact hz);rw[av];refine⟨.ref s.heap.objs.size,_,I.laid (t':=s.toks) (o:=.tup (QX xs lo hi)) (λb ob q=>X8 _ q) (X9 _) ?_,rfl,q _ (I.hok.fresh (X9 _))⟩;exact⟨Y4 (kke xs lo hi) hz,_,(r.drop (HT.sIx xs.length 0 lo)).take (HT.sIx xs.length xs.length hi - HT.sIx xs.length 0 lo),IsTupD.new _ _⟩
noncomputable def vzs(K:PySem.W.Frag):R2:=λx y H Q=>∃a b xs ys,x=.ref a/\y=.ref b/\SqT K H a xs/\SqT K H b ys/\xs≠[]/\xs.length+ys.length<=sizeLine /\
 (ys=[]->Q (.ref a) H)/\(ys≠[]->∀p,H p=none->Q (.ref p) (upd H p (.tup (xs++ys))))
theorem Vals.nil_iff{xs:List V}{us:List Value}(r:Vals xs us):us=[]↔xs=[]:=by
 cases r with
 |nil=>simp
 |cons _ _=>simp
theorem vw8:OpR X (binaryOp .Add) (vzs X.K):=by
 intro pins s σ H x y v u Q I rx ry h;obtain⟨a,b,xs,ys,rfl,rfl,ha,hb,hx,hz,q1,q2⟩:=h;cases rx;cases ry;obtain⟨ak,r1,p1,_⟩:=I.tuple ha;obtain⟨gl,r2,p2,_⟩:=I.tuple hb;refine HT.cat_tup p1 p2 (λz=>hx (r1.nil_iff.mp z)) (λz=>⟨.ref a,H,I,rfl,q1 (r2.nil_iff.mp z)⟩) (λz=>?_) (by rw[<-r1.length,<-r2.length];exact hz);refine⟨.ref s.heap.objs.size,_,I.laid (t':=s.toks) (o:=.tup (xs++ys)) (λb ob q=>X8 _ q) (X9 _) ?_,rfl,q2 (λw=>z (r2.nil_iff.mpr w)) _ (I.hok.fresh (X9 _))⟩;exact⟨by rw[Xi];exact hz,_,r1.append r2,IsTupD.new _ _⟩
end
noncomputable def ixN(n:Nat)(i:Int):Option Nat:=if 0<=i then(if i<n then some i.toNat else none)else if -(n:Int)<=i then some (i+n).toNat else none
noncomputable def atI{α:Type}(xs:List α)(i:Int):Option α:=(ixN xs.length i).bind λj=>xs[j]?
theorem vwq{n:Nat}{i:Int}{j:Nat}(h:ixN n i=some j):seqIndex? i n=some j/\j<n/\-(n:Int)<=i/\i<n:=by
 unfold ixN at h
 by_cases h0:0<=i
 ·rw[Xa h0]at h
  by_cases h1:i<n
  ·rw[Xa h1]at h;have e:i.toNat=j:=oq9 h;exact⟨by rw[seqIndex_of h0 h1,e],by omega,by omega,h1⟩
  ·rw[Xe h1]at h;cases h
 ·rw[Xe h0]at h
  by_cases h1:-(n:Int)<=i
  ·rw[Xa h1]at h;have e:(i+n).toNat=j:=oq9 h;exact⟨by rw[seqIndex_neg (by omega) h1,e],by omega,h1,by omega⟩
  ·rw[Xe h1]at h;cases h
theorem kzr{α:Type}{xs:List α}{i:Int}{v:α}(h:atI xs i=some v):∃j,seqIndex? i xs.length=some j/\xs[j]?=some v/\j<xs.length/\-(xs.length:Int)<=i/\i<xs.length:=by
 unfold atI at h;cases e:ixN xs.length i with
 |none=>rw[e]at h;cases h
 |some j=>
  rw[e]at h;obtain⟨h1,h2,h3,h4⟩:=vwq e;exact⟨j,h1,h,h2,h3,h4⟩
noncomputable def Wz(b:Expr):Prop:=∀o i,subscripted b false o i=operate [o,i] (getItem o i)
noncomputable def IxR(X:Cx)(r:R2):Prop:=
 ∀(value slice:Expr) (pins:List (Addr×Obj)) (s:Shared) (σ:St) (H:Hp) (x y:V) (v u:Value) (Q:VK),Inv X pins σ H s->RelV x v->RelV y u->r x y H Q ->
  subscripted slice false v u=operate [v,u] (getItem v u)->wpAny (model X.prog X.w) X.A (subscriptTail value slice v u) (EP X pins σ Q) X.xe s
noncomputable def MtR(X:Cx)(id:String)(r:V->List V->Hp->VK->Prop):Prop:=
 ∀(pins:List (Addr×Obj)) (s:Shared) (σ:St) (H:Hp) (x:V) (xs:List V) (v:Value) (us:List Value) (Q:VK),Inv X pins σ H s->RelV x v->Vals xs us->r x xs H Q ->
  wpAny (model X.prog X.w) X.A (call (.builtin id) (v::us)) (EP X pins σ Q) X.xe s
section
variable {X:Cx}{a b:Expr}{ta tb:TE}{pos:Pos}
theorem IxR.or{r r':R2}(h:IxR X r)(h':IxR X r'):IxR X (λx y H Q=>r x y H Q\/r' x y H Q):=by
 intro value slice pins s σ H x y v u Q I rx ry q hs;rcases q with q|q
 ·exact h value slice pins s σ H x y v u Q I rx ry q hs
 ·exact h' value slice pins s σ H x y v u Q I rx ry q hs
theorem vjb{r:R2}(hr:IxR X r)(ha:PE X a ta)(hb:PE X b tb)(hs:Wz b):PE X (.Subscript a b pos) (tOp r ta tb):=by
 intro pins s σ H Q I h;exact Subscript_ (wx1 ha hb I h λv u s2 x y H2 I2 rx ry q=>hr a b pins s2 σ H2 x y v u Q I2 rx ry q (hs _ _))
noncomputable def wxi(K:PySem.W.Frag):R2:=λx y H Q=>∃p xs i v,x=.ref p/\y=.int i/\SqL K H p xs/\atI xs i=some v/\Q v H
noncomputable def wxg(K:PySem.W.Frag):R2:=λx y H Q=>∃p xs i v,x=.ref p/\y=.int i/\SqT K H p xs/\atI xs i=some v/\Q v H
noncomputable def wxh:R2:=λx y H Q=>∃z i c,x=.str z/\y=.int i/\z.length<=sizeLine/\atI z.cps.toList i=some c/\Q (.str ⟨#[c]⟩) H
theorem ix_list:IxR X (wxi X.K):=by
 intro value slice pins s σ H x y v u Q I rx ry h hs;obtain⟨p,xs,i,z,rfl,rfl,hq,he,q⟩:=h;cases rx;obtain⟨t,rfl⟩:=ry;obtain⟨ak,r,pl,hz⟩:=I.list hq;obtain⟨j,h1,h2,h3,h4,h5⟩:=kzr he;obtain⟨w,ew,ph⟩:=r.get h2;have hl:=r.length;have hn:=Wv;have fin:EP X pins σ Q w s:=⟨z,H,I,ph,q⟩
 by_cases h0:0<=i
 ·have hj:i.toNat=j:=by
   rw[seqIndex_of h0 h5]at h1;exact oq9 h1
  exact item_listR pl.isList h0 (by omega) (by rw[hj];simpa using ew) fin hs
 ·have hj:(i+(ak.toArray.size:Int)).toNat=j:=by
   rw[seqIndex_neg (by omega) h4]at h1;rw[X6,<-hl];exact oq9 h1
  exact subscriptTail_builtinR (x:=w) pl.isList.typeIs slot_list_getitem.lookup
   (wpAny_getItem_list_neg (Q:=λr s'=>r=w/\EP X pins σ Q r s') pl.isList (by omega) (by rw[X6]<;>omega) (by omega) (by rw[hj];simpa using ew) ⟨rfl,fin⟩) hs
theorem ix_tup:IxR X (wxg X.K):=by
 intro value slice pins s σ H x y v u Q I rx ry h hs;obtain⟨p,xs,i,z,rfl,rfl,hq,he,q⟩:=h;cases rx;obtain⟨t,rfl⟩:=ry;obtain⟨ak,r,pl,hz⟩:=I.tuple hq;obtain⟨j,h1,h2,h3,h4,h5⟩:=kzr he;obtain⟨w,ew,ph⟩:=r.get h2;have hl:=r.length;have hn:=Wv;have fin:EP X pins σ Q w s:=⟨z,H,I,ph,q⟩;exact subscriptTail_builtinR (x:=w) pl.typeIs slot_tuple_getitem.lookup
  (getItem_tuple (j:=j) (Q:=λr s'=>r=w/\EP X pins σ Q r s') pl (by omega) (by omega) (by rw[X6,<-hl];exact h1) (by simpa using ew) ⟨rfl,fin⟩) hs
theorem wkq:IxR X wxh:=by
 intro value slice pins s σ H x y v u Q I rx ry h hs;obtain⟨z,i,c,rfl,rfl,hz,he,q⟩:=h;obtain⟨t,rfl⟩:=rx;obtain⟨t',rfl⟩:=ry;obtain⟨j,h1,h2,h3,h4,h5⟩:=kzr he;have hl:z.cps.toList.length=z.length:=by simp[Str.length]
 rw[hl]at h1 h4 h5;have hn:=Wv;exact tail_any (typeIs_str s z t) slot_str_getitem.lookup (getItem_str (c:=c) (by
  have e1:decide (i < -(2 ^ 63:Int))=false:=Xb (by omega);have e2:decide (i>=2 ^ 63)=false:=Xb (by omega);rw[e1,e2,Bool.or_false]) (by rw[h1];simpa using h2) ⟨.str ⟨#[c]⟩,H,I.tok _,⟨_,rfl⟩,q⟩) hs
noncomputable def rIx(K:PySem.W.Frag):R2:=λx y H Q=>wxi K x y H Q\/wxg K x y H Q\/wxh x y H Q
theorem qjv:IxR X (rIx X.K):=ix_list.or (ix_tup.or wkq)
theorem kw1(lo hi:Option Int)(n:Nat):(sliceBounds lo hi none n).1=((HT.sIx n 0 lo:Nat):Int)/\(sliceBounds lo hi none n).2.1=((HT.sIx n n hi:Nat):Int)/\(sliceBounds lo hi none n).2.2=1:=by
 refine⟨?_,?_,rfl⟩
 ·cases lo with
  |none=>simp[sliceBounds,HT.sIx]
  |some i=>
   simp only[sliceBounds,HT.sIx,Option.getD_none,show(1:Int)>0 by decide,if_true]
   by_cases h:i<0
   ·simp only[h,if_true]<;>omega
   ·simp only[h,if_false]<;>omega
 ·cases hi with
  |none=>simp[sliceBounds,HT.sIx]
  |some i=>
   simp only[sliceBounds,HT.sIx,Option.getD_none,show(1:Int)>0 by decide,if_true]
   by_cases h:i<0
   ·simp only[h,if_true]<;>omega
   ·simp only[h,if_false]<;>omega
theorem kqu(ak:List Value)(lo hi:Option Int):slicePick ak.toArray lo hi none=((ak.drop (HT.sIx ak.length 0 lo)).take (HT.sIx ak.length ak.length hi - HT.sIx ak.length 0 lo)).toArray:=by
 obtain⟨h1,h2,h3⟩:=kw1 lo hi ak.toArray.size;unfold slicePick;rw[h1,h2,h3];simp only[sliceRange_one,pick_run,X6]<;>rfl
noncomputable def wxe(K:PySem.W.Frag):V->Option Int->Option Int->Hp->VK->Prop:=λx lo hi H Q=>∃a xs,x=.ref a/\SqL K H a xs/\∀p,H p=none->Q (.ref p) (upd H p (.lst (QX xs lo hi)))
theorem sl_list:SlR X (wxe X.K):=by
 intro pins s σ H x v vl vu lo hi sl Q I rx hs pl pu h;obtain⟨a,xs,rfl,hx,q⟩:=h;cases rx;obtain⟨ak,r,ht,hz⟩:=I.list hx;have av:=r.length;refine⟨"list",_,slot_list_getitem.lookup,ht.isList.typeIs,?_⟩;refine wpAny_getItem_list_slice ht.isList hs pl pu .none (by simp) ?_ (by rw[X6]<;>omega);rw[kqu,<-av];refine⟨.ref s.heap.objs.size,_,I.laid (t':=s.toks) (o:=.lst (QX xs lo hi)) (λb ob q=>X8 _ q) (X9 _) ?_,rfl,q _ (I.hok.fresh (X9 _))⟩;exact⟨Y4 (kke xs lo hi) hz,_,0,(r.drop (HT.sIx xs.length 0 lo)).take (HT.sIx xs.length xs.length hi - HT.sIx xs.length 0 lo),Xl _ rfl⟩
theorem kwe:OpR X (compareOp .NotIn) (λx y H Q=>∃i j,x=.str i/\y=.str j/\Q (.bl (!(!(Builtin.Str.occurrences j i 0 j.length 1).isEmpty))) H):=by
 intro pins s σ H x y v u Q I rx ry h;obtain⟨i,j,rfl,rfl,q⟩:=h;obtain⟨t,rfl⟩:=rx;obtain⟨t',rfl⟩:=ry;exact notIn_str ⟨.bl _,H,I,rfl,q⟩
theorem call_len_seq:CallR X (.builtin "len") (λxs H Q=>∃p ys,xs=[.ref p]/\(SqL X.K H p ys\/SqT X.K H p ys)/\Q (.int ys.length) H):=by
 intro pins s σ H xs us Q I r h;obtain⟨p,ys,rfl,hq,q⟩:=h;obtain⟨u,rfl,rx⟩:=z9 r;cases rx;have hn:=Wv;rcases hq with hq|hq
 ·obtain⟨ak,r',pl,hz⟩:=I.list hq;have av:=r'.length;exact Calls.call_len_list pl.isList (by simp only[X6]<;>omega) ⟨.int ys.length,H,I.tok _,⟨s.toks+1,by rw[X6,av]⟩,q⟩
 ·obtain⟨ak,r',pl,hz⟩:=I.tuple hq;have av:=r'.length;exact len_tuple pl (by simp only[X6]<;>omega) ⟨.int ys.length,H,I.tok _,⟨s.toks+1,by rw[X6,av]⟩,q⟩
theorem call_len_str:CallR X (.builtin "len") (λxs H Q=>∃z,xs=[.str z]/\z.length<=sizeLine/\Q (.int z.length) H):=by
 intro pins s σ H xs us Q I r h;obtain⟨z,rfl,hz,q⟩:=h;obtain⟨u,rfl,t,rfl⟩:=z9 r;have hn:=Wv;exact len_str (by omega) ⟨.int z.length,H,I.tok _,⟨_,rfl⟩,q⟩
theorem CallR.or{f:Value}{r r':List V->Hp->VK->Prop}(h:CallR X f r)(h':CallR X f r'):CallR X f (λxs H Q=>r xs H Q\/r' xs H Q):=by
 intro pins s σ H xs us Q I rs q;rcases q with q|q
 ·exact h pins s σ H xs us Q I rs q
 ·exact h' pins s σ H xs us Q I rs q
theorem kxc:CallR X (.type "list") (λxs H Q=>∃p ys,xs=[.ref p]/\(SqL X.K H p ys\/SqT X.K H p ys)/\∀l,H l=none->Q (.ref l) (upd H l (.lst ys))):=by
 intro pins s σ H xs us Q I r h;obtain⟨p,ys,rfl,hq,q⟩:=h;obtain⟨u,rfl,rx⟩:=z9 r;cases rx;have fin:∀(ak:List Value),Vals ys ak->ys.length<=sizeLine->∀(h':Heap) (c':Nat),(∀b o',s.heap.get? b=some o'->h'.get? b=some o') ->
   h'.get? s.heap.objs.size=some { cls:=.type "list",dict:=none,data:=.seq ak.toArray c',slots:=#[] }->EP X pins σ Q (.ref s.heap.objs.size) { s with heap:=h' }:=λak r' hz h' c' kp e=>
  ⟨.ref s.heap.objs.size,_,I.laid (t':=s.toks) kp (X9 _) (show ObjOk X.prog X.w _ h' _ (.lst ys)from⟨hz,ak,c',r',e⟩),rfl,q _ (I.hok.fresh (X9 _))⟩
 rcases hq with hq|hq
 ·obtain⟨ak,r',pl,hz⟩:=I.list hq;have av:=r'.length;obtain⟨o,ho,hc,n,hd⟩:=pl.isList;exact call_list_seq p (.inl rfl) ho hc hd (λh' c' kp e=>fin ak r' hz h' c' kp e) (by simp only[X6]<;>omega)
 ·obtain⟨ak,r',pl,hz⟩:=I.tuple hq;have av:=r'.length;obtain⟨o,ho,hc,n,hd⟩:=pl;exact call_list_seq p (.inr rfl) ho hc hd (λh' c' kp e=>fin ak r' hz h' c' kp e) (by simp only[X6]<;>omega)
theorem kvm:CallR X (.type "tuple") (λxs H Q=>∃p ys,xs=[.ref p]/\((SqL X.K H p ys/\∀l,H l=none->Q (.ref l) (upd H l (.tup ys)))\/(SqT X.K H p ys/\Q (.ref p) H))):=by
 intro pins s σ H xs us Q I r h;obtain⟨p,ys,rfl,h⟩:=h;obtain⟨u,rfl,rx⟩:=z9 r;cases rx;rcases h with⟨hq,q⟩|⟨hq,q⟩
 ·obtain⟨ak,r',pl,hz⟩:=I.list hq;have av:=r'.length;refine call_tuple_list pl.isList (λh' kp=>?_) (by simp only[X6]<;>omega);have I1:Inv X pins σ H { s with heap:=h' }:=I.kept (t':=s.toks) kp;have I2:Inv X pins σ (upd H h'.objs.size (.tup ys)) { s with heap:=h'.push { cls:=.type "tuple",data:=.seq ak.toArray } }:=
   I1.laid (t':=s.toks) (λb o e=>X8 _ e) (X9 _) (show ObjOk X.prog X.w _ _ _ (.tup ys)from⟨hz,ak,r',IsTupD.new _ _⟩)
  exact⟨.ref h'.objs.size,_,I2,rfl,q _ (I1.hok.fresh (X9 _))⟩
 ·obtain⟨ak,r',pl,hz⟩:=I.tuple hq;exact call_tuple_same pl ⟨.ref p,H,I,rfl,q⟩
noncomputable def tyV(K : PySem.W.Frag)(T : String)(x : V)(H : Hp): Prop:= match x with
  |.str _=>T = "str"
  |.int _=>T = "int"
  |.ref p=>(T = "list" /\ ∃xs, SqL K H p xs) \/ (T = "tuple" /\ ∃o, K.lookup p = some o /\ o.cls = .type "tuple" /\ o.dict = none) \/
      (T = "dict" /\ ((∃kvs, H p = some (.dK kvs)) \/ ∃kvs, H p = some (.dT kvs))) \/ (T = "set" /\ ∃S n, H p = some (.set S n))
  |_=>False
theorem vkl{pins:List (Addr×Obj)}{σ:St}{H:Hp}{s:Shared}{T:String}{x:V}{v:Value}(I:Inv X pins σ H s)(r:RelV x v)(ty:tyV X.K T x H):
  s.TypeIs v T/\∀a,v=.ref a->∃ob,s.heap.get? a=some ob/\ob.dict=none:=by
 cases x with
 | str z=>
  obtain⟨t,rfl⟩:=r;cases(show T="str" from ty);exact⟨typeIs_str s z t,λ_ e=>nomatch e⟩
 | int i=>
  obtain⟨t,rfl⟩:=r;cases(show T="int" from ty);exact⟨typeIs_int s i t,λ_ e=>nomatch e⟩
 | ref p=>
  cases r;rcases ty with⟨rfl,xs,hq⟩|⟨rfl,o,hk,hc,hd⟩|⟨rfl,hk⟩|⟨rfl,S,n,hk⟩
  ·obtain⟨ak,_,pl,_⟩:=I.list hq;refine⟨pl.isList.typeIs,λa e=>?_⟩;cases e;obtain⟨o,n,e,c,hd,_⟩:=pl;exact⟨o,e,hd⟩
  ·refine⟨⟨o,I.kIn p o hk,hc⟩,λa e=>?_⟩;cases e;exact⟨o,I.kIn _ o hk,hd⟩
  ·have z:∃o,s.heap.get? p=some o/\o.ExactDict:=by
    rcases hk with⟨kvs,hk⟩|⟨kvs,hk⟩
    ·obtain⟨_,_,_,_,o,_,_,e,ex,_⟩:=I.hok p _ hk;exact⟨o,e,ex⟩
    ·obtain⟨_,_,_,_,o,_,_,e,ex,_⟩:=I.hok p _ hk;exact⟨o,e,ex⟩
   obtain⟨o,e,ex⟩:=z;refine⟨⟨o,e,ex.1⟩,λa e2=>?_⟩;cases e2;exact⟨o,e,ex.2.1⟩
  ·obtain⟨o,_,_,_,e,ex,_⟩:=I.hok p _ hk;refine⟨⟨o,e,ex.1⟩,λa e2=>?_⟩;cases e2;exact⟨o,e,ex.2.1⟩
 |_=>exact False.elim ty
abbrev wxa(K:PySem.W.Frag)(T:String)(r:V->List V->Hp->VK->Prop)(to:TE):TE:=fun σ H Q=>to σ H λx H1=>tyV K T x H1/\r x [] H1 Q
abbrev tBM(K:PySem.W.Frag)(T:String)(r:V->List V->Hp->VK->Prop)(to:TE)(t:TA):TE:=fun σ H Q=>to σ H λx H1=>tyV K T x H1/\t σ H1 λxs H2=>r x xs H2 Q
variable {o e:Expr}{es:List Expr}{to:TE}{t:TA}{name:Str}{apos aq:Pos}{T id:String}{r:V->List V->Hp->VK->Prop}
theorem wjq(pa:PlainAttrs T)(slot:Slot T name id)(lu:typeOf (.builtin id)=pure (.type "method_descriptor"))(hm:MtR X id r)(ho:PE X o to)
  (bf:autoParam (attributeBase o name X.env (eval o X.env)=eval o X.env) Ŕ) (bg:autoParam ((apos.endLine==aq.line)=true) Ŕ):PE X (.Call (.Attribute o name apos) [] [] aq) (wxa X.K T r to):=by
 intro pins s σ H Q I h;refine wpAny_Call_method0_late bf bg (thn (ho pins s σ H _ I h) λv s1 ⟨x,H1,I1,r1,ty,q1⟩=>?_);obtain⟨h1,h2⟩:=vkl I1 r1 ty;exact⟨T,id,pa,slot,lu,h1,h2,Ys rfl (PySem.evalArgs_none (hm pins s1 σ H1 x [] v [] Q I1 r1 .nil q1))⟩
theorem ww4(pa:PlainAttrs T)(slot:Slot T name id)(lu:typeOf (.builtin id)=pure (.type "method_descriptor"))(hm:MtR X id r)(ho:PE X o to)(ha:PA X (e::es) t)
  (bf:autoParam (attributeBase o name X.env (eval o X.env)=eval o X.env) Ŕ)
  (f8:autoParam (((backTo aq (starEach (e::es) X.env)).all (λx=>!x.1)&&(backToKw aq (keywordEach [] X.env)).all (λx=>x.1.isSome)
   && decide ((e::es).length+([]:List Keyword).length+(if([]:List Keyword).isEmpty then 0 else 1)<30))=true) Ŕ)
  (bg:autoParam ((apos.endLine==aq.line)=true) Ŕ) (hs:autoParam (starEach (e::es) X.env=(false,eval e X.env)::starEach es X.env) Ŕ) (bi:autoParam ((backTo aq (starEach es X.env)).any (·.1)=false) Ŕ):
  PE X (.Call (.Attribute o name apos) (e::es) [] aq) (tBM X.K T r to t):=by
 intro pins s σ H Q I h;refine wpAny_Call_method_late bf f8 bg rfl (thn (ho pins s σ H _ I h) λv s1 ⟨x,H1,I1,r1,ty,q1⟩=>?_);obtain⟨h1,h2⟩:=vkl I1 r1 ty;refine⟨T,id,pa,slot,lu,h1,h2,?_⟩;have hA:=ha aq pins s1 σ H1 _ I1 q1;rw[hs]at hA ⊢;refine Ys (by show(false||(backTo aq (starEach es X.env)).any (·.1))=false;rw[bi]<;>rfl) (Calls.evalArgs_plain ?_);exact thn hA λus s2 ⟨vs,H2,I2,r2,q2⟩=>hm pins s2 σ H2 x vs v us Q I2 r1 r2 q2
end
noncomputable def MtM(X:Cx)(id:String)(r:V->List V->Hp->VK->Prop):Prop:=
 ∀(pins:List (Addr×Obj)) (s:Shared) (σ:St) (H:Hp) (x:V) (xs:List V) (v:Value) (us:List Value) (Q:VK),Inv X pins σ H s->RelV x v->Vals xs us->r x xs H Q ->
  wpAny (model X.prog X.w) X.A (call (.builtin id) (v::us)) (EP X pins σ Q) X.xe s
theorem Vals.one:∀{x:V} {us:List Value},Vals [x] us->∃u,us=[u]/\RelV x u
 |_,_,.cons r .nil=>⟨_,rfl,r⟩
theorem Vals.two:∀{x y:V} {us:List Value},Vals [x,y] us->∃u v,us=[u,v]/\RelV x u/\RelV y v
 |_,_,_,.cons r (.cons q .nil)=>⟨_,_,rfl,r,q⟩
theorem Vals.zero:∀{us:List Value},Vals [] us->us=[]
 |_,.nil=>rfl
theorem Vals.reverse{xs:List V}{us:List Value}(h:Vals xs us):Vals xs.reverse us.reverse:=by
 induction h with
 |nil=>exact .nil
 |cons r t ih=>rw[List.reverse_cons,List.reverse_cons];exact Vals.append ih (.cons r .nil)
theorem Vals.rep{xs:List V}{us:List Value}(h:Vals xs us):∀k:Nat,Vals (List.replicate k xs).flatten (List.replicate k us).flatten
 |0=>.nil
 |k+1=>by
  rw[List.replicate_succ,List.replicate_succ,Yn,Yn];exact Vals.append h (Vals.rep h k)
theorem kk3(ak:List Value):∀(k:Nat) (acc:List Value),
  List.foldl (λx1 x2=>x1++x2) acc.toArray (List.replicate k ak.toArray)=(acc++(List.replicate k ak).flatten).toArray
 | 0,acc=>by simp
 | k+1,acc=>by
  have e:acc.toArray++ak.toArray=(acc++ak).toArray:=by simp
  have e2:(acc++ak)++(List.replicate k ak).flatten=acc++(List.replicate (k+1) ak).flatten:=by
   rw[List.replicate_succ,Yn,Xp]
  rw[<-e2,<-kk3 ak k (acc++ak),<-e,List.replicate_succ,List.foldl_cons]
section
variable {X:Cx}{pins:List (Addr×Obj)}{σ:St}{H:Hp}{s:Shared}{l b:Addr}{xs ys zs:List V}
theorem Inv.lset{ak its':List Value}{n:Nat}{f:Array Value->Array Value}{t':Nat}(I:Inv X pins σ H s)(hH:H l=some (.lst xs))
  (e:s.heap.get? l=some { cls:=.type "list",data:=.seq ak.toArray n }) (hf:f ak.toArray=its'.toArray) (hv:Vals ys its') (hz:ys.length<=sizeLine):
  Inv X pins σ (upd H l (.lst ys)) { s with heap:=s.heap.update l (Obj.mapSeq f),toks:=t' }:=by
 have q:=PySem.IsL.update e f;rw[hf]at q;refine I.write (x:=l) (e:=l) (by rw[hH];exact trivial) (.inl rfl) (λb' u hb hu=>(Heap.get?_update_other s.heap (Obj.mapSeq f) (Ne.symm hb)).trans hu) ⟨_,q⟩ ?_;exact⟨hz,its',_,hv,q⟩
theorem Inv.lnew{ak:List Value}{t':Nat}(I:Inv X pins σ H s)(hv:Vals ys ak)(hz:ys.length<=sizeLine):
  Inv X pins σ (upd H s.heap.objs.size (.lst ys)) { s with heap:=s.heap.push { cls:=.type "list",data:=.seq ak.toArray },toks:=t' }:=
 I.laid (λ_ _ q=>X8 _ q) (X9 _) ⟨hz,ak,0,hv,Xl _ rfl⟩
theorem Inv.fresh(I:Inv X pins σ H s):H s.heap.objs.size=none:=I.hok.fresh (X9 _)
theorem Inv.lstM(I:Inv X pins σ H s)(hH:H l=some (.lst xs)):xs.length<=sizeLine/\∃(ak:List Value) (n:Nat),Vals xs ak/\xs.length=ak.length/\s.heap.get? l=some { cls:=.type "list",data:=.seq ak.toArray n }:=by
 obtain⟨z,ak,n,r,e⟩:=I.hok l _ hH;exact⟨z,ak,n,r,r.length,e⟩
theorem vji{n:Nat}(h:n<=sizeLine):Builtin.List.listTooLong n=false:=by
 unfold Builtin.List.listTooLong;exact Xb (by omega)
end
section
variable {X:Cx}
noncomputable def kxz:V->List V->Hp->VK->Prop:=λx vs H Q=>∃l xs y,x=.ref l/\vs=[y]/\H l=some (.lst xs)/\xs.length<sizeLine/\Q .non (upd H l (.lst (xs++[y])))
theorem qwg:MtM X "list.append" kxz:=by
 intro pins s σ H x vs v us Q I rx rv h;obtain⟨l,xs,y,rfl,rfl,hH,hz,q⟩:=h;cases rx;obtain⟨u,rfl,ru⟩:=rv.one;obtain⟨z,ak,n,r,hl,e⟩:=I.lstM hH;refine call_meets F.slot_list_append ⟨_,e,rfl⟩ F.entry_list_append (F.args_list_append_2 _ _) (PySem.list_append l ak.toArray n u (by rw[X6];omega)) ⟨e,?_⟩;refine⟨.non,_,I.lset (its':=ak++[u]) hH e (by simp) (r.append (.cons ru .nil)) ?_,rfl,q⟩;rw[Xi,Yj];omega
noncomputable def qjd:V->List V->Hp->VK->Prop:=λx vs H Q=>∃l xs,x=.ref l/\vs=[]/\H l=some (.lst xs)/\Q .non (upd H l (.lst xs.reverse))
theorem qq3:MtM X "list.reverse" qjd:=by
 intro pins s σ H x vs v us Q I rx rv h;obtain⟨l,xs,rfl,rfl,hH,q⟩:=h;cases rx;have hus:=rv.zero;subst hus;obtain⟨z,ak,n,r,hl,e⟩:=I.lstM hH;refine call_meets F.slot_list_reverse ⟨_,e,rfl⟩ F.entry_list_reverse (F.args_list_reverse_1 _) (AutoSeq1.list_reverse_list_0 l ak.toArray n (by rw[X6];omega)) ⟨e,?_⟩;refine⟨.non,_,I.lset (its':=ak.reverse) hH e (by simp) r.reverse ?_,rfl,q⟩;rw[List.length_reverse];omega
theorem qwl{α:Type}(xs:List α)(k:Nat):(List.replicate k xs).flatten.length=k*xs.length:=by
 induction k with
 |zero=>simp
 |succ k ih=>rw[List.replicate_succ,Yn,Xi,ih,Nat.succ_mul,Nat.add_comm]
end
end L2
namespace Att
open PySem PySem.W PySem.Calls PyProof.Rows
theorem kjw{P:Params}{h:Heap}:∀(ns:List Int) (vs:List Value),WellAll P h vs (ns.map WData.int)->IntsAre vs ns:=by
 intro ns
 induction ns with
 | nil=>
  intro vs w;rw[List.map_nil]at w;cases w;exact .nil
 | cons n ns ih=>
  intro vs w;rw[List.map_cons]at w;cases w with
  |cons a b=>
   cases a;exact .cons _ _ (ih _ b)
theorem script_of{l : OpenLaw}{n : Nat}(hn : l.most = some n){P : Params}{h : Heap}{args : List WData}{ng : List Value}
    (m8 : l.row.toRowW.claim.pre args = true) (qu : WellAll P h ng args):
    ∃ a vs ns, ng = [Value.ref a] /\ args = [WData.list (ns.map WData.int)] /\ h.get? a = some { cls:= .type "list", data:= .seq vs.toArray } /\ IntsAre vs ns /\ ns.length<=n:= by
  have hsh : WShape.hasAll [] args [.list .int] = true:= (pre_splitW m8).1;have hc : l.pre.holds [] { args:= args } = true:= (pre_splitW m8).2;obtain⟨d, r, rfl, h1, h2⟩:= hasAllW_cons hsh;obtain rfl:= hasAllW_nil h2;obtain⟨xs, rfl, h3⟩:= hasW_list h1;obtain⟨ns, rfl⟩:= items_int h3;have av : ns.length<=n:= by
    unfold OpenLaw.pre at hc;have h4 : (WTm.not (.lt (.lit (.int (n : Int))) (.len (.arg 0)))).holds [] { args:= [.list (ns.map .int)] } = true:= by
      have h4:= (holds_andW hc).1;rw[hn]at h4;exact h4
    have h5:= condW_of h4 (w_not (w_lt w_lit (w_len_list (w_arg rfl))));rw[X5]at h5;refine Nat.le_of_not_lt λq=> ?_
    have q' : (n : Int)<((ns.length : Nat): Int):= by omega
    first
      |(rw[Xf q']at h5; exact absurd h5 (by decide))
      |(simp at h5; omega)
  cases qu with
  | cons w1 w2=>
    cases w2;cases w1 with
    |list ho kg=>exact⟨_, _, ns, rfl, rfl, ho, kjw ns _ kg, av⟩
theorem post_true(l:OpenLaw)(args:List WData):l.row.toRowW.claim.post args (.bool true) args=true:=
 postW_of (r:=l.row.toRowW) (X:=(true==true))
  (show WShape.has [] (.bool true) .bool=true by first|rfl|decide|simp[WShape.has,WShape.arms,WShape.armsAll])
  (show(WTm.eq .res (.lit (.bool true))).value [] { args:=args,res:=some (.bool true),after:=args }=some (.bool (true==true))from w_eq_bool (w_res rfl) w_lit) rfl
end Att
namespace L2
open PySem PySem.Spec PyProof.Rows
noncomputable def wx6(H:Hp):Prop:=∀b,H b=none\/∃o xs,H b=some (.frz o (.lst xs))
noncomputable def KK(s:Stmt):Arguments:=match s with
 |.FunctionDef _ a _ _ _ _ _ _ _ _=>a
 |_=>{ posonlyargs:=[],args:=[],vararg:=none,kwonlyargs:=[],kw_defaults:=[],kwarg:=none,defaults:=[] }
noncomputable def zQ(s:Stmt):List Stmt:=match s with
 |.FunctionDef _ _ b _ _ _ _ _ _ _=>b
 |_=>[]
noncomputable def k8(s:Stmt):Scope:=match s with
 |.FunctionDef _ _ _ _ _ _ sc _ _ _=>sc
 |_=>{ kind:=.function,names:=[],isGenerator:=false,isCoroutine:=false }
structure Fun (K:PySem.W.Frag)(x qual:Str)(st:Stmt)(f:Addr)(fd:FuncData):Prop where
 ex:∃(oc:Value) (od:Option Addr) (kV ei pm:Value) (an:Option Addr) (b6 ct:Value) (ky:Array (Option Value)),
  fd=PySem.W.fnOf x qual (KK st) (zQ st) (k8 st) .none kV ei pm an b6 ct/\K.lookup f=some ⟨oc,od,.func fd,ky⟩/\PySem.W.codeIn K b6 qual=true
 kp:PySem.W.keepIn K (.ref f)=true
section
variable {P:Program}{w:World}{K:PySem.W.Frag}{mg:Str->Option Value}{base:Heap}
theorem Fun.binds{x qual:Str}{st:Stmt}{f:Addr}{fd:FuncData}{ps:List Str}(F:Fun K x qual st f fd)
  (h:∀(kV ei pm:Value) (an:Option Addr) (b6 ct:Value) (us:List Value),us.length=ps.length->bindArgs (PySem.W.fnOf x qual (KK st) (zQ st) (k8 st) .none kV ei pm an b6 ct) ⟨us,[]⟩=pure (ps.zip us)):Binds K fd ps []:=by
 obtain⟨oc,od,kV,ei,pm,an,b6,ct,ky,rfl,lk,gm⟩:=F.ex;exact .all (h kV ei pm an b6 ct)
theorem ZZ{x qual:Str}{st:Stmt}{f:Addr}{oc:Value}{od an:Option Addr}{ky:Array (Option Value)}{kV ei pm b6 ct:Value}(l:K.lookup f=some ⟨oc,od,.func (PySem.W.fnOf x qual (KK st) (zQ st) (k8 st) .none kV ei pm an b6 ct),ky⟩)
  (c:PySem.W.codeIn K b6 qual=true) (k:PySem.W.keepIn K (.ref f)=true):Fun K x qual st f (PySem.W.fnOf x qual (KK st) (zQ st) (k8 st) .none kV ei pm an b6 ct):=⟨⟨oc,od,kV,ei,pm,an,b6,ct,ky,rfl,l,c⟩,k⟩
end
section
variable {X:Cx}
theorem pv(i:Nat){x:Str}{pos:Pos}(hN:autoParam (X.N[i]?=some x) Ŕ)(hv:autoParam (Vis X.env.scope x) ř)(hd:autoParam ((x==("__debug__":Str))=false) ŕ)
  (gm:autoParam ((x==("__classdict__":Str))=false) ŕ):PE X (.Name x pos) (zV i):=wjj hN hv hd gm
end
noncomputable def kj(H H':Hp):Prop:=∀b o,H b=some o->H' b=some o
section
variable {κ:Type}[DecidableEq κ]
theorem KV.length{kvs:List (κ×V)}{vs:List (κ×Value)}(r:KV kvs vs):kvs.length=vs.length:=Paired.length r
end
section
variable {P:Program}{w:World}{H:Hp}{h:Heap}{a:Addr}
theorem wvk{u:HO}(ok:HOk P w H h)(e:Rd H a u):ObjOk P w H h a u:=e.ok ok
theorem wwu{kvs:List (Key×V)}(ok:HOk P w H h)(e:Rd H a (.dK kvs)):kvs.length<=sizeLine/\(a==sysModules)=false/\∃vs,KV kvs vs/\h.DictOf (kvb P w) a vs:=
 show ObjOk P w H h a (.dK kvs)from wvk ok e
end
section
variable {X:Cx}{pins:List (Addr×Obj)}{σ:St}{H:Hp}{s:Shared}{a:Addr}{y v:V}{u r:Value}{o:Option V}{A:Around}{E:Value->Shared->Prop}
theorem Inv.big(I:Inv X pins σ H s):sysModules<s.heap.objs.size:=by
 have h:mainGlobals<s.heap.objs.size:=(I.mod.glob.keeps I.bk).lt;exact Nat.lt_trans (by decide) h
theorem qxo{h':Heap}{t':Nat}{ob:HO}(I:Inv X pins σ H s)(mu:Mut (H a))(hs:Heap.SameBut a s.heap h')(he:∃q,h'.get? a=some q)(new:ObjOk X.prog X.w (upd H a ob) h' a ob):
  Inv X pins σ (upd H a ob) { s with heap:=h',toks:=t' }:=
 I.write (x:=a) (e:=a) mu (.inl rfl) (λb q hb z=>(hs.2 b hb).trans z) he new
end
section
variable {X:Cx}{pins:List (Addr×Obj)}{σ:St}{H:Hp}{s:Shared}{a:Addr}{kvs:List (Key×V)}{k:Key}{u:Value}{A:Around}{E:Value->Shared->Prop}
theorem www{Q:Value->Shared->Prop}(I:Inv X pins σ H s)(e:Rd H a (.dK kvs))(h:∀t s',Inv X pins σ H s'->Q (.int kvs.length t) s'):wpAny (model X.prog X.w) A (call (.builtin "len") [.ref a]) Q E s:=by
 obtain⟨z,hd,vs,oq,dd⟩:=wwu I.hok e;refine call_len_dict hd dd (by rw[<-oq.length];rw[sizeLine_eq]at z;omega) ?_;rw[<-oq.length];exact h _ _ (I.tok _)
end
noncomputable def vkn:List (TE×TE)->St->Hp->(List (V×V)->Hp->Prop)->Prop
 |[],_,H,Q=>Q [] H
 |(tk,tv)::r,σ,H,Q=>tk σ H λx H1=>tv σ H1 λy H2=>vkn r σ H2 λps H3=>Q ((x,y)::ps) H3
abbrev VV:List (V×V)->List (Value×Value)->Prop:=Paired λp q=>RelV p.1 q.1/\RelV p.2 q.2
noncomputable def PPs(X:Cx)(pos:Pos)(keys:List (Option Expr))(ni:List Expr)(trs:List (TE×TE)):Prop:=
 ∀(pins:List (Addr×Obj)) (s:Shared) (σ:St) (H:Hp) (Q:List (V×V)->Hp->Prop),Inv X pins σ H s->vkn trs σ H Q ->
  wpAny (model X.prog X.w) X.A (evalPairs (pairTrees keys ni X.env pos)) (λvs s'=>∃ps H',Inv X pins σ H' s'/\VV ps vs/\Q ps H') X.xe s
theorem vvr{X:Cx}{pos:Pos}:PPs X pos [] [] []:=λpins s σ H Q I h=>pairTrees_nil_walk ⟨[],H,I,.nil,h⟩
theorem vj6{X:Cx}{pos:Pos}{k v:Expr}{ks:List (Option Expr)}{vs:List Expr}{tk tv:TE}{trs:List (TE×TE)}(hk:PE X k tk)(hv:PE X v tv)(hr:PPs X pos ks vs trs):
  PPs X pos (some k::ks) (v::vs) ((tk,tv)::trs):=λpins s σ H Q I h=>
 pairTrees_cons_walk (thn (hk pins s σ H _ I h) λu s1 ⟨x,H1,I1,rx,q1⟩=>thn (hv pins s1 σ H1 _ I1 q1) λw2 s2 ⟨y,H2,I2,ry,q2⟩=>
  thn (hr pins s2 σ H2 _ I2 q2) λws s3 ⟨ps,H3,I3,oq,q3⟩=>⟨(x,y)::ps,H3,I3,.cons ⟨rx,ry⟩ oq,q3⟩)
structure M2 (X:Cx)(o:Expr)(m:Str)(apos:Pos)(e f:Expr)(aq:Pos):Prop where
 base:attributeBase o m X.env (eval o X.env)=eval o X.env
 few:((backTo aq (starEach [e,f] X.env)).all (λx=>!x.1)&&(backToKw aq (keywordEach [] X.env)).all (λx=>x.1.isSome)
  && decide (([e,f]:List Expr).length+([]:List Keyword).length+(if([]:List Keyword).isEmpty then 0 else 1)<30))=true
 line:(apos.endLine==aq.line)=true
 trees:backTo aq (starEach [e,f] X.env)=[(false,eval e X.env),(false,eval f X.env)]
section
variable {X:Cx}
theorem qxw:CallR X (.builtin "len") (λxs H Q=>∃a kvs,xs=[V.ref a]/\H a=some (.dK kvs)/\Q (.int kvs.length) H):=by
 intro pins s σ H xs us Q I r h;obtain⟨a,kvs,rfl,ha,q⟩:=h;obtain⟨u,rfl,ru⟩:=z9 r;cases ru;exact www I (.inl ha) λt s' I'=>⟨.int kvs.length,H,I',⟨t,rfl⟩,q⟩
end
end L2
set_option maxHeartbeats 4000000
namespace L3
open PySem PySem.Spec PyProof.Rows L2
abbrev qwq(dw:List Expr)(env:Env):Sem Bool:=
 forIn dw true λc r=>if r=true then do let ok <-isTrue c env (eval c env);pure (ForInStep.yield ok)else pure (ForInStep.yield r)
theorem jw5 (env : Env): ∀(l : List (Str × NameKind)) (cs : List (Str × Addr)), (∀y ∈ l, y.2 = .free -> ∃c, env.cells.lookup y.1 = some c) ->
    (∀x c, cs.lookup x = some c -> env.cells.lookup x = some c) ->
    ∃ cl, (forIn l cs (λ(x : Str × NameKind) (r : List (Str × Addr))=>if(x.2==NameKind.free) = true then do let a <-cellOf env x.1; pure (ForInStep.yield ((x.1, a)::r))else pure (ForInStep.yield r)): Sem (List (Str × Addr))) = pure cl /\
      (∀x c, cl.lookup x = some c -> env.cells.lookup x = some c) /\ (∀x c, cs.lookup x = some c -> ∃c', cl.lookup x = some c') /\ ∀y ∈ l, y.2 = .free -> ∃c, cl.lookup y.1 = some c
  | [], cs, _, hs=>⟨cs, rfl, hs, λx c h=>⟨c, h⟩, λ_ h=>nomatch h⟩
  | (n, k)::r, cs, hl, hs=>by
    by_cases hk : k = .free
    · subst hk
      obtain⟨c, hc⟩:= hl (n, .free) X2 rfl;have iz : ∀x d, ((n, c)::cs).lookup x = some d -> env.cells.lookup x = some d:= λx d h=>by
        rw[Yt]at h;cases hx : x==n with
        | true=>
          rw[hx]at h;have e : x = n:= by simpa using hx
          have e2 : c = d:= by simpa using h
          subst e; subst e2;exact hc
        | false=>rw[hx]at h; exact hs x d h
      obtain⟨cl, e, a, b, d⟩:= jw5 env r ((n, c)::cs) (λy hy=>hl y (lc9 _ hy)) iz;refine⟨cl, ?_, a, λx c' h=> ?_, λy hy hf=> ?_⟩
      · rw[List.forIn_cons]
        have q : cellOf env n = pure c:= by unfold cellOf; rw[hc]
        simp only[beq_self_eq_true, if_true, q, pure_bind];exact e
      · cases hx : x==n with
        | true=>exact b x c (by rw[Yt, hx])
        | false=>exact b x c' (by rw[Yt, hx]; exact h)
      · rcases List.mem_cons.mp hy with z|z
        · subst z
          exact b n c (by rw[Yt]; simp)
        · exact d y z hf
    · obtain⟨cl, e, a, b, d⟩:= jw5 env r cs (λy hy=>hl y (lc9 _ hy)) hs
      refine⟨cl, ?_, a, b, λy hy hf=> ?_⟩
      · rw[List.forIn_cons]
        have q : (k==NameKind.free) = false:= by simpa using hk
        simp only[q, Bool.false_eq_true, if_false, pure_bind];exact e
      · rcases List.mem_cons.mp hy with z|z
        · subst z
          exact absurd hf hk
        · exact d y z hf
theorem kql{scope:Scope}{env:Env}(h:∀y∈scope.names,y.2=.free->∃c,env.cells.lookup y.1=some c):
  ∃cl,closureFor scope env=pure cl/\(∀x c,cl.lookup x=some c->env.cells.lookup x=some c)/\∀y∈scope.names,y.2=.free->∃c,cl.lookup y.1=some c:=by
 obtain⟨cl,e,a,_,d⟩:=jw5 env scope.names [] h (λx c h=>nomatch h);refine⟨cl,?_,a,d⟩;unfold closureFor;have e':=congrArg (λt:Sem (List (Str×Addr))=>t >>= pure) e
 simpa using e'
noncomputable def lcX(X:Cx)(scope:Scope)(N:List Str)(cl:List (Str×Addr))(C:Addr)(s0:Shared)(H0:Hp)(fp:List Addr):Cx:=
 { X with N:=N,s₀:=s0,H₀:=H0,env:=compEnvC scope cl C X.env,outer:=X.stack,ex:=fp,fn:=λ_=>false,pn:=[],xe:=λ_ _=>False }
noncomputable def zZ(k:Nat)(R:List Nat)(σ:L2.St):L2.St:=List.replicate k none++R.map λj=>(σ[j]?).join
structure LcOk (X:Cx)(scope:Scope)(N:List Str)(k:Nat)(R:List Nat):Prop where
 kind:scope.kind=.function
 nocell:∀y∈scope.names,y.2≠.cell
 names:∀y∈scope.names,y.2=.local->scope.names.lookup y.1=some .local
 caps:∀y∈scope.names,y.2=.free->X.env.kindOf y.1=some .cell\/X.env.kindOf y.1=some .free
 len:N.length=k+R.length
 outs:∀i j x,R[i]?=some j->N[k+i]?=some x->X.N[j]?=some x/\scope.names.lookup x=some .free
noncomputable def QQ(XN:List Str)(sc scope:Scope)(N:List Str)(k:Nat)(R:List Nat):Bool:=
 scope.names.all (λy=>y.2 != .cell)&&scope.names.all (λy=>y.2 != .local||scope.names.lookup y.1==some .local) &&
 scope.names.all (λy=>y.2 != .free||(sc.names.lookup y.1==some .cell||sc.names.lookup y.1==some .free)) &&
 (N.length==k+R.length)&&(R.zip (N.drop k)).all (λp=>XN[p.1]? == some p.2&&scope.names.lookup p.2==some .free)
theorem qjr{X:Cx}{scope:Scope}{N:List Str}{k:Nat}{R:List Nat}(hk:scope.kind=.function)(h:QQ X.N X.env.scope scope N k R=true):LcOk X scope N k R:=by
 unfold QQ at h;simp only[Bool.and_eq_true,Z2,bne_iff_ne,Bool.or_eq_true,beq_iff_eq]at h;obtain⟨⟨⟨⟨h1,h2⟩,h3⟩,h4⟩,h5⟩:=h;refine⟨hk,λy hy=>h1 y hy,λy hy e=>(h2 y hy).resolve_left (λz=>z e),λy hy e=>(h3 y hy).resolve_left (λz=>z e),h4,λi j x e1 e2=>?_⟩;have m:(j,x)∈R.zip (N.drop k):=by
  refine Xd (i:=i) ?_;rw[List.getElem?_zip_eq_some];exact⟨e1,by rw[List.getElem?_drop];exact e2⟩
 exact h5 (j,x) m
theorem YY {env : Env} {x : Str} {q : NameKind}: ∀{names : List (Str × NameKind)}, (names.map λ(n, k)=>if(k==NameKind.free&&env.scope.kind == .function&&env.kindOf n==some .cell)then(n, NameKind.cell)else(n, k)).lookup x = some q ->
    (x, q) ∈ names \/ (q = .cell /\ (x, NameKind.free) ∈ names)
  | [], h=>nomatch h
  | (n, k)::r, h=>by
    have h : List.lookup x ((if(k==NameKind.free&&env.scope.kind == .function&&env.kindOf n==some .cell) = true then(n, NameKind.cell)else(n, k))::(r.map λ(n, k)=>if(k==NameKind.free&&env.scope.kind == .function&&env.kindOf n==some .cell)then(n, NameKind.cell)else(n, k))) = some q:= h
    by_cases hc : (k==NameKind.free&&env.scope.kind == .function&&env.kindOf n==some .cell) = true
    · rw[Xa hc, Yt]at h
      cases hx : x==n with
      | true=>
        rw[hx]at h;have e : x = n:= by simpa using hx
        have e2 : NameKind.cell = q:= by simpa using h
        subst e;simp only[Bool.and_eq_true, beq_iff_eq]at hc;obtain⟨⟨e3, _⟩, _⟩:= hc;subst e3;exact .inr ⟨e2.symm, X2⟩
      | false=>
        rw[hx]at h;rcases YY (names:= r) h with z|⟨z, y⟩
        · exact .inl (lc9 _ z)
        · exact .inr ⟨z, lc9 _ y⟩
    · rw[Xe hc, Yt]at h
      cases hx : x==n with
      | true=>
        rw[hx]at h;have e : x = n:= by simpa using hx
        have e2 : k = q:= by simpa using h
        subst e; subst e2;exact .inl X2
      | false=>
        rw[hx]at h;rcases YY (names:= r) h with z|⟨z, y⟩
        · exact .inl (lc9 _ z)
        · exact .inr ⟨z, lc9 _ y⟩
section
variable {X:Cx}{pins:List (Addr×Obj)}{σ:L2.St}{H:Hp}{s:Shared}
theorem wkg{scope:Scope}{N:List Str}{k:Nat}{R:List Nat}{cl:List (Str×Addr)}{C:Addr}(sc:LcOk X scope N k R)(bo:∀y∈scope.names,y.2=.free->∃c,cl.lookup y.1=some c)
  {x:Str} (h:(compEnvC scope cl C X.env).kindOf x=some .cell\/(compEnvC scope cl C X.env).kindOf x=some .free):∃c,cl.lookup x=some c:=by
 rcases h with h|h
 ·rcases YY (env:=X.env) (names:=scope.names) h with z|⟨_,z⟩
  ·exact absurd rfl (sc.nocell _ z)
  ·exact bo _ z rfl
 ·rcases YY (env:=X.env) (names:=scope.names) h with z|⟨z,_⟩
  ·exact bo _ z rfl
  ·cases z
theorem wkh{scope:Scope}{N:List Str}{k:Nat}{R:List Nat}{cl:List (Str×Addr)}{C:Addr}{fp:List Addr}(I:Inv X pins σ H s)(sc:LcOk X scope N k R)(hf:∀b∈fp,ww X pins H b)(ho:∀b∈fp,∃o,s.heap.get? b=some o)
  (hC:s.heap.objs.size<=C) (gv:∀x c,cl.lookup x=some c->X.env.cells.lookup x=some c) (bo:∀y∈scope.names,y.2=.free->∃c,cl.lookup y.1=some c):(lcX X scope N cl C s H fp).Ok where
 mod:=I.ok.mod
 kind:=sc.kind
 glob:=I.ok.glob
 blt:=I.ok.blt
 above:=hC
 inj:=λx y c h1 h2=>I.ok.inj x y c (gv _ _ h1) (gv _ _ h2)
 has:=λx h=>wkg sc bo h
 cab:=λx c h=>by cases h
 hd:=I.ok.hd
 frames:=I.ok.frames
 stk:=.inl rfl
 exf:=λb hb=>by
  obtain⟨o,e⟩:=ho b hb;exact⟨Y1 (Xh (Xj e) hC),λx c h=>(hf b hb).2.2.2.2.1 x c (gv x c h)⟩
 bs:=λb o e=>I.bs b o e
 bsz:=Y4 I.ok.bsz I.sz
 noex:=λb o e hb=>by
  rcases(hf b hb).2.2.2.1 with z|z
  ·exact I.ok.noex b o e z
  ·exact absurd (Xh (Xj e) (Y4 I.ok.bsz z)) (Yl _)
 exfs:=λb hb hs=>by
  rcases List.mem_cons.mp (I.stkSub b hs)with z|z
  ·exact(hf b hb).2.1 z
  ·exact(hf b hb).2.2.1 z
 funs:=I.stack
 frf:=I.stkFree
theorem vza(I:Inv X pins σ H s){a:Addr}(h:s.heap.objs.size<=a):a∉frs X.stack:=λz=>by
 rcases List.mem_cons.mp (I.stkSub a z)with e|e
 ·subst e;exact absurd (Xh I.lt h) (Yl _)
 ·exact I.nofs h e
theorem vwj {scope:Scope} {N:List Str} {k:Nat} {R:List Nat} {cl:List (Str×Addr)} {C D:Addr} {fp:List Addr} {h1:Heap} {t:Nat} {m:Str->Option Value} {oD:Obj} (I:Inv X pins σ H s) (sc:LcOk X scope N k R)
  (hf:∀ b∈fp,ww X pins H b) (ho:∀b∈fp,∃o,s.heap.get? b=some o)
  (hC:s.heap.objs.size<=C) (hD:s.heap.objs.size<=D) (ot:D≠C) (gv:∀x c,cl.lookup x=some c->X.env.cells.lookup x=some c) (bo:∀y∈scope.names,y.2=.free->∃c,cl.lookup y.1=some c)
  (ia:∀ b o,s.heap.get? b=some o->h1.get? b=some o) (hn:h1.Ns C m) (eD:h1.get? D=some oD) (dD:∀v,oD.data≠.cell v):
  Inv (lcX X scope N cl C s H fp) [(D,oD)] (zZ k R σ) H { s with heap:=h1,toks:=t } where
 ok:=wkh I sc hf ho hC gv bo
 os:=rfl
 bare:=I.bare
 base:=Un.kept ia
 loc:=⟨m,hn,λi x v e1 e2 vis=>by
  obtain⟨mX,hnX,hl⟩:=I.loc;unfold zZ at e2
  by_cases hi:i<k
  ·rw [Xq (by rw[Xz];exact hi),List.getElem?_replicate,Xa hi]at e2;cases e2
  ·have hk:k<=i:=Nat.le_of_not_lt hi;rw [Xy (by rw[Xz];exact hk),Xz,Xw]at e2;cases er:R[i - k]? with
   | none=>rw[er]at e2;cases e2
   | some j=>
    rw [er]at e2;have ej:(σ[j]?).join=some v:=by simpa using e2
    have ej':σ[j]?=some (some v):=by
     cases q:σ[j]? with
     | none=>rw[q]at ej;cases ej
     | some z=>rw[q]at ej;cases z with
      | none=>cases ej
      | some z=>rw[show z=v by simpa using ej]
    obtain⟨o1,o2⟩:=sc.outs (i - k) j x er (by rw[show k+(i - k)=i by omega];exact e1);have cap:=sc.caps (x,.free) (Yh o2) rfl;have visX:Vis X.env.scope x:=cap.elim (λz=>.inr (.inl z)) λz=>.inr (.inr z)
    obtain⟨u,ru,q⟩:=hl j x v o1 ej' visX;refine⟨u,ru,?_⟩;rcases q with⟨q,_⟩|⟨_,c,ec,hc⟩
    ·rcases cap with z|z
     ·rw[z]at q;cases q
     ·rw[z]at q;cases q
    ·obtain⟨c',ec'⟩:=bo (x,.free) (Yh o2) rfl;have e:c'=c:=oq9 ((gv x c' ec').symm.trans ec);subst e;refine .inr ⟨?_,c',ec',?_⟩
     ·rcases vis with z|z|z
      ·rcases YY (env:=X.env) (names:=scope.names) z with y|⟨y,_⟩
       ·have y':=sc.names _ y rfl;rw[o2]at y';cases y'
       ·cases y
      ·exact .inl z
      ·exact .inr z
     ·obtain⟨o,h1,h2⟩:=hc;exact⟨o,ia _ _ h1,h2⟩⟩
 cell:=λx c h=>by
  obtain⟨v,o,h1,h2⟩:=I.cell x c (gv x c h);exact⟨v,o,ia _ _ h1,h2⟩
 free:=I.hok.fresh hC
 freeC:=λx c h=>I.freeC x c (gv x c h)
 pin:=λp hp=>by
  have e:p=(D,oD):=by
   have hp:p∈([]++[(D,oD)]:List (Addr×Obj)):=hp
   simpa using hp
  subst e;exact⟨eD,I.hok.fresh hD,ot,vza I hD,dD⟩
 hok:=I.hok.kept ia
 len:=by
  show(zZ k R σ).length=N.length;unfold zZ;rw[sc.len,Xi,Xz,X5]
theorem kwy{a:Addr}{o:HO}(I:Inv X pins σ H s)(hn:H a=none)(hL:a≠X.env.locals)(h1:a∈X.ex\/X.s₀.heap.objs.size<=a)(h2:∀x c,X.env.cells.lookup x=some c->c≠a)(h3:∀p∈X.pn++pins,p.1≠a)
  (new:ObjOk X.prog X.w (upd H a o) s.heap a o):Inv X pins σ (upd H a o) s:=by
 have hok:HOk X.prog X.w (upd H a o) s.heap:=λb u e=>by
  by_cases hb:b=a
  ·subst hb;rw[wV]at e;cases e;exact new
  ·rw[kJ hb]at e;exact(I.hok b u e).stay (λ_ _ _ q=>q) (λc q=>by rw[kJ (xk q hn)];exact q) λc xs q=>by rw[kJ (xk q hn)];exact q
 have na:∀b:Addr,b∉[a]->b≠a:=λb hb z=>hb (by rw[z];exact List.mem_singleton.mpr rfl)
 exact I.step (h':=s.heap) (H':=upd H a o) (g':=s.gens) (t':=s.toks) (d':=s.drawn) (ch:=[a])
  (λb hb=>by rw[List.mem_singleton.mp hb];exact⟨h1,hL,h2,h3⟩) (λb o _ _ _ e _=>e) (λb o _ _ _ e _=>⟨o.slots,e⟩) (λb o hb _ q=>by rw[kJ (na b hb)];exact q)
  (λb o _ e=>⟨o,e⟩) (λb xs q=>by rw[kJ (xk q hn)];exact q) (λb o u q=>by rw[kJ (xk q hn)];exact q) (λb ps q=>⟨#[],by rw[kJ (xk q hn),q];simp⟩)
  (λm hm=>hm) hok I.bare
end
noncomputable def PTs(X:Cx)(dw:List Expr)(t:TT):Prop:=
 ∀(pins:List (Addr×Obj)) (s:Shared) (σ:L2.St) (H:Hp) (Q:Bool->Hp->Prop),Inv X pins σ H s->t σ H Q->wpAny (model X.prog X.w) X.A (qwq dw X.env) (TP X pins σ Q) X.xe s
abbrev tYes:TT:=λ_ H Q=>Q true H
theorem vvj{X:Cx}:PTs X [] tYes:=λ_ _ _ H _ I h=>wpAny_tests_nil ⟨H,I,h⟩
theorem vvi{X:Cx}{c:Expr}{t:TT}(hc:PT X c t):PTs X [c] t:=λpins s σ H Q I h=>wpAny_tests_one (hc pins s σ H Q I h)
noncomputable def LcW(g:TG)(tt:TT)(te:TE)(Q:VK)(J:It)(W:Nat->Nat->List V->L2.St->Hp->Prop):Prop:=∀i m ys σ H,W i m ys σ H ->
 (J.stop i H/\ys.length<=sizeLine/\∀p,H p=none->Q (.ref p) (upd H p (.lst ys))) \/
 (J.go i H/\∀x H1,J.yld i H x H1->g x σ H1 fun σ2 H2=>∃(Ny:VK) (Nn:Hp->Prop),(∀y H4,Ny y H4->ys.length<=sizeLine/\∃m',m'<m/\W (i+1) m' (ys++[y]) σ2 H4) /\
  (∀H4,Nn H4->∃m',m'<m/\W (i+1) m' ys σ2 H4)/\tt σ2 H2 λb H3=>if b=true then te σ2 H3 Ny else Nn H3)
abbrev tLC(wi:TI)(g:TG)(tt:TT)(te:TE)(k:Nat)(R:List Nat):TE:=fun σ H Q=>wi σ H λJ H1=>
 ∃W:Nat->Nat->List V->L2.St->Hp->Prop,(∃m,W 0 m [] (zZ k R σ) H1)/\LcW g tt te Q J W
abbrev WQ(ak:List Value)(n:Nat):Obj:={ cls:=.type "list",data:=.seq ak.toArray n }
section
variable {X:Cx}
theorem op_mulI:OpR X (binaryOp .Mult) (rI IntMulOk λi j=>.int (i*j)):=opI λ_ _ _ _ _ _ _ hc q=>mul_int q hc
noncomputable def wqo(_i j:Int):Prop:=0<j/\j.natAbs.log2<9000
theorem kj1:OpR X (binaryOp .FloorDiv) (rI wqo λi j=>.int (i / j)):=opI λi j _ _ _ _ _ hc q=>by
 have h1:(0:Int)<j:=hc.1;exact floordiv_int (by omega) (by rw[Int.fdiv_eq_ediv_of_nonneg i (by omega)];exact q) (.inl (PyProof.noPylong_of_log2 hc.2))
noncomputable def Its(x:Str):It:=⟨λi _=>i<x.cps.size,λi H v H'=>H'=H/\∃c,x.cps[i]?=some c/\v=.str ⟨#[c]⟩,λi _=>i=x.cps.size⟩
theorem kzx{P:Program}{w:World}{K:PySem.W.Frag}{tg:Expr}{x:Str}{t:Tok}{it:Addr}{ty:String}
  (W:∀A':Around,A'.handled=none->Walks P w A' it [it] [it] x.cps.size (SignAt x) (λi h=>h.IsStrIter it ty x t i))
  (rg:∀(A:Around) (i:Nat) (s:Shared) (Q:Value->Shared->Prop) (E:Value->Shared->Prop),s.heap.IsStrIter it ty x t i->Q (.ref it) s->wpAny (model P w) A (pyIter (.ref it)) Q E s)
  (lu:["enumerate","zip","dict_itemiterator","dict_reverseitemiterator","odict_iterator","itertools.zip_longest","itertools.pairwise"].contains ty=false):
  Turn P w K tg (Its x) [it] it (λi h=>h.IsStrIter it ty x t i) where
 mem:=by simp
 obj:=λi h st b hb=>by
  have e:b=it:=by simpa using hb
  subst e;obtain⟨o,e,c,d⟩:=st;exact⟨o,e,λv z=>by rw[d]at z;cases z⟩
 keep:=λi h h' st k=>by
  obtain⟨o,e,r⟩:=st;exact⟨o,k it (by simp) o e,r⟩
 item:=by
  intro X hP hw hK hc i pins s σ H E I hf st hg;subst hP hw hK;obtain⟨f0,f1,f2,f3,f4,f5⟩:=hf it (by simp);refine(W X.A (I.ok.hd hc)).item i s _ _ hg st λv h' tk hv cy kk=>?_
  obtain⟨c,u,cu,rfl⟩:=hv;have I1:Inv X pins σ H { s with heap:=h',toks:=tk }:=I.turned (λb o hb e=>kk b o (by simpa using hb) e) f0 f1 f3 f4 f5;obtain⟨o,e,c1,d⟩:=id cy;exact⟨_,rfl,vjv (s:={ s with heap:=h',toks:=tk }) e c1 d lu ⟨.str ⟨#[c]⟩,H,I1,⟨u,rfl⟩,⟨rfl,c,cu,rfl⟩,cy,λb hb=>(hf b hb).1⟩⟩
 done:=by
  intro X hP hw hK hc i pins s σ H E I hf st hg;subst hP hw hK;obtain⟨f0,f1,f2,f3,f4,f5⟩:=hf it (by simp);have jd:i=x.cps.size:=hg;subst jd;exact(W X.A (I.ok.hd hc)).done s _ _ st λh' tk kk=>⟨rfl,I.turned (λb o hb e=>kk b o (by simpa using hb) e) f0 f1 f3 f4 f5⟩
 self:=λA i s Q E st hQ=>rg A i s Q E st hQ
noncomputable def wxd:V->Option Int->Option Int->Hp->VK->Prop:=λx lo hi H Q=>∃z,x=.str z/\z.length<=sizeLine/\Q (.str (Txt.slice z lo hi)) H
theorem vzd:SlR X wxd:=by
 intro pins s σ H x v vl vu lo hi sl Q I rx hs pl pu h;obtain⟨z,rfl,hz,q⟩:=h;obtain⟨t,rfl⟩:=rx;refine⟨"str",_,F.slot_str_getitem.lookup,typeIs_str _ _ _,?_⟩;have fin:∀(t':Tok) (k:Nat),EP X pins σ Q (.str (Txt.slice z lo hi) t') { s with toks:=k }:=λt' k=>⟨.str _,H,I.tok k,⟨t',rfl⟩,q⟩
 have gf:(Txt.slice z lo hi).length<=sizeLine:=Y4 (Txt.slice_le z _ _) hz;cases pl with
 |none=>cases pu with
  |none=>exact wpAny_getItem_str_slice (l:=none) (u:=none) (st:=none) hs rfl (post_val_or_str ⟨gf,fin⟩)
  |int j tj=>exact wpAny_getItem_str_slice (l:=none) (u:=some (j,tj)) (st:=none) hs rfl (post_val_or_str ⟨gf,fin⟩)
 |int i ti=>cases pu with
  |none=>exact wpAny_getItem_str_slice (l:=some (i,ti)) (u:=none) (st:=none) hs rfl (post_val_or_str ⟨gf,fin⟩)
  |int j tj=>exact wpAny_getItem_str_slice (l:=some (i,ti)) (u:=some (j,tj)) (st:=none) hs rfl (post_val_or_str ⟨gf,fin⟩)
noncomputable def vzn:R2:=λx y H Q=>∃z n,x=.str z/\y=.int n/\(z.length<=1024/\n<=1024/\-1024<=n)/\Q (.str (Txt.mul z n)) H
theorem vw7:OpR X (binaryOp .Mult) vzn:=by
 intro pins s σ H x y v u Q I rx ry h;obtain⟨z,n,rfl,rfl,⟨h1,h2,h3⟩,q⟩:=h;obtain⟨t,rfl⟩:=rx;obtain⟨t',rfl⟩:=ry;exact SB.mul (mulOk_of 1024 1024 h1 h2 (by omega) (by decide) (by decide)) λt' k=>⟨.str _,H,I.tok k,⟨t',rfl⟩,q⟩
noncomputable def vkp(K:PySem.W.Frag):V->Option Int->Option Int->Hp->VK->Prop:=λx lo hi H Q=>wxe K x lo hi H Q\/wxc K x lo hi H Q\/wxd x lo hi H Q
theorem wve(K:PySem.W.Frag)(hK:autoParam (X.K=K) Ŕ):SlR X (vkp K):=by subst hK;exact sl_list.or (sl_tup.or vzd)
noncomputable def qve(K:PySem.W.Frag):List V->Hp->VK->Prop:=λxs H Q=>(∃p ys,xs=[.ref p]/\(SqL K H p ys\/SqT K H p ys)/\Q (.int ys.length) H)\/(∃z,xs=[.str z]/\z.length<=sizeLine/\Q (.int z.length) H)\/(∃a kvs,xs=[V.ref a]/\H a=some (.dK kvs)/\Q (.int kvs.length) H)
theorem vxe(K:PySem.W.Frag)(hK:autoParam (X.K=K) Ŕ):CallR X (.builtin "len") (qve K):=by subst hK;exact call_len_seq.or (call_len_str.or qxw)
theorem qxz:CallR X (.type "int") (λxs H Q=>(∃i,xs=[.int i]/\Q (.int i) H)\/∃k,xs=[.bl k]/\Q (.int (if k then 1 else 0)) H):=qxx
theorem vq3(K:PySem.W.Frag){o e:Expr}{es:List Expr}{T:String}{name:Str}{id:String}{r:V->List V->Hp->VK->Prop}{to:TE}{t:TA}{apos aq:Pos}
  (pa:PlainAttrs T) (slot:Slot T name id) (lu:typeOf (.builtin id)=pure (.type "method_descriptor")) (hm:MtR X id r) (ho:PE X o to) (ha:PA X (e::es) t)
  (bf:autoParam (attributeBase o name X.env (eval o X.env)=eval o X.env) Ŕ)
  (f8:autoParam (((backTo aq (starEach (e::es) X.env)).all (λx=>!x.1)&&(backToKw aq (keywordEach [] X.env)).all (λx=>x.1.isSome)
   && decide ((e::es).length+([]:List Keyword).length+(if([]:List Keyword).isEmpty then 0 else 1)<30))=true) Ŕ)
  (bg:autoParam ((apos.endLine==aq.line)=true) Ŕ) (hs:autoParam (starEach (e::es) X.env=(false,eval e X.env)::starEach es X.env) Ŕ) (bi:autoParam ((backTo aq (starEach es X.env)).any (·.1)=false) Ŕ) (hK:autoParam (X.K=K) Ŕ):
  PE X (.Call (.Attribute o name apos) (e::es) [] aq) (tBM K T r to t):=by subst hK;exact ww4 pa slot lu hm ho ha bf f8 bg hs bi
theorem qz2:bootBuiltins "len"=some (.builtin "len"):=by decide +kernel
theorem kvn:bootBuiltins "isinstance"=some (.builtin "isinstance"):=by decide +kernel
theorem wqe:bootBuiltins "min"=some (.builtin "min"):=by decide +kernel
theorem qz1:bootBuiltins "sorted"=some (.builtin "sorted"):=by decide +kernel
theorem qz3:bootBuiltins "int"=some (.type "int"):=by decide +kernel
theorem Qk:bootBuiltins "list"=some (.type "list"):=by decide +kernel
theorem vkc:bootBuiltins "tuple"=some (.type "tuple"):=by decide +kernel
end
theorem qkd:∀{ns:List Int} {m:Nat},PySem.W.WData.weightAll (ns.map PySem.W.WData.int)<=m->∀n∈ns,Builtin.Int.intBits n<=m
 | [],_,_,_,h=>nomatch h
 | a::r,m,h,n,hn=>by
  have h':(if a==0 then 0 else a.natAbs.log2+1)+1+PySem.W.WData.weightAll (r.map PySem.W.WData.int)<=m:=h;rcases List.mem_cons.mp hn with z|z
  ·subst z;have e:Builtin.Int.intBits n=(if n==0 then 0 else n.natAbs.log2+1):=rfl;rw[e];omega
  ·exact qkd (m:=m) (by omega) n z
theorem kzp{ns:List Int}(h:PySem.W.WData.layableAll [PySem.W.WData.list (ns.map PySem.W.WData.int)]=true):∀n∈ns,Builtin.Int.intBits n<=1048576:=by
 have h1:(PySem.W.WData.list (ns.map PySem.W.WData.int)).layable=true:=(PySem.W.layW_cons h).1;unfold PySem.W.WData.layable at h1;simp only[Bool.and_eq_true,decide_eq_true_eq]at h1;have h2:PySem.W.WData.weightAll (ns.map PySem.W.WData.int)<=2 ^ 20:=h1.2;exact qkd (by simpa using h2)
inductive D where
 |non|bl (b:Bool)|int (i:Int)|str (z:Str)|lst (xs:List D)|tup (xs:List D)
section
variable {X:Cx}{pins:List (Addr×Obj)}{σ:L2.St}{H:Hp}{s:Shared}
theorem in1_units(A:Around):A.in1.units<=A.units+1:=by
 first|exact X9 _|(show A.units+1<=A.units+1;exact X9 _)|(unfold Around.in1;simp)
end
section
variable {X:Cx}
noncomputable def qvd(K:PySem.W.Frag):List V->Hp->VK->Prop:=λxs H Q=>∃p ys,xs=[.ref p]/\(SqL K H p ys\/SqT K H p ys)/\∀l,H l=none->Q (.ref l) (upd H l (.lst ys))
theorem Zv(K:PySem.W.Frag)(hK:autoParam (X.K=K) Ŕ):CallR X (.type "list") (qvd K):=by subst hK;exact kxc
theorem vw1(K:PySem.W.Frag){o:Expr}{T:String}{name:Str}{id:String}{r:V->List V->Hp->VK->Prop}{to:TE}{apos aq:Pos}
  (pa:PlainAttrs T) (slot:Slot T name id) (lu:typeOf (.builtin id)=pure (.type "method_descriptor")) (hm:MtR X id r) (ho:PE X o to)
  (bf:autoParam (attributeBase o name X.env (eval o X.env)=eval o X.env) Ŕ) (bg:autoParam ((apos.endLine==aq.line)=true) Ŕ) (hK:autoParam (X.K=K) Ŕ):
  PE X (.Call (.Attribute o name apos) [] [] aq) (wxa K T r to):=by subst hK;exact wjq pa slot lu hm ho bf bg
end
abbrev Nm(n:Int):Prop:=-(10 ^ 60)<n/\n<10 ^ 60
section
variable {X:Cx}{pins:List (Addr×Obj)}{σ:L2.St}{H:Hp}{s:Shared}
theorem kjv{t':Nat}{h':Heap}(fp:List Addr)(I:Inv X pins σ H s)(k:∀b o,b∉fp->s.heap.get? b=some o->h'.get? b=some o)(hf:∀b∈fp,ww X pins H b):Inv X pins σ H { s with heap:=h',toks:=t' }:=by
 have p6:∀b u,H b=some u->b∉fp:=λb u e z=>by rw[(hf b z).1]at e;cases e
 refine I.step (g':=s.gens) (d':=s.drawn) (ch:=fp) (λb hb=>?_) (λb o _ _ hc e _=>k b o hc e) (λb o _ _ hc e _=>⟨o.slots,k b o hc e⟩) (λ_ _ _ _ n=>n)
  (λb o hc e=>⟨o,k b o hc e⟩) (λ_ _ e=>e) (λ_ _ _ e=>e) (λb ps e=>⟨#[],by rw[e];simp⟩) (λm hm=>?_) (λb u e=>?_) I.bare
 ·obtain⟨_,f1,_,f3,f4,f5⟩:=hf b hb;exact⟨f3,f1,f4,f5⟩
 ·obtain⟨o,es,ep,ho,r⟩:=hm;exact⟨o,es,ep,k _ o (λz=>(hf _ z).2.1 rfl) ho,r⟩
 ·refine(I.hok b u e).stay (λc v hc q=>k c v ?_ q) (λ_ q=>q) λ_ _ q=>q
  rcases hc with z|z
  ·rw[z];exact p6 b u e
  ·exact p6 c _ z
end
section
variable {X:Cx}
noncomputable def qvf:List V->Hp->VK->Prop:=λxs H Q=>(∃i,xs=[.int i]/\Q (.int i) H)\/(∃k,xs=[.bl k]/\Q (.int (if k then 1 else 0)) H)\/∃(x:Str) (n:Int),xs=[.str x]/\PySem.intText? x=some n/\x.length<=640/\Q (.int n) H
theorem kki:CallR X (.type "int") qvf:=by
 intro pins s σ H xs us Q I r h;rcases h with h|h|⟨x,n,rfl,hx,hl,q⟩
 ·exact qxz pins s σ H xs us Q I r (.inl h)
 ·exact qxz pins s σ H xs us Q I r (.inr h)
 ·obtain⟨u,rfl,t,rfl⟩:=z9 r;exact PySem.W.KIN.call_text hx hl ⟨.int n,H,I.tok _,⟨_,rfl⟩,q⟩
end
end L3
namespace L2
open PySem PySem.Spec PyProof.Rows
section
variable {P:Program}{w:World}{H H':Hp}{h h':Heap}{a:Addr}{o:HO}
theorem ObjOk.obj(x:ObjOk P w H h a o):∃u,h.get? a=some u:=by
 cases o with
 |lst xs=>obtain⟨_,_,_,_,e⟩:=x;exact⟨_,e⟩
 |tup xs=>obtain⟨_,_,_,p⟩:=x;obtain⟨u,e,_⟩:=p;exact⟨u,e⟩
 |dK kvs=>obtain⟨_,_,_,_,o,_,_,e,_⟩:=x;exact⟨_,e⟩
 |dT kvs=>obtain⟨_,_,_,_,o,_,_,e,_⟩:=x;exact⟨_,e⟩
 |set S n=>obtain⟨o,_,_,_,e,_⟩:=x;exact⟨_,e⟩
 |ins C dx fs=>obtain⟨_,_,_,e,_⟩:=x;exact⟨_,e⟩
 |own y=>obtain⟨_,e⟩:=x;exact⟨_,e⟩
 |xd fs=>obtain⟨_,⟨_,_,_,e,_⟩,_⟩:=x;exact⟨_,e⟩
 |rng lo hi=>obtain⟨_,_,_,e⟩:=x;exact⟨_,e⟩
 |frz ob u=>obtain⟨e,_⟩:=x;exact⟨_,e⟩
 |tbl ps=>exact⟨_,x⟩
 |met f y=>exact⟨_,x⟩
 |ext φ=>obtain⟨_,⟨_,e⟩,_⟩:=x;exact⟨_,e⟩
end
section
variable {X:Cx}{pins:List (Addr×Obj)}{σ:List (Option V)}{H H':Hp}{s:Shared}{h':Heap}
theorem Inv.stepN{g':Array GenState}{t':Nat}{d':Drawn}{ch:List Addr}(I:Inv X pins σ H s)
  (gh:∀b∈ch,(b∈X.ex\/X.s₀.heap.get? b=none)/\b≠X.env.locals/\(∀x c,X.env.cells.lookup x=some c->c≠b)/\∀p∈X.pn++pins,p.1≠b)
  (keep:∀b o,b≠X.env.locals->b∉X.fs->b∉ch->s.heap.get? b=some o->H b=none->h'.get? b=some o)
  (slot:∀b o,b≠X.env.locals->b∈X.fs->b∉ch->s.heap.get? b=some o->H b=none->∃sl,h'.get? b=some { o with slots:=sl }) (free:∀b o,b∉ch->s.heap.get? b=some o->H b=none->H' b=none)
  (there:∀b o,b∉ch->s.heap.get? b=some o->∃o',h'.get? b=some o')
  (tups:∀b xs,H b=some (.tup xs)->H' b=some (.tup xs)) (frzs:∀b o u,H b=some (.frz o u)->H' b=some (.frz o u)) (tbls:∀b ps,H b=some (.tbl ps)->∃ic,H' b=some (.tbl (ps++ic)))
  (ns:∀m,s.heap.Ns X.env.locals m->h'.Ns X.env.locals m) (hok:HOk X.prog X.w H' h') (hg:AllBare g'):
  Inv X pins σ H' { s with heap:=h',gens:=g',drawn:=d',toks:=t' }:=by
 have pw:∀b o,X.s₀.heap.get? b=some o->b≠X.env.locals:=λb o e=>Y1 (Xh (Xj e) I.ok.above)
 have ly:∀b o,X.s₀.heap.get? b=some o->b∉X.ex->b∉ch:=λb o e hx hb=>by
  rcases(gh b hb).1 with z|z
  ·exact hx z
  ·rw[z]at e;cases e
 have i5:∀x c,X.env.cells.lookup x=some c->∀v,s.heap.IsCell c v->h'.IsCell c v:=λx c e v ⟨o,ho,hd⟩=>by
  have kt:c∉ch:=λz=>(gh c z).2.2.1 x c e rfl
  by_cases hc:c∈X.fs
  ·obtain⟨sl,q⟩:=slot c o (I.cne x c e) hc kt ho (I.freeC x c e);exact⟨_,q,hd⟩
  ·exact⟨o,keep c o (I.cne x c e) hc kt ho (I.freeC x c e),hd⟩
 refine⟨I.ok,I.os,hg,⟨λb o e n hb hx=>?_,λb o e n hb hx=>?_,λb o e n hx=>?_,λb o e hx=>?_,λb xs e=>tups b xs (I.base.tups b xs e),λb o xs e=>frzs b o xs (I.base.frzs b o xs e),λb ps e=>?_⟩,?_,λx c e=>?_,?_,λx c e=>?_,λp hp=>?_,hok,I.len⟩
 ·exact keep b o (pw b o e) hb (ly b o e hx) (I.base.keep b o e n hb hx) (I.base.free b o e n hx)
 ·obtain⟨sl,e1⟩:=I.base.slot b o e n hb hx;obtain⟨sl',e2⟩:=slot b _ (pw b o e) hb (ly b o e hx) e1 (I.base.free b o e n hx);exact⟨sl',e2⟩
 ·obtain⟨o',e1⟩:=I.base.there b o e hx;exact free b o' (ly b o e hx) e1 (I.base.free b o e n hx)
 ·obtain⟨o',e1⟩:=I.base.there b o e hx;exact there b o' (ly b o e hx) e1
 ·obtain⟨m1,e1⟩:=I.base.tbls b ps e;obtain⟨m2,e2⟩:=tbls b _ e1;exact⟨m1++m2,by rw[e2,Array.append_assoc]⟩
 ·obtain⟨m,hn,hl⟩:=I.loc;refine⟨m,ns m hn,λi x v e1 e2 e3=>?_⟩;obtain⟨u,r,l⟩:=hl i x v e1 e2 e3;refine⟨u,r,?_⟩;rcases l with l|⟨k,c,e,z⟩
  ·exact .inl l
  ·exact .inr ⟨k,c,e,i5 x c e _ z⟩
 ·obtain⟨v,z⟩:=I.cell x c e;exact⟨v,i5 x c e v z⟩
 ·obtain⟨m,⟨o,_,_,ho,_⟩,_⟩:=I.loc;exact free _ o (λz=>(gh _ z).2.1 rfl) ho I.free
 ·obtain⟨v,o,ho,hd⟩:=I.cell x c e;exact free c o (λz=>(gh c z).2.2.1 x c e rfl) ho (I.freeC x c e)
 ·obtain⟨e,n,ne,nf,d⟩:=I.pin p hp;have kt:p.1∉ch:=λz=>(gh p.1 z).2.2.2 p hp rfl
  exact⟨keep p.1 p.2 ne nf kt e n,free p.1 p.2 kt e n,ne,nf,d⟩
theorem Inv.callN{g':Array GenState}{t':Nat}{d':Drawn}{ch:List Addr}(I:Inv X pins σ H s)(u:Un (frs X.stack) ch H H' s.heap h')(hok:HOk X.prog X.w H' h')(hg:AllBare g')
  (gh:∀b∈ch,(b∈X.ex\/X.s₀.heap.get? b=none)/\b≠X.env.locals/\(∀x c,X.env.cells.lookup x=some c->c≠b)/\∀p∈X.pn++pins,p.1≠b):
  Inv X pins σ H' { s with heap:=h',gens:=g',drawn:=d',toks:=t' }:=by
 obtain⟨m,⟨o,es,ep,ho,r⟩,_⟩:=id I.loc;obtain⟨sl,hL⟩:=u.any ho I.free λz=>(gh _ z).2.1 rfl
 exact I.stepN (ch:=ch) gh (λb o hL hb hc e n=>u.keep b o e n (λz=>(List.mem_cons.mp (I.stkSub b z)).elim hL hb) hc) (λb o _ _ hc e n=>u.any e n hc) (λb o hc e n=>u.free b o e n hc) (λb o hc e=>u.there b o e hc) u.tups u.frzs u.tbls (λm' hm=>by
  obtain⟨o',es',ep',lq,r'⟩:=hm;rw[ho]at lq;cases lq;exact⟨_,es',ep',hL,r'⟩) hok hg
end
end L2
namespace L3
open PySem PySem.Spec PyProof.Rows L2
theorem kjr{e:Value}{env env0:Env}(h:env.frame=env0.frame):noteFrame e env=noteFrame e env0:=by
 unfold noteFrame PySem.frameOf;rw[h]
structure Fl0 (h:Heap)(x:Addr)(C:Value)(vs:Array Value):Prop where
 ob:h.get? x=some { cls:=C,data:=.fields vs }
 sz:1<vs.size
structure FlT (h:Heap)(x T:Addr)(C:Value)(fl:Value):Prop where
 ex:∃vs,h.get? x=some { cls:=C,data:=.fields vs }/\vs[1]?=some (.ref T)
 tb:∃oT ts,h.get? T=some oT/\oT.data=.fields ts/\ts[3]?=some fl
 ne:T≠x
structure Chg (fs ch:List Addr)(h h':Heap):Prop where
 keep:∀b o,h.get? b=some o->b∉fs->b∉ch->h'.get? b=some o
 slot:∀b o,h.get? b=some o->b∉ch->∃sl,h'.get? b=some { cls:=o.cls,dict:=o.dict,data:=o.data,slots:=sl }
 size:h.objs.size<=h'.objs.size
theorem Chg.trans{fs ch ch':List Addr}{h h1 h2:Heap}(a:Chg fs ch h h1)(b:Chg fs ch' h1 h2)(hc:∀x∈ch',x∈ch\/h.get? x=none):Chg fs ch h h2 where
 keep:=λx o e h1 h2=>b.keep x o (a.keep x o e h1 h2) h1 λz=>(hc x z).elim h2 λq=>by rw[q]at e;cases e
 slot:=λx o e hn=>by
  obtain⟨sl,e1⟩:=a.slot x o e hn;obtain⟨lw,e2⟩:=b.slot x _ e1 λz=>(hc x z).elim hn λq=>by rw[q]at e;cases e
  exact⟨lw,e2⟩
 size:=Y4 a.size b.size
theorem Chg.mono{fs ch ch':List Addr}{h h1:Heap}(a:Chg fs ch h h1)(hc:∀x∈ch,x∈ch'):Chg fs ch' h h1:=⟨λb o e h1 h2=>a.keep b o e h1 λz=>h2 (hc b z),λb o e h2=>a.slot b o e λz=>h2 (hc b z),a.size⟩
theorem Chg.of_upd{fs : List Addr}{h : Heap}{a : Addr}{f : Obj -> Obj}: Chg fs [a] h (h.update a f):=
  ⟨λb o e _ hn=>by rw[Yq _ _ _ _ (λz=>hn (List.mem_singleton.mpr z))]; exact e,
   λb o e hn=>⟨o.slots, by rw[Yq _ _ _ _ (λz=>hn (List.mem_singleton.mpr z))]; exact e⟩, by rw[Heap.size_update]; exact X9 _⟩
theorem Chg.of_push{fs:List Addr}{h:Heap}{o:Obj}:Chg fs [] h (h.push o):=
 ⟨λb o e _ _=>X8 _ e,λb o e _=>⟨o.slots,X8 _ e⟩,by rw[Heap.size_push];omega⟩
theorem Chg.of_slots{fs:List Addr}{h h':Heap}(s:Heap.SlotsOnly fs h h'):Chg fs [] h h':=
 ⟨λb o e hn _=>(s.2.1 b hn).trans e,λb o e _=>s.2.2 b o e,by rw[s.1];exact X9 _⟩
theorem Chg.refl{fs ch:List Addr}{h:Heap}:Chg fs ch h h:=⟨λ_ _ e _ _=>e,λb o e _=>⟨o.slots,e⟩,X9 _⟩
section
variable {M:Model}{A:Around}{E:Value->Shared->Prop}{s:Shared}{base:Heap}{env:Env}{outer:List Env}{L x T:Addr}{C fl:Value}
theorem kx7{head:Value}{hadNext:Bool}{vs:Array Value}{Q:Unit->Shared->Prop}(hA:A.frames=some (env::outer))(hF:s.heap.FunFrames base (env::outer))(hL:env.frame=some L)(ho:Fl0 s.heap x C vs)
  (h:∀h' T',Chg (frs (env::outer)) [x] s.heap h'->s.heap.objs.size<=T'->FlT h' x T' C (rawInt ↑L)->Q () { s with heap:=h' }):
  wpAny M A (do
   let a <-PySem.frameOf env
   let pl <-entryPlaceOf L hadNext
   let b <-EntryCells.newEntry head a Value.none (rawInt ↑L) Value.none pl
   setField (Value.ref x) 1 b) Q E s:=by
 refine X0 (wpAny_frameOf_fun hA hF hL λh1 s1=>?_);have hx:x∉frs (env::outer):=λz=>by
  obtain⟨_,o,e,hn⟩:=hF.mem z;rw[ho.ob]at e;cases e;exact hn _ rfl
 have o1:h1.get? x=some { cls:=C,data:=.fields vs }:=(s1.2.1 x hx).trans ho.ob;have fin:∀pl:List Value,IsPlace pl->wpAny M A (do
   let b <-EntryCells.newEntry head (Value.ref L) Value.none (rawInt ↑L) Value.none pl
   setField (Value.ref x) 1 b) Q E { s with heap:=h1 }:=λpl be=>by
  refine X0 ?_;unfold EntryCells.newEntry newFields;have har:([head,Value.ref L,Value.none,rawInt ↑L,Value.none]++if pl.isEmpty=true then List.replicate 6 Value.none else pl).toArray[3]?=some (rawInt ↑L):=by simp
  have hsz:([head,Value.ref L,Value.none,rawInt ↑L,Value.none]++if pl.isEmpty=true then List.replicate 6 Value.none else pl).toArray.size<=sizeLine+2:=by
   rcases be with rfl|⟨_,_,_,_,_,_,_,rfl⟩<;>simp<;>decide
  generalize ([head,Value.ref L,Value.none,rawInt ↑L,Value.none]++if pl.isEmpty=true then List.replicate 6 Value.none else pl).toArray=ar at har hsz;refine Y3 ?_ hsz;have o2:(h1.push { cls:=.type "traceback",data:=.fields ar }).get? x=some { cls:=C,data:=.fields vs }:=X8 _ o1;refine wpAny_setField (s:={ s with heap:=h1.push _ }) o2 rfl ho.sz ?_;have cx:h1.objs.size≠x:=λe=>absurd (Xj o1) (by rw[<-e];exact Yl _)
  have o3:((h1.push { cls:=.type "traceback",data:=.fields ar }).update x (Obj.mapFields λy=>y.setIfInBounds 1 (.ref h1.objs.size))).get? h1.objs.size=some { cls:=.type "traceback",data:=.fields ar }:=by
   rw[Yq _ _ _ _ cx];exact Xl _ rfl
  refine h _ h1.objs.size (((Chg.of_slots s1).mono (λ_ z=>nomatch z)).trans ((Chg.of_push.mono λ_ z=>nomatch z).trans (ch:=[x]) Chg.of_upd λy hy=>.inl hy) λy hy=>.inl hy) (by rw[s1.1];exact X9 _) ⟨⟨vs.setIfInBounds 1 (.ref h1.objs.size),?_,Array.getElem?_setIfInBounds_self_of_lt ho.sz⟩,⟨_,_,o3,rfl,har⟩,cx⟩;exact Heap.get?_update_self _ o2 rfl
 exact X0 (wpAny_entryPlaceOf λpl be=>fin pl be)
theorem wwa{vs:Array Value}{Q:Unit->Shared->Prop}(hA:A.frames=some (env::outer))(hF:s.heap.FunFrames base (env::outer))(hL:env.frame=some L)(ho:Fl0 s.heap x C vs)(hv:vs[1]?=some .none)
  (h:∀h' T',Chg (frs (env::outer)) [x] s.heap h'->s.heap.objs.size<=T'->FlT h' x T' C (rawInt ↑L)->Q () { s with heap:=h' }):wpAny M A (noteFrame (.ref x) env) Q E s:=by
 unfold noteFrame;rw[hL];refine X0 (Z3 ho.ob rfl hv ?_);exact kx7 (hadNext:=false) hA hF hL ho h
theorem upd3{T:Addr}{oT:Obj}{ts:Array Value}{v:Value}{h:Heap}(e:h.get? T=some oT)(ed:oT.data=.fields ts)(h3:3<ts.size):
  ∃o' ts',(h.update T (Obj.mapFields λy=>y.setIfInBounds 3 v)).get? T=some o'/\o'.data=.fields ts'/\ts'[3]?=some v:=by
 obtain⟨c,d,dt,sl⟩:=oT;cases(show dt=.fields ts from ed);exact⟨_,ts.setIfInBounds 3 v,Heap.get?_update_self _ e rfl,rfl,Array.getElem?_setIfInBounds_self_of_lt h3⟩
theorem ww9{Q:Unit->Shared->Prop}(hA:A.frames=some (env::outer))(hF:s.heap.FunFrames base (env::outer))(hL:env.frame=some L)(f:FlT s.heap x T C fl)
  (h:∀h' T',Chg (frs (env::outer)) [x,T] s.heap h'->(s.heap.objs.size<=T'\/T'=T)->FlT h' x T' C (rawInt ↑L)->Q () { s with heap:=h' }):wpAny M A (noteFrame (.ref x) env) Q E s:=by
 obtain⟨⟨vs,e1,v1⟩,⟨oT,ts,e2,d2,v2⟩,cx⟩:=f;have h3:3<ts.size:=by
  rw[Array.getElem?_eq_some_iff]at v2;exact v2.1
 have h1:1<vs.size:=by
  rw[Array.getElem?_eq_some_iff]at v1;exact v1.1
 unfold noteFrame;rw [hL];refine X0 (Z3 e1 rfl v1 ?_);show wpAny M A (if((Value.ref T != Value.none)=true)then _ else _) Q E s;rw [Xa (show(Value.ref T != Value.none)=true from rfl)];refine X0 (Z3 e2 d2 v2 ?_)
 by_cases hf:(fl==rawInt ↑L)=true
 ·rw[Xa hf];have e:fl=rawInt ↑L:=eq_of_beq hf;subst e;exact X4 (h s.heap T Chg.refl (.inr rfl) ⟨⟨vs,e1,v1⟩,⟨oT,ts,e2,d2,v2⟩,cx⟩)
 ·rw[Xe hf];refine X0 (wpAny_setField e2 d2 h3 ?_);have c1:Chg (frs (env::outer)) [x,T] s.heap (s.heap.update T (Obj.mapFields λy=>y.setIfInBounds 3 Value.none)):=Chg.of_upd.mono λy hy=>by
   rw[List.mem_singleton.mp hy];simp
  have e1':(s.heap.update T (Obj.mapFields λy=>y.setIfInBounds 3 Value.none)).get? x=some { cls:=C,data:=.fields vs }:=by
   rw[Yq _ _ _ _ cx.symm];exact e1
  have hF':(s.heap.update T (Obj.mapFields λy=>y.setIfInBounds 3 Value.none)).FunFrames base (env::outer):=by
   refine hF.of_keeps λb o e hn=>⟨o,?_,rfl⟩
   rw[Yq _ _ _ _ λz=>?_]
   ·exact e
   ·rw[z,e2]at e;cases e;exact hn _ d2
  refine kx7 (s:={ s with heap:=s.heap.update T _ }) (hadNext:=true) hA hF' hL ⟨e1',h1⟩ λh' T' c2 hs f'=>?_
  refine h h' T' (c1.trans (c2.mono (ch':=[x,T]) λy hy=>by rw[List.mem_singleton.mp hy];simp) λy hy=>.inl hy) (.inl ?_) f';rw[Heap.size_update]at hs;exact hs
theorem wq1{Q:Unit->Shared->Prop}{fr:Option Addr}(f:FlT s.heap x T C fl)(h:∀h',Chg (frs outer) [x,T] s.heap h'->FlT h' x T C (fr.elim Value.none λf=>rawInt ↑f)->Q () { s with heap:=h' }):wpAny M A (setFlight (.ref x) fr) Q E s:=by
 obtain⟨⟨vs,e1,v1⟩,⟨oT,ts,e2,d2,v2⟩,cx⟩:=f;have h3:3<ts.size:=by
  rw[Array.getElem?_eq_some_iff]at v2;exact v2.1
 unfold setFlight;refine X0 (Z3 e1 rfl v1 ?_);rw[Xa (show(Value.ref T != Value.none)=true from rfl)];refine wpAny_setField e2 d2 h3 (h _ (Chg.of_upd.mono λy hy=>by rw[List.mem_singleton.mp hy];simp) ⟨⟨vs,?_,v1⟩,upd3 e2 d2 h3,cx⟩);rw[Yq _ _ _ _ cx.symm];exact e1
end
theorem vk9:plainId "BaseException.__getattribute__"=true:=by decide +kernel
theorem vxg:builtinKind "BaseException.__getattribute__"=some .slot:=by decide +kernel
theorem vk8:splitId "BaseException.__getattribute__"=some ("BaseException","__getattribute__"):=by decide +kernel
structure XCls (K:PySem.W.Frag)(C:Addr):Prop where
 ga:PySem.W.findIn K (.ref C) "__getattribute__"=some (some (.builtin "BaseException.__getattribute__"))
 gt:PySem.W.findIn K (.ref C) "__getattr__"=some none
 fo:PySem.W.findObj K C none "__class__"=some (.bind (.builtin "getset_descriptor.__get__") (.builtin "object.__class__"))
 ob:PySem.W.mroIn K C (.type "object")=some true
 bx:PySem.W.mroIn K C (.type "BaseException")=some true
 cl:(PySem.W.clsIn K C).isSome=true
section
variable {P:Program}{w:World}{A:Around}{E:Value->Shared->Prop}{s:Shared}{K:PySem.W.Frag}{x C:Addr}{ox:Obj}
theorem Lk{α:Type}{M:Model}{A:Around}{E:Value->Shared->Prop}{s:Shared}{t:Sem α}{r:α}{Q:α->Shared->Prop}(l:PySem.W.Looks M s.heap t r)(q:Q r s):wpAny M A t Q E s:=l A Q E s (λ_ _ e=>e) q
theorem vkb{nm:Value}{Q:Unit->Shared->Prop}(KI:K.In s.heap)(X:XCls K C)(at_:PySem.W.InstAt s.heap x ox C none)(q:Q () s):
  wpAny (model P w) A (checkBuiltinCall "BaseException.__getattribute__" { pos:=[.ref x,nm] }) Q E s:=by
 rw[checkBuiltinCall.eq_1,vxg,vk8];refine X0 ?_;unfold isInstance;refine X0 (Lk at_.type (Lk (PySem.W.looks_mroIn KI X.bx) ?_));rw[Xe (by decide)];have h:=F.args_bexc_ga (.ref x) nm;unfold argsOk at h;show wpAny _ A (match Manifest.signature? "BaseException.__getattribute__" with|some sig=>Bind.checkArgs "BaseException.__getattribute__" sig { pos:=[.ref x,nm] }|x=>pure ()) Q E s;cases hs:Manifest.signature? "BaseException.__getattribute__" with
 |none=>exact X4 q
 |some sig=>
  rw[hs]at h;have h:Bind.checkArgs "BaseException.__getattribute__" sig { pos:=[.ref x,nm] }=pure ():=h;show wpAny _ A (Bind.checkArgs "BaseException.__getattribute__" sig { pos:=[.ref x,nm] }) Q E s;rw[h];exact X4 q
theorem wwz:(Value.builtin "BaseException.__getattribute__" == Value.builtin "object.__getattribute__")=false:=by decide
theorem vka{Q:Option Value->Shared->Prop}(KI:K.In s.heap)(X:XCls K C)(at_:PySem.W.InstAt s.heap x ox C none)(q:Q (some (.ref C)) { s with toks:=s.toks+1 }):
  wpAny (model P w) A (getAttr? (.ref x) "__class__") Q E s:=by
 unfold getAttr?;refine X0 (wpAny_mkText ?_);unfold getAttrBy?;refine X0 (wpAny_attempt ?_);unfold getAttrBy;refine Yb (X0 (Lk (s:={ s with toks:=s.toks+1 }) at_.type (X0 (Lk (s:={ s with toks:=s.toks+1 }) (PySem.W.looks_findIn KI X.ga) ?_))));dsimp only;rw[Xe (by rw[wwz,Bool.and_false];decide)];unfold getAttrByItsOwn;refine X0 (Lk (s:={ s with toks:=s.toks+1 }) (PySem.W.looks_hook (K:=K) KI (r:=none) X.gt) ?_);refine X0 (wpAny_attempt (Yb ?_));unfold callGetattribute;rw[Xe (by decide)];unfold boundAndCalled;rw[F.excAttr_ValueError.ga.bind];refine X0 (X4 ?_);refine wpAny_call (codeAny_call_builtin vk9 F.entry_bexc_ga (vkb (s:={ s with toks:=s.toks+1 }) KI X at_ ?_));unfold Builtin.«object.__getattribute__»;have jg:slotArgs "__getattribute__" 1 { pos:=[.ref x]++[.str "__class__" s.toks] }=pure (.ref x,[.str "__class__" s.toks]):=rfl;rw[jg];refine X0 (X4 ?_);show wpAny _ A.in1 (Builtin.ObjectAttr.attrName (.str "__class__" s.toks) >>= _) _ _ _;refine X0 (X4 ?_);refine X0 (Lk (s:={ s with toks:=s.toks+1 }) at_.type ?_);refine X0 (Lk (s:={ s with toks:=s.toks+1 }) (PySem.W.looks_find KI at_ X.fo) ?_);show wpAny _ A.in1 (Builtin.ObjectAttr.bindTo (.builtin "getset_descriptor.__get__") (.builtin "object.__class__") (.ref x) (.ref C)) _ _ _;unfold Builtin.ObjectAttr.bindTo;refine X0 (Yb (wpAny_call (PySem.W.class_get (s:={ s with toks:=s.toks+1 }) KI at_ X.ob ?_)));refine X4 ?_;exact X4 (X4 q)
theorem qxp{h:Heap}(KI:K.In h)(X:XCls K C):∃o cd,h.get? C=some o/\o.data=.cls cd:=by
 have c:=X.cl;unfold PySem.W.clsIn at c
 split at c
 ·rename_i e;exact⟨_,_,KI _ _ e,rfl⟩
 ·cases c
theorem qjs(X:XCls K C):PySem.W.KitX K (.ref x) (.ref C) (λh=>∃ox,PySem.W.InstAt h x ox C none) where
 ty:=λM h KI ⟨ox,a⟩=>a.type
 it:=λM h KI _=>by
  obtain⟨o,cd,e,d⟩:=qxp KI X;intro A Q E s hk q;unfold isType;refine X0 (PySem.W.Looks.ld e A _ _ s hk ?_);rw[d];exact X4 q
 ne:=λh tp dd ak n sl KI e=>by
  obtain⟨o,cd,e',d⟩:=qxp KI X
  by_cases z:C=tp
  ·subst z;rw[e']at e;cases e;cases d
  ·simpa using z
 ca:=λKI ⟨ox,a⟩ q=>vka KI X a q
end
noncomputable def FpX(X:Cx)(pins:List (Addr×Obj))(H:Hp)(b:Addr):Prop:=
 H b=none/\b≠X.env.locals/\b∉X.fs/\(b∈X.ex\/X.s₀.heap.get? b=none)/\(∀x c,X.env.cells.lookup x=some c->c≠b)/\∀p∈X.pn++pins,p.1≠b
section
variable {X:Cx}{pins:List (Addr×Obj)}{σ:L2.St}{H:Hp}{s:Shared}
theorem vjr{P:Program}{w:World}{H:Hp}{h:Heap}{b:Addr}(k:HOk P w H h)(e:h.get? b=none):H b=none:=by
 cases q:H b with
 |none=>rfl
 |some u=>
  obtain⟨o,z⟩:=(k b u q).obj;rw[e]at z;cases z
theorem fpX{H':Hp}{b:Addr}(I:Inv X pins σ H s)(hb:s.heap.get? b=none)(hn:H' b=none):FpX X pins H' b:=by
 refine⟨hn,λz=>?_,λz=>?_,?_,λx c e z=>?_,λp hp z=>?_⟩
 ·obtain⟨m,⟨o,_,_,ho,_⟩,_⟩:=I.loc;rw[<-z,hb]at ho;cases ho
 ·obtain⟨_,o,e,_⟩:=I.ok.funs.mem z
  by_cases hx:b∈X.ex
  ·exact I.ok.exfs b hx z
  ·obtain⟨o',e'⟩:=I.base.there b o e hx;rw[hb]at e';cases e'
 ·by_cases hx:b∈X.ex
  ·exact .inl hx
  ·cases e:X.s₀.heap.get? b with
   |none=>exact .inr rfl
   |some o=>
    obtain⟨o',e'⟩:=I.base.there b o e hx;rw[hb]at e';cases e'
 ·obtain⟨v,o,ho,_⟩:=I.cell x c e;rw[z,hb]at ho;cases ho
 ·have:=(I.pin p hp).1;rw[z,hb]at this;cases this
theorem FpX.of{b:Addr}(h:ww X pins H b):FpX X pins H b:=⟨h.1,h.2.1,h.2.2.1,h.2.2.2.1.imp id λz=>Heap.get?_none_of_le z,h.2.2.2.2⟩
theorem kzh{h':Heap}{ch:List Addr}(I:Inv X pins σ H s)(c:Chg (frs X.stack) ch s.heap h')(hf:∀b∈ch,FpX X pins H b):Inv X pins σ H { s with heap:=h' }:=by
 refine I.callN (g':=s.gens) (t':=s.toks) (d':=s.drawn) (ch:=ch) ⟨λb o e _ h1 h2=>c.keep b o e h1 h2,λb o e _ _ h2=>c.slot b o e h2,λ_ _ _ n _=>n,λb o e h2=>?_,λ_ _ e=>e,λ_ _ _ e=>e,λ_ _ e=>⟨#[],by rw[e];simp⟩⟩ (λb u e=>?_) I.bare λb hb=>?_
 ·obtain⟨sl,q⟩:=c.slot b o e h2;exact⟨_,q⟩
 ·have no:∀d v,H d=some v->d∉frs X.stack/\d∉ch:=λd v e=>⟨λz=>(by rw[I.stkFree d z]at e;cases e),λz=>(by rw[(hf d z).1]at e;cases e)⟩
  refine(I.hok b u e).stay (λd v hc q=>?_) (λ_ q=>q) λ_ _ q=>q
  rcases hc with z|z
  ·rw[z]at q ⊢;exact c.keep b v q (no b u e).1 (no b u e).2
  ·exact c.keep d v q (no d _ z).1 (no d _ z).2
 ·obtain⟨_,f1,_,f3,f4,f5⟩:=hf b hb;exact⟨f3,f1,f4,f5⟩
end
structure Fx (X:Cx)(pins:List (Addr×Obj))(H:Hp)(h:Heap)(x:Addr)(C:Value):Prop where
 fp:FpX X pins H x
 st:(∃vs,Fl0 h x C vs/\vs[1]?=some .none)\/∃T fl,FlT h x T C fl/\FpX X pins H T
structure Xt (X:Cx)(pins:List (Addr×Obj))(σ:L2.St)(H:Hp)(x T:Addr)(C fl:Value)(s:Shared):Prop where
 inv:Inv X pins σ H s
 fx:FpX X pins H x
 fT:FpX X pins H T
 f:FlT s.heap x T C fl
theorem Xt.to{X:Cx}{pins:List (Addr×Obj)}{σ:L2.St}{H:Hp}{x T:Addr}{C fl:Value}{s:Shared}(h:Xt X pins σ H x T C fl s):Fx X pins H s.heap x C:=⟨h.fx,.inr ⟨T,fl,h.f,h.fT⟩⟩
noncomputable def Xo(X:Cx)(E:XK)(e:Value)(s:Shared):Prop:=∃pins σ H x C,e=.ref x/\Inv X pins σ H s/\Fx X pins H s.heap x C/\E C none H
noncomputable def xv(X:Cx)(E:XK):Prop:=∀pins σ H s x C,Inv X pins σ H s->Fx X pins H s.heap x C->E C none H->X.xe (.ref x) s
abbrev Cx.ex'(X:Cx)(E:XK):Cx:=X.wish (Xo X E)
theorem QK{X:Cx}{E:XK}:xv (Cx.ex' X E) E:=λpins σ H s x C I f q=>⟨pins,σ,H,x,C,rfl,I.unwish,⟨f.fp,f.st⟩,q⟩
noncomputable def xw(X:Cx):Prop:=∃env0 out,X.stack=env0::out/\X.env.frame=env0.frame
section
variable {X:Cx}{pins:List (Addr×Obj)}{σ:L2.St}{H:Hp}{s:Shared}{M:Model}{E':Value->Shared->Prop}{x T:Addr}{C fl:Value}
theorem kwp{A:Around}{Q:Unit->Shared->Prop}(top:xw X)(hA:A.frames=X.A.frames)(I:Inv X pins σ H s)(f:Fx X pins H s.heap x C)(h:∀L T s',X.env.frame=some L->Xt X pins σ H x T C (rawInt ↑L) s'->Q () s'):
  wpAny M A (noteFrame (.ref x) X.env) Q E' s:=by
 obtain⟨env0,out,e1,e2⟩:=top;have hF:=I.stack;have rl:A.frames=some (env0::out):=by rw[hA,I.ok.frames,e1]
 rw[e1]at hF;obtain⟨_,⟨L,o,hL,_⟩,_⟩:=id hF;rw[kjr e2];have hL':X.env.frame=some L:=e2.trans hL;rcases f.st with⟨vs,f0,hv⟩|⟨T,fl,fT,pT⟩
 ·refine wwa rl hF hL f0 hv λh' T' c hs me=>h L T' _ hL' ⟨?_,f.fp,fpX I (Heap.get?_none_of_le hs) (I.hok.fresh hs),me⟩
  rw[<-e1]at c;exact kzh I c λb hb=>by rw[List.mem_singleton.mp hb];exact f.fp
 ·refine ww9 rl hF hL fT λh' T' c hs me=>?_
  rw[<-e1]at c;refine h L T' _ hL' ⟨kzh I c λb hb=>?_,f.fp,?_,me⟩
  ·simp only[Yc,Xv,or_false]at hb;rcases hb with rfl|rfl
   ·exact f.fp
   ·exact pT
  ·rcases hs with hs|hs
   ·exact fpX I (Heap.get?_none_of_le hs) (I.hok.fresh hs)
   ·rw[hs];exact pT
theorem Vq{A:Around}{Q:Unit->Shared->Prop}{fr:Option Addr}(t:Xt X pins σ H x T C fl s)(h:∀s',Xt X pins σ H x T C (fr.elim Value.none λf=>rawInt ↑f) s'->Q () s'):wpAny M A (setFlight (.ref x) fr) Q E' s:=by
 refine wq1 (outer:=X.stack) t.f λh' c me=>h _ ⟨kzh t.inv c λb hb=>?_,t.fx,t.fT,me⟩
 simp only[Yc,Xv,or_false]at hb;rcases hb with rfl|rfl
 ·exact t.fx
 ·exact t.fT
theorem wjs{α:Type}{A:Around}{what:String}{la:Env}{Q:α->Shared->Prop}(t:Xt X pins σ H x T C fl s)(h:∀s' me,Xt X pins σ H x T C me s'->E' (.ref x) s'):wpAny M A (PySem.passOn what (.ref x) la:Sem α) Q E' s:=by
 unfold PySem.passOn;obtain⟨vs,e1,v1⟩:=t.f.ex;refine X0 (Z3 e1 rfl v1 ?_);rw[Xe (show ¬(Value.ref T==Value.none)=true by intro z;cases z)];refine X0 (Vq t λs' t'=>?_);exact wpAny_throw (h s' _ t')
theorem wju{E:XK}(top:xw X):PassesOwn M X.A X.env (Xo X E):=by
 rintro e s' ⟨pins,σ,H,x,C,rfl,I,f,q⟩;unfold notedBy;refine kwp top rfl I f λL T s1 _ t=>?_
 unfold cameBackBy;obtain⟨vs,e1,v1⟩:=t.f.ex;refine X0 (Z3 e1 rfl v1 ?_);rw[Xe (show ¬(Value.ref T==Value.none)=true by intro z;cases z)];exact Vq t λs2 t2=>⟨pins,σ,H,x,C,rfl,t2.inv,t2.to,q⟩
end
noncomputable def CXE(P:Program)(w:World):CXT:=λouter H s E e s'=>∃x T C fl H',e=.ref x/\s'.os=s.os/\AllBare s'.gens/\Un (frs outer) [] H H' s.heap s'.heap/\HOk P w H' s'.heap /\
 s.heap.get? x=none/\s.heap.get? T=none/\H' x=none/\H' T=none/\FlT s'.heap x T C fl/\E C none H'
theorem ww5{X:Cx}{E:XK}(g:xv X E):qze (CXE X.prog X.w) X E:=by
 rintro pins σ H s e s' I ⟨x,T,C,fl,H',rfl,os,bare,un,hok,hx,hT,nx,nT,f,q⟩;refine g pins σ H' s' x C (I.call' os un hok bare λb hb=>nomatch hb) ⟨fpX I hx nx,.inr ⟨T,fl,f,fpX I hT nT⟩⟩ q
theorem vqt{CX:CXT}{P:Program}{w:World}{K:PySem.W.Frag}{mg:Str->Option Value}{base:Heap}{N:List Str}{qual:Str}{scope:Scope}{f:Addr}{cd:Value}{A:Around}{outer:List Env}{s:Shared}{H:Hp}{E:XK}:
  xw (zw CX P w K mg base N qual scope f cd A outer s H E):=⟨_,_,rfl,rfl⟩
theorem qwn{P:Program}{w:World}{K:PySem.W.Frag}{mg:Str->Option Value}{base:Heap}{N:List Str}{qual:Str}{scope:Scope}{f:Addr}{cd:Value}{A:Around}{outer:List Env}{s:Shared}{H:Hp}{E:XK}{e:Value}{s':Shared}
  (h:Xo (zw (CXE P w) P w K mg base N qual scope f cd A outer s H E) E e s'):(zw (CXE P w) P w K mg base N qual scope f cd A outer s H E).xe e s':=by
 obtain⟨pins,σ,H',x,C,rfl,I,fx,q⟩:=h;show wpAny (model P w) _ (leaving _ (.ref x)) _ _ s';unfold leaving;refine X0 (kwp (X:=zw (CXE P w) P w K mg base N qual scope f cd A outer s H E) vqt rfl I fx λL T s1 _ t=>?_);refine Vq t λs2 t2=>?_
 have ge:∀b,FpX (zw (CXE P w) P w K mg base N qual scope f cd A outer s H E) pins H' b->s.heap.get? b=none:=λb hb=>hb.2.2.2.1.elim (λz=>nomatch z) λz=>z
 exact⟨x,T,C,_,H',rfl,t2.inv.os,t2.inv.bare,t2.inv.base,t2.inv.hok,ge x t2.fx,ge T t2.fT,t2.fx.1,t2.fT.1,t2.f,q⟩
section
variable {P:Program}{w:World}{K:PySem.W.Frag}{mg:Str->Option Value}{base:Heap}
theorem qV{x qual:Str}{st:Stmt}{f:Addr}{fd:FuncData}{N ps:List Str}{k:Nat}{sp:Sp}(F:Fun K x qual st f fd)(S:FnScope N ps (k8 st))(len:∀vs H Q E,sp vs H Q E->vs.length=ps.length)
  (fc:∀(b6:Value) (A:Around) (outer:List Env) (s:Shared) (H:Hp) (vs:List V) (Q:VK) (E:XK),Room k (A.deeper (envOfC qual (k8 st) s.heap.objs.size f b6))->sp vs H Q E ->
   ∃t,PSs (Cx.ex' (zw (CXE P w) P w K mg base N qual (k8 st) f b6 A outer s H E) E) (zQ st) t/\t { nx:=λ_ H'=>Q .non H',rt:=Q } (L2.start N vs) H):FnOk P w K mg base (CXE P w) (k+1) f fd ps sp:=by
 obtain⟨oc,od,kV,ei,pm,an,b6,ct,ky,rfl,lk,gm⟩:=F.ex;refine wwn lk gm S len λA outer s H vs Q E hr i9=>?_
 obtain⟨t,h,q⟩:=fc b6 A outer s H vs Q E hr i9;exact⟨t,λpins s' σ H' D I hw=>Z4 (h pins s' σ H' D (I.wish _) hw) (λf n9 z=>z.unwish) λe n9 z=>qwn z,q⟩
noncomputable def kW(P:Program)(w:World)(K:PySem.W.Frag)(mg:Str->Option Value)(base:Heap)(k:Nat)(x:Str)(ps:List Str)(sp:Sp):Prop:=
 ∃(f:Addr) (fd:FuncData),FnOk P w K mg base (CXE P w) k f fd ps sp/\Binds K fd ps []/\PySem.W.keepIn K (.ref f)=true/\mg x=some (.ref f)
end
section
variable {X:Cx}{x:Str}{p pos:Pos}{e:Expr}{es:List Expr}{t:TA}{ps:List Str}{sp:Sp}{k:Nat}{v:V}{E:XK}
theorem vq2(D:kW X.prog X.w X.K X.mg X.base k x ps sp)(hr:Room k X.A)(g:xv X E)(ha:PA X (e::es) t)(hg:autoParam (Gl X x) Ŕ)(cj:autoParam ((x==("__debug__":Str))=false) ŕ)
  (he:autoParam (starEach (e::es) X.env=(false,eval e X.env)::starEach es X.env) Ŕ) (be:autoParam ((backTo pos (starEach es X.env)).any (·.1)=false) Ŕ):
  PE X (.Call (.Name x p) (e::es) [] pos) (qzm sp [] E t):=by
 obtain⟨f,fd,F,b,kp,m⟩:=D;exact vw0 F hr hg m kp b .nil (ww5 g) ha cj he be
end
abbrev lcE(X:Cx)(scope:Scope)(N:List Str)(cl:List (Str×Addr))(C:Addr)(s0:Shared)(H0:Hp)(fp:List Addr)(EX:XK):Cx:=Cx.ex' (lcX X scope N cl C s0 H0 fp) EX
section
variable {prog:Program}{w:World}{A:Around}{R:Result->Shared->Prop}{s:Shared}
theorem vwl{eg dq iter:Expr}{dw:List Expr}{scope:Scope}{pos:Pos}{it acc:Value}{env:Env}(Ex:Value->Shared->Prop)(I:Nat->Shared->Prop)
  (fb:∀n s,I n s->wpAny (model prog w) A (pyNext it) (λr s1=>match r with
   | none=>R (.ok .next) s1
   | some v=>wpAny (model prog w) A (letOwnedTupleGo dq it v) (λ_ s2=>wpAny (model prog w) A (assign dq env v) (λ_ s3=>
     wpAny (model prog w) A (qwq dw env) (λok s4=>
      if ok=true then
       wpAny (model prog w) A (eval eg env) (λx s5=>wpAny (model prog w) A (call (.builtin "list.append") [acc,x]) (λ_ s6=>∃m,m<n/\I m s6) Ex s5) Ex s4
      else ∃m,m<n/\I m s4) Ex s3) Ex s2) Ex s1) Ex s)
  (hx:∀e s,Ex e s->notedBy (model prog w) A env (λe s'=>R (.error e) s') e s) (n:Nat) (h:I n s):codeAny (model prog w) A (.compLoop (.ListComp eg [⟨dq,iter,dw,0⟩] scope pos) 0 it acc env) R s:=by
 refine codeAny_loop rfl I (λn s hI=>?_) n h;show wpAny _ A ((compTurn (.ListComp eg [⟨dq,iter,dw,0⟩] scope pos) 0 it acc env).onRaise _) _ _ s;refine wpAny_noted ?_;rw[compTurn_list];refine Z4 (E:=Ex) (X0 (wpAny_standAt (X0 (thn (fb n s hI) λr s1 h1=>?_)))) (λ_ _ q=>q) (λe s q=>?_)
 rotate_left
 ·exact hx e s q
 cases r with
 |none=>exact X4 h1
 |some v=>
  refine X0 (thn h1 λ_ s2 h2=>?_);refine X0 (thn h2 λ_ s3 h3=>?_);refine X0 (thn h3 λok s4 h4=>?_);cases ok with
  |false=>exact X4 ⟨rfl,h4⟩
  |true=>exact X0 (X0 (thn h4 λx s5 h5=>X0 (thn h5 λ_ s6 h6=>X4 (X4 ⟨rfl,h6⟩))))
end
section
variable {X:Cx}{tg iter eg:Expr}{dw:List Expr}{scope:Scope}{N:List Str}{k:Nat}{R:List Nat}{g:TG}{tt:TT}{te:TE}{pos:Pos}
theorem vq9{EX:XK}{pins de:List (Addr×Obj)}{σ σ':L2.St}{H2 H':Hp}{s2 s':Shared}{fp:List Addr}{cl:List (Str×Addr)}{C x T:Addr}{Cc fl:Value}{Q:Value->Shared->Prop}{acc:Value}{use:Option (Value->Sem Unit)}(gx:xv X EX)
  (I2:Inv X pins σ H2 s2) (f2:∀b∈fp,ww X pins H2 b) (hC:s2.heap.objs.size<=C) (t:Xt (lcX X scope N cl C s2 H2 fp) de σ' H' x T Cc fl s') (q:EX Cc none H'):
  compPost (model X.prog X.w) X.A X.xe use Q acc C (.error (.ref x)) s':=by
 obtain⟨m,hn,_⟩:=t.inv.loc;refine⟨m,hn,λh' sb la _=>?_⟩;have J1:Inv X pins σ H' s':=I2.call' t.inv.os t.inv.base t.inv.hok t.inv.bare λb hb=>⟨(f2 b hb).2.2.2.1,(f2 b hb).2.1,(f2 b hb).2.2.2.2.1,(f2 b hb).2.2.2.2.2⟩
 have fC:ww X pins H' C:=I2.fpOk hC t.inv.free;have J2:Inv X pins σ H' { s' with heap:=h',toks:=s'.toks }:=J1.turned (it:=C) (λb o hb e=>(sb.2 b hb).trans e) fC.1 fC.2.1 fC.2.2.2.1 fC.2.2.2.2.1 fC.2.2.2.2.2;have fp':∀b,FpX (lcX X scope N cl C s2 H2 fp) de H' b->FpX X pins H' b:=λb hb=>by
  rcases hb.2.2.2.1 with z|z
  ·exact⟨hb.1,(FpX.of (f2 b z)).2⟩
  ·exact fpX I2 z hb.1
 have nx:x≠C:=t.fx.2.1;have nT:T≠C:=t.fT.2.1;have f:FlT h' x T Cc fl:=by
  obtain⟨⟨vs,e1,v1⟩,⟨oT,ts,e2,d2,v2⟩,cx⟩:=t.f;exact⟨⟨vs,(sb.2 x nx).trans e1,v1⟩,⟨oT,ts,(sb.2 T nT).trans e2,d2,v2⟩,cx⟩
 refine wjs (X:=X) (pins:=pins) (σ:=σ) (H:=H') (s:={ s' with heap:=h' }) ⟨J2,fp' x t.fx,fp' T t.fT,f⟩ λs3 me t3=>gx pins σ H' s3 x Cc t3.inv t3.to q
theorem kwu{EX:XK}{pins:List (Addr×Obj)}{σ:L2.St}{H2:Hp}{s2:Shared}{it:Addr}{fp:List Addr}{tn:Nat->Heap->Prop}{J:It}{Q:VK}{W:Nat->Nat->List V->L2.St->Hp->Prop}{cl:List (Str×Addr)}{E:Value->Shared->Prop}
  {RR:Value->Addr->Result->Shared->Prop} (hc:X.calm=true) (top:xw X) (sc:LcOk X scope N k R)
  (gv:∀x c,cl.lookup x=some c->X.env.cells.lookup x=some c) (bo:∀y∈scope.names,y.2=.free->∃c,cl.lookup y.1=some c)
  (hg:∀C s0 H0 fp,PG (lcE X scope N cl C s0 H0 fp EX) tg g) (ht:∀C s0 H0 fp,PTs (lcE X scope N cl C s0 H0 fp EX) dw tt) (he:∀C s0 H0 fp,PE (lcE X scope N cl C s0 H0 fp EX) eg te)
  (I2:Inv X pins σ H2 s2) (T:Turn X.prog X.w X.K tg J fp it tn) (bn:tn 0 s2.heap) (f2:∀b∈fp,ww X pins H2 b) (w0:∃m,W 0 m [] (zZ k R σ) H2) (fb:LcW g tt te Q J W)
  (hRR:∀D C oC m ys H' s',Inv X (pins++[(C,oC)]) σ (upd H' D (.lst ys)) s'->s'.heap.get? C=some oC->s'.heap.Ns C m->ww X pins (upd H' D (.lst ys)) C->Q (.ref D) (upd H' D (.lst ys))->RR (.ref D) C (.ok .next) s')
  (hER:∀D C s' de σ' H' x T Cc fl,s2.heap.objs.size<=C->Xt (lcX X scope N cl C s2 H2 fp) de σ' H' x T Cc fl s'->EX Cc none H'->RR (.ref D) C (.error (.ref x)) s'):
  wpAny (model X.prog X.w) X.A (newList []) (λacc s3=>wpAny (model X.prog X.w) X.A (newFunctionEnv scope X.env.globals cl [] X.env.qual none .none (some X.env)) (λla s4=>
   codeAny (model X.prog X.w) X.A (.compStart (.ListComp eg [⟨tg,iter,dw,0⟩] scope pos) 0 (.ref it) acc { la with scope:=relabel scope X.env }) (RR acc la.locals) s4) E s3) E s2:=by
 have qf:∀b∈fp,∃o,s2.heap.get? b=some o:=λb hb=>let ⟨o,e,_⟩:=T.obj 0 _ bn b hb;⟨o,e⟩
 refine Y3 (wpAny_newFunctionEnv sc.nocell (by intro y hy;simp at hy) (λh1 lv qd=>?_) sc.kind);dsimp only at lv qd ⊢;generalize eH:s2.heap.push { cls:=.type "list",dict:=none,data:=.seq ([]:List Value).toArray }=Hx at lv qd ⊢;have eC:Hx.objs.size=s2.heap.objs.size+1:=by rw[<-eH,Heap.size_push]
 generalize eD:s2.heap.objs.size=D at eC;generalize eC':Hx.objs.size=C at lv qd eC ⊢;have ot:D≠C:=by omega
 have hC:s2.heap.objs.size<=C:=by omega
 have hD:s2.heap.objs.size<=D:=by omega
 have ia:∀b o,s2.heap.get? b=some o->h1.get? b=some o:=λb o e=>by
  exact qd.extBut b o (Y1 (Xh (Xj e) hC)) (X8 _ (eH▸X8 _ e))
 have accD:h1.get? D=some (WQ [] 0):=by
  refine qd.extBut _ _ ot (X8 _ ?_);rw [<-eH,<-eD];exact Xl _ rfl
 have jy:∀b∈fp,b≠D/\b≠C:=λb hb=>by
  obtain⟨o,e⟩:=qf b hb;exact⟨Y1 (Xh (Xj e) hD),Y1 (Xh (Xj e) hC)⟩
 have ii:∀{H':Hp} {oD:Obj},(∀b∈fp,H' b=none)->∀b∈fp,ww (lcE X scope N cl C s2 H2 fp EX) [(D,oD)] H' b:=fun {H' oD} hn b hb=>by
  obtain⟨_,f1,f3,f4,f5,f6⟩:=f2 b hb;refine⟨hn b hb,(jy b hb).2,λz=>?_,.inl hb,λx c h=>f5 x c (gv x c h),λp hp=>?_⟩
  ·rcases List.mem_cons.mp (I2.stkSub b z)with y|y
   ·exact f1 y
   ·exact f3 y
  ·have e:p=(D,oD):=by
    have hp:p∈([]++[(D,oD)]:List (Addr×Obj)):=hp
    simpa using hp
   rw [e];exact(jy b hb).1.symm
 have qg:∀s3:Shared,s3={ s2 with heap:=h1,toks:=s2.toks+([]:List (Str×Value)).length } ->
   codeAny (model X.prog X.w) X.A (.compLoop (.ListComp eg [⟨tg,iter,dw,0⟩] scope pos) 0 (.ref it) (.ref D) (compEnvC scope cl C X.env)) (RR (.ref D) C) s3:=by
  rintro s3 rfl;obtain⟨m0,w0⟩:=w0;have hxx:∀e s,Xo (lcX X scope N cl C s2 H2 fp) EX e s->notedBy (model X.prog X.w) X.A (compEnvC scope cl C X.env) (λe s'=>RR (.ref D) C (.error e) s') e s:=by
   rintro e s ⟨de,σ',H',x,Cc,rfl,I',f',q'⟩;have top':xw (lcX X scope N cl C s2 H2 fp):=top;exact kwp (X:=lcX X scope N cl C s2 H2 fp) top' rfl I' f' λL T s1 _ t=>hER D C s1 de σ' H' x T Cc _ hC t q'
  refine vwl (Xo (lcX X scope N cl C s2 H2 fp) EX) (λn s'=>∃i ys ak nn σ' H',Inv (lcE X scope N cl C s2 H2 fp EX) [(D,WQ ak nn)] σ' H' s'/\Vals ys ak/\tn i s'.heap/\(∀b∈fp,H' b=none)/\W i n ys σ' H') ?_ hxx m0
   ⟨0,[],[],0,_,H2,(vwj I2 sc f2 qf hC hD ot gv bo ia lv accD (λv z=>by cases z)).wish _,.nil,T.keep _ _ _ bn (λb hb o e=>ia b o e),λb hb=>(f2 b hb).1,w0⟩
  rintro n s3 ⟨i,ys,ak,nn,σ3,H3,I3,rv,dj,oe,w3⟩;rcases fb i n ys σ3 H3 w3 with⟨stop,hz,qn⟩|⟨go,step⟩
  ·refine thn (T.done (lcE X scope N cl C s2 H2 fp EX) rfl rfl rfl hc i _ s3 σ3 H3 _ I3 (ii oe) dj stop) λr s4 ⟨hr,I4⟩=>?_
   subst hr;show RR (.ref D) C (.ok .next) s4;have hD4:=I4.pin (D,WQ ak nn) (by show _∈([]++[(D,WQ ak nn)]:List (Addr×Obj));simp);have J1:Inv X pins σ H3 s4:=I2.call' I4.os I4.base I4.hok I4.bare λb hb=>⟨(f2 b hb).2.2.2.1,(f2 b hb).2.1,(f2 b hb).2.2.2.2.1,(f2 b hb).2.2.2.2.2⟩
   have fD:ww X pins H3 D:=I2.fpOk hD hD4.2.1;have fC:ww X pins H3 C:=I2.fpOk hC I4.free;have J2:Inv X pins σ (upd H3 D (.lst ys)) s4:=kwy J1 hD4.2.1 fD.2.1 fD.2.2.2.1 fD.2.2.2.2.1 fD.2.2.2.2.2 ⟨hz,ak,nn,rv,hD4.1⟩;obtain⟨mC,nC,_⟩:=I4.loc;obtain⟨oC,es,ep,hoC,hdC,ml⟩:=id nC;have fC':ww X pins (upd H3 D (.lst ys)) C:=⟨by rw[kJ ot.symm];exact fC.1,fC.2⟩;refine hRR D C oC mC ys H3 s4 (J2.pins_of λp hp=>?_) hoC nC fC' (qn D hD4.2.1);rcases List.mem_append.mp hp with z|z
   ·exact J2.pin p (lr9 _ z)
   ·rw[List.mem_singleton.mp z];exact⟨hoC,fC'.1,fC'.2.1,fC'.2.2.1,λv y=>by rw[hdC]at y;cases y⟩
  ·refine thn (T.item (lcE X scope N cl C s2 H2 fp EX) rfl rfl rfl hc i _ s3 σ3 H3 _ I3 (ii oe) dj go) λr s4 ⟨u,hr,h4⟩=>?_
   subst hr;refine thn h4 λ_ s5 ⟨x,H5,I5,r5,y5,st5,fr5⟩=>?_
   have I5':=I5.pinned (ii fr5) (T.obj _ _ st5);have io:∀{σ':L2.St} {H':Hp} {s':Shared} {pl:List (Addr×Obj)},Inv (lcE X scope N cl C s2 H2 fp EX) (pl++Q1 fp s5.heap) σ' H' s'->tn (i+1) s'.heap/\∀b∈fp,H' b=none:=fun {σ' H' s' pl} I'=>by
    have q:∀b∈fp,∀o,s5.heap.get? b=some o->s'.heap.get? b=some o/\H' b=none:=λb hb o e=>by
     obtain⟨a1,a2,_⟩:=I'.pin (b,o) (lr9 _ (lr9 _ (jz7 hb e)));exact⟨a1,a2⟩
    refine⟨T.keep _ _ _ st5 λb hb o e=>(q b hb o e).1,λb hb=>?_⟩;obtain⟨o,e,_⟩:=T.obj _ _ st5 b hb;exact(q b hb o e).2
   refine thn (hg C s2 H2 fp _ s5 σ3 H5 x u _ I5' r5 (step x H5 y5)) λ_ s6 ⟨σ6,H6,I6,Ny,Nn,hNy,hNn,q6⟩=>?_
   refine thn (ht C s2 H2 fp _ s6 σ6 H6 _ I6 q6) λok s7 ⟨H7,I7,q7⟩=>?_
   cases ok with
   | false=>
    obtain⟨m',hm,w7⟩:=hNn _ q7;exact⟨m',hm,i+1,ys,ak,nn,σ6,H7,I7.unpinned,rv,(io I7).1,(io I7).2,w7⟩
   | true=>
    refine thn (he C s2 H2 fp _ s7 σ6 H7 _ I7 q7) λu8 s8 ⟨y,H8,I8,r8,q8⟩=>?_
    obtain⟨hz,m',hm,w8⟩:=hNy _ _ q8;have pD:=I8.pin (D,WQ ak nn) (lr9 _ (ll9 _ (List.mem_singleton.mpr rfl)));have av:=rv.length;refine append_at (hsz:=by rw[X6];omega) pD.1 λh9 sb9 e9=>?_
    have I8a:Inv (lcE X scope N cl C s2 H2 fp EX) ([]++Q1 fp s5.heap) σ6 H8 s8:=I8.pins_of λp hp=>I8.pin p (lr9 _ (lr9 _ hp))
    have I9:Inv (lcE X scope N cl C s2 H2 fp EX) ([]++Q1 fp s5.heap) σ6 H8 { s8 with heap:=h9,toks:=s8.toks }:=I8a.turned (it:=D) (λb o hb e=>(sb9.2 b hb).trans e) pD.2.1 ot (.inr hD)
     (λx c h z=>by
      obtain⟨v,q⟩:=I2.cell x c (gv x c h);exact absurd (Xh q.lt (by rw[z];exact hD)) (Yl _))
     (λp hp z=>by
      have hp:p∈([]++([]++Q1 fp s5.heap):List (Addr×Obj)):=hp;have hp:p∈Q1 fp s5.heap:=by simpa using hp
      exact(jy p.1 (kwo hp).1).1 z)
    have e9':h9.get? D=some (WQ (ak++[u8]) (nn+1)):=by rw[e9];simp[List.push_toArray]
    refine⟨m',hm,i+1,ys++[y],ak++[u8],nn+1,σ6,H8,I9.pins_of λp hp=>?_,rv.append (.cons r8 .nil),(io I9).1,(io I9).2,w8⟩;rw[List.mem_singleton.mp hp];exact⟨e9',pD.2.1,pD.2.2.1,pD.2.2.2.1,λv z=>by cases z⟩
 exact codeAny_compStart_list (qg _ rfl) (T.self _ 0 _ _ _ (T.keep _ _ _ bn λb hb o e=>ia b o e) (qg _ rfl))
theorem wjo{EX:XK}{wi:TI}(N:List Str)(k:Nat)(R:List Nat)(hi:PI X tg iter wi)
  (hg:∀cl C s0 H0 fp,PG (lcE X scope N cl C s0 H0 fp EX) tg g) (ht:∀cl C s0 H0 fp,PTs (lcE X scope N cl C s0 H0 fp EX) dw tt) (he:∀cl C s0 H0 fp,PE (lcE X scope N cl C s0 H0 fp EX) eg te)
  (gx:xv X EX) (top:xw X) (hc:autoParam (X.calm=true) Ŕ) (hk:autoParam (scope.kind=.function) Ŕ) (l5:autoParam (QQ X.N X.env.scope scope N k R=true) Ŕ) (hs:autoParam (∀x,foldedSetIterable iter X.env x=pure x) Ŗ):
  PE X (.ListComp eg [⟨tg,iter,dw,0⟩] scope pos) (tLC wi g tt te k R):=by
 intro pins s σ H Q I h;have sc:=qjr hk l5;obtain⟨cl,js,gv,bo⟩:=kql (scope:=scope) (env:=X.env) λy hy e=>I.ok.has y.1 (sc.caps y hy e)
 rw[eval_ListComp];refine wpAny_comprehension_free (use:=none) rfl hs js sc.kind sc.names (thn (hi pins s σ H _ I h) λv s1 h1=>thn h1 λitv s2 h2=>?_);obtain⟨it,fp,tn,J,H2,e,I2,T,bn,f2,W,w0,fb⟩:=h2;subst e;refine kwu (EX:=EX) (RR:=λacc C=>compPost (model X.prog X.w) X.A X.xe none (EP X pins σ Q) acc C) hc top sc gv bo (hg cl) (ht cl) (he cl) I2 T bn f2 w0 fb ?_ ?_
 rotate_left
 ·intro D C s' de σ' H' x T Cc fl hC t q;exact vq9 gx I2 f2 hC t q
 intro D C oC m ys H' s' I' _ nC fC q;exact⟨m,nC,λh' sb=>⟨.ref D,_,I'.unpinned.turned (it:=C) (t':=s'.toks) (λb o hb e=>(sb.2 b hb).trans e) fC.1 fC.2.1 fC.2.2.2.1 fC.2.2.2.2.1 fC.2.2.2.2.2,rfl,q⟩⟩
end
abbrev bmV:List Value:=[.type "ValueError",.type "Exception",.type "BaseException",.type "object"]
structure ECls (K:PySem.W.Frag)(mg:Str->Option Value)(x:Str)(C:Addr):Prop where
 bd:mg x=some (.ref C)
 ec:PySem.W.excIn K C bmV "ValueError.__new__"=true
 xc:XCls K C
theorem vw4{K:PySem.W.Frag}{h:Heap}{C:Addr}{bmB:List Value}{mo:String}(KI:K.In h)(e:PySem.W.excIn K C bmB mo=true):
  ∃ bm N nm q bs hdct sn sub ab col dd k0 k1 k2 k3 k5 mN,h.get? C=some (excClassObj nm q C N bs bm hdct sn sub ab col dd k0 k1 k2 k3 k5 mo)/\h.Ns N mN/\mN "__init__"=none/\OwnTail h bmB bm:=by
 unfold PySem.W.excIn at e
 split at e
 ·rename_i dict cd sl hl
  split at e
  ·rename_i bm C' k0 k1 k2 k3 n k5 hm hs;simp only[Bool.and_eq_true,beq_iff_eq,Bool.not_eq_true']at e;obtain⟨⟨⟨⟨⟨e1,e2⟩,e3⟩,e4⟩,e5⟩,e6⟩:=e;subst e1 e2;have g:=KI _ _ hl;obtain⟨nm,bs,mro,ns,qn,hd,hdel,sn,sub,ab,col⟩:=cd;dsimp only at hm e3 e5 e6;subst hm e3;have jg:sl=#[k0,k1,k2,k3,some (Value.builtin n),k5]:=by
    apply Array.toList_inj.mp;rw[hs]
   subst jg;exact⟨_,ns,nm,qn,bs,hd,hdel,sn,sub,ab,dict,k0,k1,k2,k3,k5,h.nsMap ns,g,Heap.Ns.of_isNs (PySem.W.isNs_of_in KI e5),PySem.W.nsMap_none_of_in KI e5 e6,PySem.W.tail_of_in KI e4⟩
  ·cases e
 ·cases e
section
variable {X:Cx}{x:Str}{np aq pos:Pos}{e:Expr}{es:List Expr}{ta:TA}{C:Addr}{E:XK}
abbrev vz4(E:XK)(C:Addr)(ta:TA):TS:=λ_ σ H=>ta σ H λvs H1=>vs.length<=sizeLine/\E (.ref C) none H1
theorem vj5(c:ECls X.K X.mg x C)(g:xv X E)(ha:PA X (e::es) ta)(hg:autoParam (Gl X x) Ŕ)(hc:autoParam (X.calm=true) Ŕ)(cj:autoParam ((x==("__debug__":Str))=false) ŕ)
  (he:autoParam (starEach (e::es) X.env=(false,eval e X.env)::starEach es X.env) Ŕ) (be:autoParam (((backTo aq (starEach (e::es) X.env)).any (·.1))=false) Ŕ):
  PS X (.Raise (some (.Call (.Name x np) (e::es) [] aq)) none pos) (vz4 E C ta):=by
 intro pins s σ H D I h;obtain⟨bm,N,nm,q,bs,hdct,sn,sub,ab,col,dd,k0,k1,k2,k3,k5,mN,o1,o2,o3,o4⟩:=vw4 I.ok.mod.kin c.ec;refine wpAny_Raise_call_subT (nm:=nm) (q:=q) (C:=C) (N:=N) (bs:=bs) (bm:=bm) (hdct:=hdct) (sn:=sn) (sub:=sub) (ab:=ab) (col:=col) (dd:=dd) (k0:=k0) (k1:=k1) (k2:=k2) (k3:=k3) (k5:=k5) (bmB:=bmV) F.excBase_ValueError (o4.hasType (X:="BaseException") rfl) (I.ok.hd hc) be o3 (VW I hg c.bd ⟨rfl,?_⟩ cj);obtain⟨y0,r0,fm⟩:∃y r,backTo aq (starEach (e::es) X.env)=(false,y)::r:=by rw[he];exact⟨_,_,rfl⟩
 have i9:=ha aq pins s σ H _ I h;rw[fm]at i9 ⊢;refine Calls.evalArgs_plain (thn i9 λus s2 ⟨vs,H1,I1,r1,q1⟩=>⟨rfl,by rw[<-r1.length];exact q1.1,I1.bk _ _ o1,?_,?_,λh' ea m5=>?_⟩)
 ·obtain⟨o,es',ep,ho,r⟩:=o2;exact⟨o,es',ep,I1.bk _ _ ho,r⟩
 ·exact o4.keeps λb o e=>I1.bk b o e
 ·obtain⟨t,m1,m2,m3⟩:=m5.there;have J:Inv X pins σ H1 { s2 with heap:=h',toks:=s2.toks }:=I1.kept m5.keeps;exact g pins σ H1 _ ea (.ref C) J ⟨fpX I1 m5.new (vjr I1.hok m5.new),.inl ⟨_,⟨m1,by show(1:Nat)<6;decide⟩,rfl⟩⟩ q1.2
noncomputable def XX(X:Cx)(pins:List (Addr×Obj))(σ:L2.St)(E:XK)(e:Value)(s:Shared):Prop:=∃H x C,e=.ref x/\Inv X pins σ H s/\Fx X pins H s.heap x C/\E C none H
noncomputable def PSX(X:Cx)(st:Stmt)(t:XK->TS):Prop:=∀(E:XK) (pins:List (Addr×Obj)) (s:Shared) (σ:L2.St) (H:Hp) (D:Ends),Inv X pins σ H s->t E D σ H->wpAny (model X.prog X.w) X.A (exec st X.env) (SP X pins D) (XX X pins σ E) s
noncomputable def PEX(X:Cx)(ex:Expr)(t:XK->TE):Prop:=∀(E:XK) (pins:List (Addr×Obj)) (s:Shared) (σ:L2.St) (H:Hp) (Q:VK),Inv X pins σ H s->t E σ H Q->wpAny (model X.prog X.w) X.A (eval ex X.env) (EP X pins σ Q) (XX X pins σ E) s
theorem vj9{k:Nat}{ps:List Str}{sp:Sp}(D:kW X.prog X.w X.K X.mg X.base k x ps sp)(hr:Room k X.A)(ha:PA X.nox (e::es) ta)(hg:autoParam (Gl X x) Ŕ)(cj:autoParam ((x==("__debug__":Str))=false) ŕ)
  (he:autoParam (starEach (e::es) X.env=(false,eval e X.env)::starEach es X.env) Ŕ) (be:autoParam ((backTo pos (starEach es X.env)).any (·.1)=false) Ŕ):
  PEX X (.Call (.Name x np) (e::es) [] pos) (λE=>qzm sp [] E ta):=by
 obtain⟨f,fd,F,hb,kp,m⟩:=D;intro E pins s σ H Q I h;refine Yu (VW I hg m ?_ cj);refine PySem.W.callWith_K (h₀:=X.base) I.ok.mod.kin kp (Z4 (ha pos pins s σ H _ (I.wish _) h) (λus s1 ⟨vs,H1,I1,r,q⟩=>⟨I1.kIn,?_⟩) λ_ _ z=>z.elim) he be;have I1:=I1.unwish;have q:sp (vs++[]) H1 Q E:=q;have hl:us.length=ps.length:=by
  rw[<-r.length];have:=F.len _ _ _ _ q
  rwa [Xr]at this
 refine wpAny_call (codeAny_mono (F.run X.A X.stack s1 H1 ⟨us,[]⟩ us vs Q E hr I1.env0 (by have:=hb s1 us I1.kIn (by rw[Xr];exact hl);rwa [Xr]at this) r (by rwa [Xr]at q)) λrr s' hq=>?_);cases rr with
 |error e=>
  obtain⟨x,T,C,fl,H',rfl,os,bare,un,hok,hx,hT,nx,nT,f,q⟩:=hq;exact⟨H',x,C,rfl,I1.call' os un hok bare (λb hb=>nomatch hb),⟨fpX I1 hx nx,.inr ⟨T,fl,f,fpX I1 hT nT⟩⟩,q⟩
 |ok fl=>
  cases fl with
  |ret u=>exact I1.after hq
  |next=>exact False.elim hq
  |brk=>exact False.elim hq
  |cont=>exact False.elim hq
theorem qjg{ex:Expr}{t:XK->TE}(h:PEX X ex t)(hs:autoParam (swapsWith ex none pos.line X.env=pure false) Ŕ):PSX X (.Expr ex pos) (λE=>vz6 (t E)):=by
 intro E pins s σ H D I hw;exact wpAny_Expr_any (thn (h E pins s σ H _ I hw) λv s1 ⟨x,H1,I1,r1,q1⟩=>⟨σ,H1,I1,q1⟩) I.quiet hs
end
section
variable {X:Cx}{pins:List (Addr×Obj)}{σ:L2.St}{H:Hp}{s:Shared}{x:Addr}{ox:Obj}
theorem qx0{σ':L2.St}{h':Heap}{t':Nat}{m':Str->Option Value}(I:Inv X pins σ H s)(hs:Heap.SameBut X.env.locals s.heap h')(nl:h'.Ns X.env.locals m')(hl:σ'.length=X.N.length)
  (hv:∀(j:Nat) (y:Str) (v:V),X.N[j]?=some y->σ'[j]?=some (some v)->Vis X.env.scope y->∃u,RelV v u/\wz1 X.env h' m' y u):Inv X pins σ' H { s with heap:=h',toks:=t' }:=by
 have nL:∀b o,X.s₀.heap.get? b=some o->b≠X.env.locals:=λb o e=>Y1 (Xh (Xj e) I.ok.above)
 refine⟨I.ok,I.os,I.bare,⟨λb o e n hb hx=>?_,λb o e n hb hx=>?_,I.base.free,λb o e hx=>?_,I.base.tups,I.base.frzs,I.base.tbls⟩,⟨m',nl,hv⟩,λy c e=>?_,I.free,I.freeC,λp hp=>?_,λb ob e=>?_,hl⟩
 ·exact(hs.2 b (nL b o e)).trans (I.base.keep b o e n hb hx)
 ·obtain⟨sl,e1⟩:=I.base.slot b o e n hb hx;exact⟨sl,(hs.2 b (nL b o e)).trans e1⟩
 ·obtain⟨o',e1⟩:=I.base.there b o e hx;exact⟨o',(hs.2 b (nL b o e)).trans e1⟩
 ·obtain⟨w',z⟩:=I.cell y c e;exact⟨w',z.sameBut hs (I.cne y c e)⟩
 ·obtain⟨e,n,ne,nf,d⟩:=I.pin p hp;exact⟨(hs.2 p.1 ne).trans e,n,ne,nf,d⟩
 ·refine(I.hok b ob e).stay (λc w' hc q=>(hs.2 c ?_).trans q) (λ_ q=>q) λ_ _ q=>q
  rintro rfl;rcases hc with rfl|hc
  ·rw[I.free]at e;cases e
  ·rw[I.free]at hc;cases hc
theorem jxd{M:Model}{A:Around}{E:Value->Shared->Prop}{n:Str}{i:Nat}{pos:Pos}{Q:Unit->Shared->Prop}(I:Inv X pins σ H s)(hN:X.N.Nodup)(hi:X.N[i]?=some n)(hk:X.env.scope.names.lookup n=some .local)
  (h:∀s',Inv X pins (σ.set i none) H s'->Q () s'):wpAny M A (do bindName X.env n Value.none;unbindBehindTheSuite X.env n pos) Q E s:=by
 refine X0 (wpAny_bindName (ZY I hN hi (.inl hk) (v:=.non) (u:=.none) rfl (λs1 I1=>?_) (.inr hk)));have sk:i < σ.length:=by rw[I.len];exact(List.getElem?_eq_some_iff.mp hi).1
 obtain⟨m,hn,hl⟩:=id I1.loc;obtain⟨u,ru,lk⟩:=hl i n .non hi (Y2 sk) (.inl hk);have hm:m n=some u:=by
  rcases lk with⟨_,z⟩|⟨z,_⟩
  ·exact z
  ·rcases z with z|z
   ·have z:X.env.scope.names.lookup n=some .cell:=z;rw[hk]at z;cases z
   ·have z:X.env.scope.names.lookup n=some .free:=z;rw[hk]at z;cases z
 have nk:(X.env.scope.kind == .class||(X.env.scope.kind == .module&&X.env.locals != X.env.globals))=false:=by rw[I.ok.kind];rfl
 unfold unbindBehindTheSuite;refine wpAny_onRaise (wpAny_unbindName_local hk hn hm nk λh' u' nl sb=>h _ ?_);refine qx0 (t':=s1.toks) I1 sb nl (by rw[Yp];exact I.len) λj y v e1 e2 e3=>?_
 by_cases hj:j=i
 ·subst hj;rw[Y2 sk]at e2;cases e2
 ·rw[Xx (Ne.symm hj)]at e2;obtain⟨u2,r2,l2⟩:=hl j y v e1 (by rw[Xx (Ne.symm hj)];exact e2) e3;refine⟨u2,r2,?_⟩;rcases l2 with⟨k,e⟩|⟨k,c,e,z⟩
  ·refine .inl ⟨k,?_⟩;have:y≠n:=λe=>hj (kv7 hN e1 (e▸hi))
   simp[this,e]
  ·exact .inr ⟨k,c,e,z.sameBut sb (I.cne y c e)⟩
end
structure ExAt (K:PySem.W.Frag)(x:Addr)(ox:Obj)(C:Addr):Prop where
 cls:ox.cls=.ref C
 no:PySem.W.notCls ox=true
 di:ox.dict=none
 xc:XCls K C
theorem Kz{X:Cx}{x:Str}{pos:Pos}{C:Addr}(h:X.mg x=some (.ref C))(hg:autoParam (Gl X x) Ŕ)(hd:autoParam ((x==("__debug__":Str))=false) ŕ):PE X (.Name x pos) (tC (.ref C)):=vvx hg h (v:=.ref C) rfl hd
end L3
namespace Q
open PySem
inductive D where
 |non|bl (b:Bool)|int (i:Int)|str (z:Str)|tup (xs:List D)|lst (xs:List D)|dct (kvs:List (D×D))|obj (c:Str) (fs:List (Str×D))
instance:DecidableEq D:=λa b=>Classical.propDecidable (a=b)
instance:Inhabited D:=⟨.non⟩
mutual
noncomputable def D.pure:D->Bool
 |.tup xs=>D.pures xs
 |.lst _=>false
 |.dct _=>false
 |.obj _ _=>false
 |_=>true
noncomputable def D.pures:List D->Bool
 |[]=>true
 |a::x=>D.pure a&&D.pures x
end
theorem D.pures_all:∀xs:List D,D.pures xs=xs.all D.pure
 |[]=>by simp[D.pures]
 |a::x=>by rw[D.pures,List.all_cons,D.pures_all x]
@[simp] theorem D.pures_map {α:Type}(f:α->D)(xs:List α)(h:∀x∈xs,(f x).pure=true):D.pures (xs.map f)=true:=by
 rw[D.pures_all,Z2];intro d hd;obtain⟨x,hx,rfl⟩:=List.mem_map.mp hd;exact h x hx
mutual
noncomputable def peq:D->D->Bool
 |.non,.non=>true
 |.bl a,.bl b=>a==b
 |.bl a,.int b=>(if a then 1 else 0)==b
 |.int a,.bl b=>a==(if b then 1 else 0)
 |.int a,.int b=>a==b
 |.str a,.str b=>a==b
 |.lst as,.lst bs=>peqs as bs
 |.tup as,.tup bs=>peqs as bs
 |_,_=>false
noncomputable def peqs:List D->List D->Bool
 |[],[]=>true
 |a::as,b::bs=>peq a b&&peqs as bs
 |_,_=>false
end
mutual
noncomputable def D.flat:Nat->D->Bool
 |0,.tup _=>false
 |0,.lst _=>false
 |n+1,.tup xs=>D.flats n xs
 |n+1,.lst xs=>D.flats n xs
 |_,.dct _=>false
 |_,.obj _ _=>false
 |_,_=>true
noncomputable def D.flats:Nat->List D->Bool
 |_,[]=>true
 |n,a::x=>D.flat n a&&D.flats n x
end
mutual
noncomputable def jZ:Nat->D->Bool
 |_,.non=>true
 |_,.int _=>true
 |n+1,.tup xs=>keyDs n xs
 |_,_=>false
noncomputable def keyDs:Nat->List D->Bool
 |_,[]=>true
 |n,a::x=>jZ n a&&keyDs n x
end
noncomputable def unm : List (D × D) -> Bool
  |(.str _, _)::_=>false
  |_=>true
inductive Own where
 |no|rt|dp
 deriving DecidableEq
abbrev Sd:=Own×D
abbrev En:=List (Option Sd)
inductive Res (α:Type) where
 |ok (E:En) (a:α)
 |exc (E:En) (c:Str)
abbrev Ev(α:Type):=En->Option (Res α)
abbrev Ex:=Ev Sd
noncomputable def bnd{α β:Type}(m:Option (Res α))(f:En->α->Option (Res β)):Option (Res β):=
 match m with
 |some (.ok E a)=>f E a
 |some (.exc E c)=>some (.exc E c)
 |none=>none
@[simp] theorem wxy {α β:Type}(E:En)(a:α)(f:En->α->Option (Res β)):bnd (some (.ok E a)) f=f E a:=rfl
@[simp] theorem wx0 {α β:Type}(E:En)(c:Str)(f:En->α->Option (Res β)):bnd (some (.exc E c)) f=some (.exc E c):=rfl
@[simp] theorem wv4 {α β:Type}(f:En->α->Option (Res β)):bnd none f=none:=rfl
noncomputable def val{α:Type}(E:En)(x:Option α):Option (Res α):=x.map (Res.ok E)
@[simp] theorem wqp {α:Type}(E:En)(x:α):val E (some x)=some (.ok E x):=rfl
@[simp] theorem wqq {α:Type}(E:En):val E (none:Option α)=none:=rfl
noncomputable def cC(d:D):Ex:=λE=>some (.ok E (.dp,d))
noncomputable def cV(i:Nat):Ex:=λE=>match E[i]? with
 |some (some (_,d))=>some (.ok (E.set i (some (.no,d))) (.no,d))
 |_=>none
noncomputable def cMv(i:Nat):Ex:=λE=>match E[i]? with
 |some (some x)=>some (.ok (E.set i none) x)
 |_=>none
noncomputable def vV(i:Nat):Ex:=λE=>match E[i]? with
 |some (some x)=>some (.ok E x)
 |_=>none
noncomputable def vE(c:Ex):Ex:=λE=>bnd (c E) λE x=>some (.ok E (.no,x.2))
abbrev C9(z:Int):Ex:=vE (cC (.int z))
noncomputable def cH(v:Ex):Ex:=λE=>bnd (v E) λE x=>if x.1=.no then some (.ok E (.no,x.2))else if x.2.pure then some (.ok E (.dp,x.2))else none
noncomputable def cF1(f:Sd->Option Sd)(a:Ex):Ex:=λE=>bnd (a E) λE x=>val E (f x)
noncomputable def cF2(f:Sd->Sd->Option Sd)(a b:Ex):Ex:=λE=>bnd (a E) λE x=>bnd (b E) λE y=>val E (f x y)
noncomputable def pu1(f:D->Option D):Sd->Option Sd:=λx=>(f x.2).map λd=>(.dp,d)
noncomputable def pu2(f:D->D->Option D):Sd->Sd->Option Sd:=λx y=>(f x.2 y.2).map λd=>(.dp,d)
noncomputable def wxw:D->List D
 |.lst xs=>xs
 |.tup xs=>xs
 |.dct kvs=>kvs.map (·.2)
 |_=>[]
noncomputable def v6(x:Sd):Bool:=x.1 != .dp||D.pures (wxw x.2)
noncomputable def sub:Own->Own
 |.dp=>.dp
 |_=>.no
noncomputable def ixN(n:Nat)(i:Int):Option Nat:=if 0<=i then(if i<n then some i.toNat else none)else if -(n:Int)<=i then some (i+n).toNat else none
noncomputable def ixD:D->D->Option D
 |.lst xs,.int i=>(ixN xs.length i).bind λj=>xs[j]?
 |.tup xs,.int i=>(ixN xs.length i).bind λj=>xs[j]?
 |.str z,.int i=>(ixN z.cps.size i).bind λj=>(z.cps.toList[j]?).map λc=>.str ⟨#[c]⟩
 |.dct kvs,k=>(kvs.find? λe=>decide (e.1=k)).map (·.2)
 |_,_=>none
noncomputable def big:Nat:=16777216
noncomputable def i2(f:Int->Int->Option Int):D->D->Option D
 |.int a,.int b=>(f a b).map .int
 |_,_=>none
noncomputable def c2(f:Int->Int->Bool):D->D->Option D
 |.int a,.int b=>some (.bl (f a b))
 |_,_=>none
noncomputable def Zk(a:Int):Bool:=decide (-(2 ^ 64)<a)&&decide (a<2 ^ 64)
noncomputable def jJ:Sd->Sd->Option Sd:=λx y=>match x.2,y.2 with
 |.int a,.int b=>some (.dp,.int (a+b))
 |.str a,.str b=>if a.cps.size+b.cps.size<=big then some (.dp,.str (a++b))else none
 |.lst a,.lst b=>if a.length+b.length<=big/\v6 x/\v6 y then some (.rt,.lst (a++b))else none
 |.tup a,.tup b=>if a.length+b.length<=big/\v6 x/\v6 y then some (.no,.tup (a++b))else none
 |_,_=>none
noncomputable def Kw(a b:Int):Bool:=Zk a||Zk b||(decide (a.natAbs.log2<2000000)&&decide (b.natAbs.log2<2000000))
noncomputable def J3:Sd->Sd->Option Sd:=λx y=>match x.2,y.2 with
 |.int a,.int b=>if Kw a b then some (.dp,.int (a*b))else none
 |.lst a,.int k=>if -(2 ^ 63)<=k/\k<2 ^ 63/\a.length*k.toNat<=big/\v6 x then some (.rt,.lst (List.replicate k.toNat a).flatten)else none
 |.str z,.int n=>if(z.cps.size<=1024/\n<=1024/\-1024<=n)/\(Txt.mul z n).cps.size<=big then some (.dp,.str (Txt.mul z n))else none
 |_,_=>none
noncomputable def wq5:D->D->Option D:=i2 λa b=>some (a - b)
noncomputable def xW:D->D->Option D:=i2 λa b=>if 0<b/\b.natAbs.log2<9000 then some (a / b)else none
noncomputable def kQ:D->D->Option D:=i2 λa b=>if 0<b then some (a % b)else none
noncomputable def WK:D->D->Option D:=i2 λa b=>if 0<=b/\b<=1000000/\a.natAbs<2 ^ 64 then some (a ^ b.toNat)else none
noncomputable def fEq:D->D->Option D:=λa b=>if a.flat 40&&b.flat 40 then some (.bl (peq a b))else none
noncomputable def fNe:D->D->Option D:=λa b=>if a.flat 40&&b.flat 40 then some (.bl (!peq a b))else none
noncomputable def isNon:D->Bool
 |.non=>true
 |_=>false
noncomputable def fLt:D->D->Option D:=c2 λa b=>decide (a<b)
noncomputable def fLe:D->D->Option D:=c2 λa b=>decide (a<=b)
noncomputable def fGt:D->D->Option D:=c2 λa b=>decide (b<a)
noncomputable def fGe:D->D->Option D:=c2 λa b=>decide (b<=a)
noncomputable def wwt(a b:Str):Bool:=!(Builtin.Str.occurrences b a 0 b.length 1).isEmpty
noncomputable def fIn:D->D->Option D:=λx y=>match y with
 |.lst ys=>if x.flat 30&&D.flats 30 ys then some (.bl (ys.any λz=>peq z x))else none
 |.tup ys=>if x.flat 30&&D.flats 30 ys then some (.bl (ys.any λz=>peq z x))else none
 |.str b=>(match x with
  |.str a=>some (.bl (wwt a b))
  |_=>none)
 |.dct kvs=>some (.bl (kvs.any λe=>decide (e.1=x)))
 |_=>none
noncomputable def kx4:D->D->Option D:=λx y=>(fIn x y).bind λd=>match d with
 |.bl k=>some (.bl (!k))
 |_=>none
noncomputable def v9:D->Option D
 |.lst xs=>some (.int xs.length)
 |.tup xs=>some (.int xs.length)
 |.str z=>some (.int z.length)
 |_=>none
noncomputable def kind:D->String
 |.non=>"NoneType"
 |.bl _=>"bool"
 |.int _=>"int"
 |.str _=>"str"
 |.tup _=>"tuple"
 |.lst _=>"list"
 |.dct _=>"dict"
 |.obj _ _=>""
noncomputable def fIsNon:D->Option D:=λd=>some (.bl (isNon d))
noncomputable def fNotNon:D->Option D:=λd=>some (.bl (!isNon d))
abbrev Ts:=Ev Bool
noncomputable def truth:D->Option Bool
 |.bl b=>some b
 |.non=>some false
 |.int i=>some (i != 0)
 |.str z=>some (z.cps.size != 0)
 |.lst xs=>some (!xs.isEmpty)
 |.tup xs=>some (!xs.isEmpty)
 |.dct xs=>some (!xs.isEmpty)
 |.obj _ _=>none
noncomputable def tE(c:Ex):Ts:=λE=>bnd (c E) λE x=>val E (truth x.2)
noncomputable def tAnd(a b:Ts):Ts:=λE=>bnd (a E) λE x=>if x then b E else some (.ok E false)
noncomputable def tOr(a b:Ts):Ts:=λE=>bnd (a E) λE x=>if x then some (.ok E true)else b E
noncomputable def tNot(a:Ts):Ts:=λE=>bnd (a E) λE x=>some (.ok E (!x))
noncomputable def tYes:Ts:=λE=>some (.ok E true)
noncomputable def cIf(t:Ts)(a b:Ex):Ex:=λE=>bnd (t E) λE x=>if x then a E else b E
noncomputable def ZJ(a b:Ex):Ex:=λE=>bnd (a E) λE x=>match x.2 with
 |.bl true=>b E
 |.bl false=>some (.ok E (.dp,.bl false))
 |_=>none
noncomputable def cOr(a b:Ex):Ex:=λE=>bnd (a E) λE x=>match x.2 with
 |.bl true=>some (.ok E (.dp,.bl true))
 |.bl false=>b E
 |_=>none
noncomputable def KQ:D->D->Option D:=λx y=>match y with
 |.dct _=>none
 |_=>fIn x y
noncomputable def z5:D->D->Option D:=λx y=>match y with
 |.dct _=>none
 |_=>kx4 x y
noncomputable def f2First(f:D->Option D):Sd->Sd->Option Sd:=λx y=>if isNon y.2 then(f x.2).map λd=>(.dp,d)else none
noncomputable def jY:D->D->Option D:=λx y=>match x with
 |.dct _=>none
 |_=>ixD x y
noncomputable def j6(a b:Ex):Ex:=λE=>bnd (a E) λE x=>bnd (b E) λE y=>val E ((jY x.2 y.2).map λd=>(sub x.1,d))
noncomputable def truthQ:D->Option Bool:=λd=>match d with
 |.dct _=>none
 |_=>truth d
noncomputable def tEQ(c:Ex):Ts:=λE=>bnd (c E) λE x=>val E (truthQ x.2)
noncomputable def v4:List Ex->Ev (List Sd)
 |[],E=>some (.ok E [])
 |c::cs,E=>bnd (c E) λE x=>bnd (v4 cs E) λE xs=>some (.ok E (x::xs))
noncomputable def vK(x:Sd):Bool:=x.1 == .dp||x.2.pure
noncomputable def kK(o:Own)(cs:List Ex):Ex:=λE=>bnd (v4 cs E) λE xs=>if o=.dp then(if xs.all vK then some (.ok E (.dp,.lst (xs.map (·.2))))else none)else some (.ok E (.rt,.lst (xs.map (·.2))))
noncomputable def qQ(o:Own)(cs:List Ex):Ex:=λE=>bnd (v4 cs E) λE xs=>if o=.dp then(if xs.all vK then some (.ok E (.dp,.tup (xs.map (·.2))))else none)else some (.ok E (.no,.tup (xs.map (·.2))))
inductive Fl where
 |nx (E:En)|rt (E:En) (x:Sd)|ct (E:En)|bk (E:En)|xc (E:En) (c:Str)
abbrev Sm:=En->Option Fl
noncomputable def ofE{α:Type}(m:Option (Res α))(f:En->α->Option Fl):Option Fl:=
 match m with
 |some (.ok E a)=>f E a
 |some (.exc E c)=>some (.xc E c)
 |none=>none
@[simp] theorem wxq {α:Type}(E:En)(a:α)(f:En->α->Option Fl):ofE (some (.ok E a)) f=f E a:=rfl
@[simp] theorem ww8 {α:Type}(E:En)(c:Str)(f:En->α->Option Fl):ofE (some (.exc E c)) f=some (.xc E c):=rfl
@[simp] theorem wqw {α:Type}(f:En->α->Option Fl):ofE none f=none:=rfl
noncomputable def j4(a b:Sm):Sm:=λE=>match a E with
 |some (.nx E)=>b E
 |r=>r
noncomputable def kZ:Sm:=λE=>some (.nx E)
noncomputable def jk(i:Nat)(c:Ex):Sm:=λE=>ofE (c E) λE x=>some (.nx (E.set i (some x)))
noncomputable def Qz(c:Ex):Sm:=λE=>ofE (c E) λE _=>some (.nx E)
noncomputable def jQ(c:Ex):Sm:=λE=>ofE (c E) λE x=>some (.rt E x)
noncomputable def sRetN:Sm:=λE=>some (.rt E (.dp,.non))
noncomputable def sIf(t:Ts)(a b:Sm):Sm:=λE=>ofE (t E) λE x=>if x then a E else b E
inductive Tg where
 |n (i:Nat)|t (ts:List Nat)
noncomputable def setAll:List Nat->List D->En->Option En
 |[],[],E=>some E
 |i::is,d::ds,E=>setAll is ds (E.set i (some (.no,d)))
 |_,_,_=>none
noncomputable def Tg.put:Tg->D->En->Option En
 |.n i,d,E=>some (E.set i (some (.no,d)))
 |.t is,.tup ds,E=>setAll is ds E
 |.t is,.lst ds,E=>setAll is ds E
 |.t _,_,_=>none
noncomputable def Qw(is:List Nat)(c:Ex):Sm:=λE=>ofE (c E) λE x=>(Tg.put (.t is) x.2 E).map .nx
noncomputable def J4(tg:Tg)(b:Sm):List D->En->Option Fl
 | [],E=>some (.nx E)
 | d::ds,E=>match tg.put d E with
  |none=>none
  |some E=>match b E with
   |some (.nx E)=>J4 tg b ds E
   |some (.ct E)=>J4 tg b ds E
   |some (.bk E)=>some (.nx E)
   |r=>r
noncomputable def wW(it:Ev (List D))(tg:Tg)(b:Sm):Sm:=λE=>ofE (it E) λE ds=>J4 tg b ds E
noncomputable def sWhile(t:Ts)(b:Sm)(E:En):Option Fl:=
 match t E with
 |some (.ok E true)=>(match b E with
  |some (.nx E)=>sWhile t b E
  |some (.ct E)=>sWhile t b E
  |some (.bk E)=>some (.nx E)
  |r=>r)
 |some (.ok E false)=>some (.nx E)
 |some (.exc E c)=>some (.xc E c)
 |none=>none
partial_fixpoint
noncomputable def whN(t:Ts)(b:Sm):Nat->En->Option Fl
 | 0,_=>none
 | n+1,E=>match t E with
  |some (.ok E true)=>(match b E with
   |some (.nx E)=>whN t b n E
   |some (.ct E)=>whN t b n E
   |some (.bk E)=>some (.nx E)
   |r=>r)
  |some (.ok E false)=>some (.nx E)
  |some (.exc E c)=>some (.xc E c)
  |none=>none
theorem vqo{t:Ts}{b:Sm}:∀{E:En} {r:Fl},sWhile t b E=some r->∃n,whN t b n E=some r:=by
 intro E r;refine sWhile.partial_correctness t b (λE r=>∃n,whN t b n E=some r) ?_ E r;intro f ih E r h;cases ht:t E with
 | none=>rw[ht]at h;cases h
 | some q=>
  cases q with
  | exc E1 c=>rw[ht]at h;exact⟨1,by simp only[whN,ht];exact h⟩
  | ok E1 k=>
   rw[ht]at h;cases k with
   | false=>exact⟨1,by simp only[whN,ht];exact h⟩
   | true=>
    dsimp only at h;cases hb:b E1 with
    |none=>rw[hb]at h;cases h
    |some g=>
     rw[hb]at h;cases g with
     |nx E2=>obtain⟨n,hn⟩:=ih _ _ h;exact⟨n+1,by simp only[whN,ht,hb];exact hn⟩
     |ct E2=>obtain⟨n,hn⟩:=ih _ _ h;exact⟨n+1,by simp only[whN,ht,hb];exact hn⟩
     |bk E2=>exact⟨1,by simp only[whN,ht,hb];exact h⟩
     |rt E2 x=>exact⟨1,by simp only[whN,ht,hb];exact h⟩
     |xc E2 c=>exact⟨1,by simp only[whN,ht,hb];exact h⟩
noncomputable def at'{α:Type}(L:List (Option α))(j:Nat):Option α:=(L[j]?).join
noncomputable def clr{α:Type}:List Nat->List (Option α)->List (Option α)
 |[],L=>L
 |j::R,L=>clr R (L.set j none)
noncomputable def back{α:Type}:List Nat->List (Option α)->List (Option α)->List (Option α)
 |j::R,q::B,L=>back R B (L.set j q)
 |_,_,L=>L
noncomputable def V5(k:Nat)(R:List Nat)(E:En):En:=List.replicate k none++R.map (at' E)
noncomputable def Jk(k:Nat)(R:List Nat)(B E:En):En:=back R (B.drop k) (clr R E)
noncomputable def lcL(tg:Tg)(t:Ts)(c:Ex):List D->En->List Sd->Option (Res (List Sd))
 |[],B,acc=>some (.ok B acc)
 |d::ds,B,acc=>match tg.put d B with
  |none=>none
  |some B=>bnd (t B) λB x=>if x then bnd (c B) λB y=>lcL tg t c ds B (acc++[y])else lcL tg t c ds B acc
noncomputable def mkL(o:Own)(E:En)(xs:List Sd):Option (Res Sd):=
 if o=.dp then(if xs.all vK then some (.ok E (.dp,.lst (xs.map (·.2))))else none)else some (.ok E (.rt,.lst (xs.map (·.2))))
noncomputable def cLC(o:Own)(k:Nat)(R:List Nat)(it:Ev (List D))(tg:Tg)(t:Ts)(c:Ex):Ex:=λE=>bnd (it E) λE ds=>
 match lcL tg t c ds (V5 k R E) []with
 |some (.ok B xs)=>mkL o (Jk k R B E) xs
 |some (.exc B e)=>some (.exc (Jk k R B E) e)
 |none=>none
noncomputable def Kj:Option (Option Sd)->Bool
 |some (some (_,.lst _))=>true
 |_=>false
noncomputable def qw(f:List D->D->Option (List D))(i:Nat)(c:Ex):Sm:=λE=>if Kj E[i]? then ofE (c E) λE x=>match E[i]? with
 |some (some (o,.lst xs))=>if o=.no then none else(match f xs x.2 with
  |some ys=>some (.nx (E.set i (some (if o=.dp/\vK x then .dp else .rt,.lst ys))))
  |none=>none)
 |_=>none
 else none
noncomputable def qZ:List D->D->Option (List D):=λxs d=>if xs.length<big then some (xs++[d])else none
noncomputable def JV:D->Option D
 |.int i=>some (.int i)
 |.bl k=>some (.int (if k then 1 else 0))
 |.str z=>if z.length<=640 then(PySem.intText? z).map .int else none
 |_=>none
noncomputable def JJ:Sd->Option Sd:=λx=>match x.2 with
 |.lst xs=>if v6 x then some (.rt,.lst xs)else none
 |.tup xs=>if v6 x then some (.rt,.lst xs)else none
 |_=>none
noncomputable def Jz:Sd->Option Sd:=λx=>match x.2 with
 |.lst xs=>if v6 x then some (.no,.tup xs)else none
 |.tup xs=>if v6 x then some (.no,.tup xs)else none
 |_=>none
noncomputable def wwr:D->D->Option D:=i2 λa b=>some (if b<a then b else a)
noncomputable def seqOf:D->Option (List D)
 |.lst xs=>some xs
 |.tup xs=>some xs
 |.str z=>if z.cps.size<=big then some (z.cps.toList.map λc=>.str ⟨#[c]⟩)else none
 |_=>none
noncomputable def itS(c:Ex):Ev (List D):=λE=>bnd (c E) λE x=>val E (seqOf x.2)
noncomputable def vX(i:Int):Bool:=decide (-(2 ^ 62)<=i)&&decide (i<2 ^ 62)
noncomputable def jV(lo hi:Int):List D:=(List.range (hi - lo).toNat).map λ(k:Nat)=>.int (lo+(k:Int))
noncomputable def wj(c:Ex):Ev (List D):=λE=>bnd (c E) λE x=>match x.2 with
 |.int j=>if vX j/\j.toNat<=big then some (.ok E (jV 0 j))else none
 |_=>none
noncomputable def wqx(c d:Ex):Ev (List D):=λE=>bnd (c E) λE x=>bnd (d E) λE y=>match x.2,y.2 with
 |.int i,.int j=>if vX i/\vX j/\(j - i).toNat<=big then some (.ok E (jV i j))else none
 |_,_=>none
noncomputable def Wk(c:Ex):Ex:=λE=>bnd (c E) λE x=>match x.2 with
 |.int j=>if vX j/\j.toNat<=big then some (.ok E (.rt,.lst (jV 0 j)))else none
 |_=>none
abbrev Fn:=List Sd->Option (Res Sd)
noncomputable def fn(n:Nat)(b:Sm):Fn:=λxs=>match b (xs.map some++List.replicate (n - xs.length) none)with
 |some (.rt E x)=>some (.ok E x)
 |some (.nx E)=>some (.ok E (.dp,.non))
 |some (.xc E c)=>some (.exc E c)
 |_=>none
noncomputable def letAll(xs:List Sd):List Sd:=xs.map λx=>(.no,x.2)
noncomputable def jK(f:Fn)(cs:List Ex):Ex:=λE=>bnd (v4 cs E) λE xs=>match f (letAll xs)with
 |some (.ok _ y)=>some (.ok E y)
 |some (.exc _ c)=>some (.exc E c)
 |none=>none
end Q
namespace Q
open PySem PySem.Spec PyProof.Rows L2 L3
mutual
noncomputable def KY:D->Int
 |.int i=>hashInt i
 |.tup xs=>reduceHash (Builtin.Tuple.tupleHashOf (hashDs xs))
 |_=>4238894112
noncomputable def hashDs:List D->List Int
 |[]=>[]
 |a::x=>KY a::hashDs x
end
noncomputable def Kd:Type:={ d:D // jZ 6 d=true }
instance:DecidableEq Kd:=λa b=>Classical.propDecidable (a=b)
abbrev Ent:=Kd×Addr×Value
noncomputable def qK(a:Addr)(es:List Ent)(ep:Nat):HO:=.ext λh=>∃o ds,h.get? a=some o/\o.ExactDict/\o.data=.dict ds ep/\ds.toList=es.map λx=>(⟨KY x.1.1,.ref x.2.1,x.2.2⟩:DictEntry)
mutual
noncomputable def PuR(K:PySem.W.Frag)(H:Hp):D->V->Prop
 |.non,v=>v=.non
 |.int i,v=>v=.int i
 |.tup ds,v=>∃a xs,v=.ref a/\SqT K H a xs/\PuRs K H ds xs
 |_,_=>False
noncomputable def PuRs(K:PySem.W.Frag)(H:Hp):List D->List V->Prop
 |[],xs=>xs=[]
 |d::ds,xs=>∃x r,xs=x::r/\PuR K H d x/\PuRs K H ds r
end
noncomputable def DcN(K:PySem.W.Frag)(H:Hp)(a:Addr)(ks:List D)(vs:List V):Prop:=∃(es:List Ent) (ep:Nat),H a=some (qK a es ep)/\(a==sysModules)=false/\es.length<=sizeLine/\(es.map (·.1)).Nodup/\ks=es.map (·.1.1)/\(∀x∈es,PuR K H x.1.1 (.ref x.2.1))/\Vals vs (es.map (·.2.2))
noncomputable def DcI(H:Hp)(a:Addr)(ks:List D)(vs:List V):Prop:=∃(kv:List (Int×V)) (m:Str),H a=some (.dK (kv.map λp=>(Sum.inl p.1,p.2)))/\ks=.str m::kv.map (λp=>D.int p.1)/\vs=.non::kv.map (·.2)
noncomputable def DcA(K:PySem.W.Frag)(H:Hp)(a:Addr)(ks:List D)(vs:List V):Prop:=DcN K H a ks vs\/DcI H a ks vs
theorem DcA.un{K:PySem.W.Frag}{H:Hp}{a:Addr}{kvs:List (D×D)}{vs:List V}(h:DcA K H a (kvs.map (·.1)) vs)(hu:unm kvs=true):DcN K H a (kvs.map (·.1)) vs:=by
 rcases h with h|⟨kv,m,_,h,_⟩
 ·exact h
 ·cases kvs with
  |nil=>cases h
  |cons p r=>
   obtain⟨k,d⟩:=p;rw[List.map_cons]at h;injection h with h1 _;have h1:k=.str m:=h1;subst h1;cases hu
noncomputable def wz0(K:PySem.W.Frag)(a:Addr)(xs:List V):Prop:=∃(ak:Array Value) (n:Nat),K.lookup a=some { cls:=.type "list",data:=.seq ak n }/\ak.size<=sizeLine/\Vals xs ak.toList
noncomputable def wv6(K:PySem.W.Frag)(H:Hp)(a:Addr)(xs:List V):Prop:=(∃o,H a=some (.frz o (.lst xs)))\/wz0 K a xs
noncomputable def LsR(K:PySem.W.Frag)(H:Hp)(a:Addr)(xs:List V):Prop:=Rd H a (.lst xs)\/wz0 K a xs
theorem LsR.of{K:PySem.W.Frag}{H:Hp}{a:Addr}{xs:List V}(h:wv6 K H a xs):LsR K H a xs:=h.imp .inr id
theorem LsR.sq{K:PySem.W.Frag}{H:Hp}{a:Addr}{xs:List V}(h:LsR K H a xs):SqL K H a xs:=by
 rcases h with h|⟨ak,n,h1,h2,h3⟩
 ·exact .inl h
 ·exact .inr ⟨_,ak,n,h1,rfl,rfl,rfl,h2,h3⟩
theorem LsR.is{X:Cx}{pins:List (Addr×Obj)}{σ:L2.St}{H:Hp}{s:Shared}{a:Addr}{xs:List V}(I:L2.Inv X pins σ H s)(h:LsR X.K H a xs):xs.length<=sizeLine/\∃(ak:List Value) (n:Nat),Vals xs ak/\s.heap.get? a=some { cls:=.type "list",data:=.seq ak.toArray n }:=by
 rcases h with h|⟨ak,n,h1,h2,h3⟩
 ·obtain⟨z,ak,n,r,e⟩:=h.ok I.hok;exact⟨z,ak,n,r,e⟩
 ·have hl:=h3.length;simp only[Ya]at hl;exact⟨by omega,ak.toList,n,h3,by simpa using I.kIn a _ h1⟩
noncomputable def ExD(K:PySem.W.Frag)(H:Hp)(c:Str)(v:V):Prop:=∃x o C,v=.ref x/\H x=some (.frz o (.ext λ_=>True))/\ExAt K x o C/\PySem.W.nsIn K mainGlobals c=some (some (.ref C))
mutual
noncomputable def RepL(K:PySem.W.Frag)(H:Hp)(g:Bool):D->V->List Addr->Prop
 |.non,v,as=>v=.non/\as=[]
 |.bl b,v,as=>v=.bl b/\as=[]
 |.int i,v,as=>v=.int i/\as=[]
 |.str z,v,as=>v=.str z/\as=[]/\z.length<=sizeLine
 |.tup ds,v,as=>∃a xs,v=.ref a/\SqT K H a xs/\RepA K H g ds xs as
 |.lst ds,v,as=>∃a xs bs,v=.ref a/\RepA K H g ds xs bs/\((H a=some (.lst xs)/\as=a::bs)\/(g=true/\wv6 K H a xs/\as=bs))
 |.dct kvs,v,as=>∃a xs bs,v=.ref a/\RepP K H g kvs xs bs/\DcA K H a (kvs.map (·.1)) xs/\as=a::bs
 |.obj c _,v,as=>as=[]/\ExD K H c v
noncomputable def RepA(K:PySem.W.Frag)(H:Hp)(g:Bool):List D->List V->List Addr->Prop
 |[],xs,as=>xs=[]/\as=[]
 |d::ds,xs,as=>∃x r bs cs,xs=x::r/\as=bs++cs/\RepL K H g d x bs/\RepA K H g ds r cs
noncomputable def RepP(K:PySem.W.Frag)(H:Hp)(g:Bool):List (D×D)->List V->List Addr->Prop
 |[],xs,as=>xs=[]/\as=[]
 |(_,d)::ds,xs,as=>∃x r bs cs,xs=x::r/\as=bs++cs/\RepL K H g d x bs/\RepP K H g ds r cs
end
noncomputable def RepR(K:PySem.W.Frag)(H:Hp):D->V->List Addr->Prop
 |.lst ds,v,as=>∃a xs bs,v=.ref a/\RepA K H true ds xs bs/\H a=some (.lst xs)/\as=a::bs
 |.dct kvs,v,as=>∃a xs bs,v=.ref a/\RepP K H true kvs xs bs/\DcA K H a (kvs.map (·.1)) xs/\as=a::bs
 |_,_,_=>False
noncomputable def RepO(K:PySem.W.Frag)(H:Hp):Own->D->V->List Addr->Prop
 |.no=>RepL K H true
 |.rt=>RepR K H
 |.dp=>RepL K H false
section
variable {K:PySem.W.Frag}{H H':Hp}
noncomputable def Kp(H H':Hp)(as:List Addr):Prop:=(∀a xs,H a=some (.tup xs)->H' a=some (.tup xs))/\(∀a o u,H a=some (.frz o u)->H' a=some (.frz o u))/\∀a∈as,∀ob,H a=some ob->H' a=some ob
theorem Kp.left{as bs:List Addr}(k:Kp H H' (as++bs)):Kp H H' as:=⟨k.1,k.2.1,λa ha=>k.2.2 a (ll9 _ ha)⟩
theorem Kp.right{as bs:List Addr}(k:Kp H H' (as++bs)):Kp H H' bs:=⟨k.1,k.2.1,λa ha=>k.2.2 a (lr9 _ ha)⟩
theorem Kp.tail{a:Addr}{bs:List Addr}(k:Kp H H' (a::bs)):Kp H H' bs:=⟨k.1,k.2.1,λb hb=>k.2.2 b (lc9 _ hb)⟩
theorem Kp.tupT{as:List Addr}{a:Addr}{xs:List V}(k:Kp H H' as)(h:SqT K H a xs):SqT K H' a xs:=by
 rcases h with(h|⟨o,h⟩)|h
 ·exact .inl (.inl (k.1 a xs h))
 ·exact .inl (.inr ⟨o,k.2.1 a o _ h⟩)
 ·exact .inr h
theorem Kp.frzL{as:List Addr}{a:Addr}{xs:List V}(k:Kp H H' as)(h:wv6 K H a xs):wv6 K H' a xs:=by
 rcases h with⟨o,h⟩|h
 ·exact .inl ⟨o,k.2.1 a o _ h⟩
 ·exact .inr h
mutual
theorem PuR.kp{as:List Addr}(k:Kp H H' as):∀{d:D} {v:V},PuR K H d v->PuR K H' d v
 |.non,_,h=>by unfold PuR at h ⊢;exact h
 |.int _,_,h=>by unfold PuR at h ⊢;exact h
 |.tup ds,_,h=>by
  unfold PuR at h ⊢;obtain⟨a,xs,e,s,r⟩:=h;exact⟨a,xs,e,k.tupT s,PuRs.kp k r⟩
 |.bl _,_,h=>by unfold PuR at h;exact h.elim
 |.str _,_,h=>by unfold PuR at h;exact h.elim
 |.lst _,_,h=>by unfold PuR at h;exact h.elim
 |.dct _,_,h=>by unfold PuR at h;exact h.elim
 |.obj _ _,_,h=>by unfold PuR at h;exact h.elim
theorem PuRs.kp{as:List Addr}(k:Kp H H' as):∀{ds:List D} {xs:List V},PuRs K H ds xs->PuRs K H' ds xs
 |[],_,h=>by unfold PuRs at h ⊢;exact h
 |d::ds,_,h=>by
  unfold PuRs at h ⊢;obtain⟨x,r,e,h1,h2⟩:=h;exact⟨x,r,e,PuR.kp k h1,PuRs.kp k h2⟩
end
theorem Kp.dcn{a:Addr}{bs:List Addr}{ks:List D}{vs:List V}(k:Kp H H' (a::bs))(h:DcN K H a ks vs):DcN K H' a ks vs:=by
 obtain⟨es,ep,e,h1,h2,h3,h4,h5,h6⟩:=h;exact⟨es,ep,k.2.2 a X2 _ e,h1,h2,h3,h4,λx hx=>PuR.kp k (h5 x hx),h6⟩
theorem Kp.dca{a:Addr}{bs:List Addr}{ks:List D}{vs:List V}(k:Kp H H' (a::bs))(h:DcA K H a ks vs):DcA K H' a ks vs:=by
 rcases h with h|⟨kv,m,e,h⟩
 ·exact .inl (k.dcn h)
 ·exact .inr ⟨kv,m,k.2.2 a X2 _ e,h⟩
theorem Kp.of_same{as:List Addr}(s:kj H H'):Kp H H' as:=⟨λa xs h=>s a _ h,λa o u h=>s a _ h,λa _ ob h=>s a ob h⟩
mutual
theorem RepL.kp{g:Bool}:∀{d:D} {v:V} {as:List Addr},RepL K H g d v as->Kp H H' as->RepL K H' g d v as
 | .non,_,_,h,_=>by unfold RepL at h ⊢;exact h
 | .bl _,_,_,h,_=>by unfold RepL at h ⊢;exact h
 | .int _,_,_,h,_=>by unfold RepL at h ⊢;exact h
 | .str _,_,_,h,_=>by unfold RepL at h ⊢;exact h
 | .tup ds,_,_,h,k=>by
  unfold RepL at h ⊢;obtain⟨a,xs,e,s,r⟩:=h;exact⟨a,xs,e,k.tupT s,RepA.kp r k⟩
 | .lst ds,_,_,h,k=>by
  unfold RepL at h ⊢;obtain⟨a,xs,bs,e,r,q⟩:=h;refine⟨a,xs,bs,e,?_,?_⟩
  ·rcases q with⟨_,rfl⟩|⟨_,_,rfl⟩
   ·exact RepA.kp r k.tail
   ·exact RepA.kp r k
  ·rcases q with⟨h1,rfl⟩|⟨hg,h1,rfl⟩
   ·exact .inl ⟨k.2.2 a X2 _ h1,rfl⟩
   ·exact .inr ⟨hg,k.frzL h1,rfl⟩
 |.dct kvs,_,_,h,k=>by
  unfold RepL at h ⊢;obtain⟨a,xs,bs,e,r,q,rfl⟩:=h;exact⟨a,xs,bs,e,RepP.kp r k.tail,k.dca q,rfl⟩
 |.obj _ _,_,_,h,k=>by
  unfold RepL at h ⊢;obtain⟨e,x,o,C,h1,h2,h3⟩:=h;exact⟨e,x,o,C,h1,k.2.1 _ _ _ h2,h3⟩
theorem RepA.kp{g:Bool}:∀{ds:List D} {xs:List V} {as:List Addr},RepA K H g ds xs as->Kp H H' as->RepA K H' g ds xs as
 |[],_,_,h,_=>by unfold RepA at h ⊢;exact h
 |d::ds,_,_,h,k=>by
  unfold RepA at h ⊢;obtain⟨x,r,bs,cs,e1,rfl,h1,h2⟩:=h;exact⟨x,r,bs,cs,e1,rfl,RepL.kp h1 k.left,RepA.kp h2 k.right⟩
theorem RepP.kp{g : Bool}: ∀{ds : List (D × D)} {xs : List V} {as : List Addr}, RepP K H g ds xs as -> Kp H H' as -> RepP K H' g ds xs as
  | [], _, _, h, _=>by unfold RepP at h ⊢; exact h
  | (q, d)::ds, _, _, h, k=>by
    unfold RepP at h ⊢;obtain⟨x, r, bs, cs, e1, rfl, h1, h2⟩:= h;exact⟨x, r, bs, cs, e1, rfl, RepL.kp h1 k.left, RepP.kp h2 k.right⟩
end
mutual
theorem RepL.wk:∀{d:D} {v:V} {as:List Addr},RepL K H false d v as->RepL K H true d v as
 |.non,_,_,h=>by unfold RepL at h ⊢;exact h
 |.bl _,_,_,h=>by unfold RepL at h ⊢;exact h
 |.int _,_,_,h=>by unfold RepL at h ⊢;exact h
 |.str _,_,_,h=>by unfold RepL at h ⊢;exact h
 |.tup ds,_,_,h=>by
  unfold RepL at h ⊢;obtain⟨a,xs,e,s,r⟩:=h;exact⟨a,xs,e,s,RepA.wk r⟩
 |.lst ds,_,_,h=>by
  unfold RepL at h ⊢;obtain⟨a,xs,bs,e,r,q⟩:=h;refine⟨a,xs,bs,e,RepA.wk r,?_⟩;rcases q with q|⟨z,_⟩
  ·exact .inl q
  ·cases z
 |.dct kvs,_,_,h=>by
  unfold RepL at h ⊢;obtain⟨a,xs,bs,e,r,q,z⟩:=h;exact⟨a,xs,bs,e,RepP.wk r,q,z⟩
 |.obj _ _,_,_,h=>by unfold RepL at h ⊢;exact h
theorem RepA.wk:∀{ds:List D} {xs:List V} {as:List Addr},RepA K H false ds xs as->RepA K H true ds xs as
 |[],_,_,h=>by unfold RepA at h ⊢;exact h
 |d::ds,_,_,h=>by
  unfold RepA at h ⊢;obtain⟨x,r,bs,cs,e1,e2,h1,h2⟩:=h;exact⟨x,r,bs,cs,e1,e2,RepL.wk h1,RepA.wk h2⟩
theorem RepP.wk : ∀{ds : List (D × D)} {xs : List V} {as : List Addr}, RepP K H false ds xs as -> RepP K H true ds xs as
  | [], _, _, h=>by unfold RepP at h ⊢; exact h
  | (q, d)::ds, _, _, h=>by
    unfold RepP at h ⊢;obtain⟨x, r, bs, cs, e1, e2, h1, h2⟩:= h;exact⟨x, r, bs, cs, e1, e2, RepL.wk h1, RepP.wk h2⟩
end
mutual
theorem RepL.al{g:Bool}:∀{d:D} {v:V} {as:List Addr},RepL K H g d v as->∀a∈as,(∃xs,H a=some (.lst xs))\/(∃ φ,H a=some (.ext φ))\/∃kvs,H a=some (.dK kvs)
 | .non,_,_,h=>by unfold RepL at h;rw[h.2];exact λ_ z=>nomatch z
 | .bl _,_,_,h=>by unfold RepL at h;rw[h.2];exact λ_ z=>nomatch z
 | .int _,_,_,h=>by unfold RepL at h;rw[h.2];exact λ_ z=>nomatch z
 | .str _,_,_,h=>by unfold RepL at h;rw[h.2.1];exact λ_ z=>nomatch z
 | .tup ds,_,_,h=>by
  unfold RepL at h;obtain⟨a,xs,e,s,r⟩:=h;exact RepA.al r
 | .lst ds,_,_,h=>by
  unfold RepL at h;obtain⟨a,xs,bs,e,r,q⟩:=h;rcases q with⟨h1,rfl⟩|⟨_,_,rfl⟩
  ·intro b hb;rcases List.mem_cons.mp hb with rfl|hb
   ·exact .inl ⟨_,h1⟩
   ·exact RepA.al r b hb
  ·exact RepA.al r
 | .dct kvs,_,_,h=>by
  unfold RepL at h;obtain⟨a,xs,bs,e,r,q,rfl⟩:=h;intro b hb;rcases List.mem_cons.mp hb with rfl|hb
  ·rcases q with⟨es,ep,q,_⟩|⟨kv,m,q,_⟩
   ·exact .inr (.inl ⟨_,q⟩)
   ·exact .inr (.inr ⟨_,q⟩)
  ·exact RepP.al r b hb
 |.obj _ _,_,_,h=>by unfold RepL at h;rw[h.1];exact λ_ z=>nomatch z
theorem RepA.al{g:Bool}:∀{ds:List D} {xs:List V} {as:List Addr},RepA K H g ds xs as->∀a∈as,(∃xs,H a=some (.lst xs))\/(∃ φ,H a=some (.ext φ))\/∃kvs,H a=some (.dK kvs)
 |[],_,_,h=>by unfold RepA at h;rw[h.2];exact λ_ z=>nomatch z
 |d::ds,_,_,h=>by
  unfold RepA at h;obtain⟨x,r,bs,cs,e1,rfl,h1,h2⟩:=h;intro a ha;rcases List.mem_append.mp ha with ha|ha
  ·exact RepL.al h1 a ha
  ·exact RepA.al h2 a ha
theorem RepP.al{g : Bool}: ∀{ds : List (D × D)} {xs : List V} {as : List Addr}, RepP K H g ds xs as -> ∀a ∈ as, (∃xs, H a = some (.lst xs)) \/ (∃ φ, H a = some (.ext φ)) \/ ∃kvs, H a = some (.dK kvs)
  | [], _, _, h=>by unfold RepP at h; rw[h.2]; exact λ_ z=>nomatch z
  | (_, d)::ds, _, _, h=>by
    unfold RepP at h;obtain⟨x, r, bs, cs, e1, rfl, h1, h2⟩:= h;intro a ha;rcases List.mem_append.mp ha with ha|ha
    · exact RepL.al h1 a ha
    · exact RepP.al h2 a ha
end
mutual
theorem RepL.pu{g g':Bool}:∀{d:D} {v:V} {as:List Addr},RepL K H g d v as->d.pure=true->as=[]/\RepL K H g' d v []
 |.non,_,_,h,_=>by unfold RepL at h ⊢;exact⟨h.2,h.1,rfl⟩
 |.bl _,_,_,h,_=>by unfold RepL at h ⊢;exact⟨h.2,h.1,rfl⟩
 |.int _,_,_,h,_=>by unfold RepL at h ⊢;exact⟨h.2,h.1,rfl⟩
 |.str _,_,_,h,_=>by unfold RepL at h ⊢;exact⟨h.2.1,h.1,rfl,h.2.2⟩
 |.tup ds,_,_,h,p=>by
  unfold RepL at h ⊢;obtain⟨a,xs,e,s,r⟩:=h;obtain⟨z,r'⟩:=RepA.pu (g':=g') r (by unfold D.pure at p;exact p);exact⟨z,a,xs,e,s,r'⟩
 |.lst ds,_,_,h,p=>by unfold D.pure at p;cases p
 |.dct ds,_,_,h,p=>by unfold D.pure at p;cases p
 |.obj _ _,_,_,h,p=>by unfold D.pure at p;cases p
theorem RepA.pu{g g':Bool}:∀{ds:List D} {xs:List V} {as:List Addr},RepA K H g ds xs as->D.pures ds=true->as=[]/\RepA K H g' ds xs []
 |[],_,_,h,_=>by unfold RepA at h ⊢;exact⟨h.2,h.1,rfl⟩
 |d::ds,_,_,h,p=>by
  unfold RepA at h ⊢;unfold D.pures at p;rw[Bool.and_eq_true]at p;obtain⟨x,r,bs,cs,e1,rfl,h1,h2⟩:=h;obtain⟨rfl,q1⟩:=RepL.pu (g':=g') h1 p.1;obtain⟨rfl,q2⟩:=RepA.pu (g':=g') h2 p.2;exact⟨rfl,x,r,[],[],e1,rfl,q1,q2⟩
end
theorem RepR.wk:∀{d:D} {v:V} {as:List Addr},RepR K H d v as->RepL K H true d v as
 |.lst ds,_,_,h=>by
  obtain⟨a,xs,bs,e,r,q,z⟩:=h;unfold RepL;exact⟨a,xs,bs,e,r,.inl ⟨q,z⟩⟩
 |.dct kvs,_,_,h=>by
  obtain⟨a,xs,bs,e,r,q,z⟩:=h;unfold RepL;exact⟨a,xs,bs,e,r,q,z⟩
theorem RepR.kp:∀{d:D} {v:V} {as:List Addr},RepR K H d v as->Kp H H' as->RepR K H' d v as
 |.lst ds,_,_,h,k=>by
  obtain⟨a,xs,bs,e,r,q,rfl⟩:=h;exact⟨a,xs,bs,e,r.kp k.tail,k.2.2 a X2 _ q,rfl⟩
 |.dct kvs,_,_,h,k=>by
  obtain⟨a,xs,bs,e,r,q,rfl⟩:=h;exact⟨a,xs,bs,e,r.kp k.tail,k.dca q,rfl⟩
theorem RepO.wk:∀{o:Own} {d:D} {v:V} {as:List Addr},RepO K H o d v as->RepL K H true d v as
 |.no,_,_,_,h=>h
 |.rt,_,_,_,h=>RepR.wk h
 |.dp,_,_,_,h=>RepL.wk h
theorem RepO.kp:∀{o:Own} {d:D} {v:V} {as:List Addr},RepO K H o d v as->Kp H H' as->RepO K H' o d v as
 |.no,_,_,_,h,k=>RepL.kp h k
 |.rt,_,_,_,h,k=>RepR.kp h k
 |.dp,_,_,_,h,k=>RepL.kp h k
end
structure Sl where
 o:Own
 d:D
 v:V
 as:List Addr
noncomputable def Sl.own(x:Sl):List Addr:=match x.o with
 |.no=>[]
 |.rt=>x.as.take 1
 |.dp=>x.as
noncomputable def Sl.frz(x:Sl):List Addr:=match x.o with
 |.no=>x.as
 |.rt=>x.as.drop 1
 |.dp=>[]
theorem Sl.parts(x:Sl):x.own++x.frz=x.as:=by
 unfold Sl.own Sl.frz;cases x.o with
 |no=>rfl
 |rt=>exact List.take_append_drop 1 x.as
 |dp=>exact Xr _
theorem Sl.own_as{x:Sl}{a:Addr}(h:a∈x.own):a∈x.as:=by rw[<-x.parts];exact ll9 _ h
theorem Sl.frz_as{x:Sl}{a:Addr}(h:a∈x.frz):a∈x.as:=by rw[<-x.parts];exact lr9 _ h
theorem Sl.as_of{x:Sl}{a:Addr}(h:a∈x.as):a∈x.own\/a∈x.frz:=by rw[<-x.parts]at h;exact List.mem_append.mp h
noncomputable def Sl.let(x:Sl):Sl:={ x with o:=.no }
abbrev Ls:=List (Option Sl)
noncomputable def j7(L:Ls):List Addr:=L.flatMap λx=>x.elim [] Sl.own
noncomputable def jW(L:Ls):List Addr:=L.flatMap λx=>x.elim [] Sl.frz
@[simp] theorem wjt:j7 []=[]:=rfl
@[simp] theorem vxr:jW []=[]:=rfl
@[simp] theorem jz (x:Sl)(L:Ls):j7 (some x::L)=x.own++j7 L:=by simp[j7]
@[simp] theorem qk (x:Sl)(L:Ls):jW (some x::L)=x.frz++jW L:=by simp[jW]
@[simp] theorem qkw (L:Ls):j7 (none::L)=j7 L:=by simp[j7]
@[simp] theorem kzj (L:Ls):jW (none::L)=jW L:=by simp[jW]
@[simp] theorem k6 (L T:Ls):j7 (L++T)=j7 L++j7 T:=by simp[j7]
@[simp] theorem qv (L T:Ls):jW (L++T)=jW L++jW T:=by simp[jW]
theorem mem_owned{L:Ls}{a:Addr}:a∈j7 L↔∃x,some x∈L/\a∈x.own:=by
 unfold j7;rw[List.mem_flatMap];constructor
 ·rintro ⟨y,hy,h⟩;cases y with
  |none=>exact nomatch h
  |some x=>exact⟨x,hy,h⟩
 ·rintro ⟨x,hx,h⟩;exact⟨some x,hx,h⟩
theorem mem_frozen{L:Ls}{a:Addr}:a∈jW L↔∃x,some x∈L/\a∈x.frz:=by
 unfold jW;rw[List.mem_flatMap];constructor
 ·rintro ⟨y,hy,h⟩;cases y with
  |none=>exact nomatch h
  |some x=>exact⟨x,hy,h⟩
 ·rintro ⟨x,hx,h⟩;exact⟨some x,hx,h⟩
noncomputable def Sl.ok(K:PySem.W.Frag)(H:Hp)(x:Sl):Prop:=RepO K H x.o x.d x.v x.as
theorem Sl.ok.al{K:PySem.W.Frag}{H:Hp}{x:Sl}(h:x.ok K H):∀a∈x.as,(∃xs,H a=some (.lst xs))\/(∃ φ,H a=some (.ext φ))\/∃kvs,H a=some (.dK kvs):=(RepO.wk h).al
theorem Sl.ok.some{K:PySem.W.Frag}{H:Hp}{x:Sl}(h:x.ok K H){a:Addr}(ha:a∈x.as):H a≠none:=λz=>by
 rcases h.al a ha with⟨xs,e⟩|⟨xs,e⟩|⟨xs,e⟩<;>(rw[z]at e;cases e)
structure World (K:PySem.W.Frag)(H:Hp)(L:Ls):Prop where
 ok:∀x,some x∈L->x.ok K H
 nd:(j7 L).Nodup
 ds:∀a∈j7 L,a∉jW L
structure Step (H:Hp)(L:Ls)(H':Hp)(L':Ls):Prop where
 keep:∀a ob,H a=some ob->a∉j7 L->H' a=some ob
 own:∀a∈j7 L',a∈j7 L\/H a=none
 frz:∀a∈jW L',a∈jW L\/a∈j7 L\/H a=none
section
variable {K:PySem.W.Frag}{H H1 H2 H':Hp}{L L1 L2' L' T:Ls}{x y:Sl}
theorem World.own_al(w:World K H L){a:Addr}(h:a∈j7 L):(∃xs,H a=some (.lst xs))\/(∃ φ,H a=some (.ext φ))\/∃kvs,H a=some (.dK kvs):=by
 obtain⟨x,hx,ha⟩:=mem_owned.mp h;exact(w.ok x hx).al a (Sl.own_as ha)
theorem World.own_some(w:World K H L){a:Addr}(h:a∈j7 L):H a≠none:=by
 obtain⟨x,hx,ha⟩:=mem_owned.mp h;exact(w.ok x hx).some (Sl.own_as ha)
theorem World.frz_some(w:World K H L){a:Addr}(h:a∈jW L):H a≠none:=by
 obtain⟨x,hx,ha⟩:=mem_frozen.mp h;exact(w.ok x hx).some (Sl.frz_as ha)
theorem Step.refl:Step H L H L:=⟨λ_ _ h _=>h,λ_ h=>.inl h,λ_ h=>.inl h⟩
theorem Step.trans(a:Step H L H1 L1)(b:Step H1 L1 H2 L2'):Step H L H2 L2' where
 keep:=λc ob h hn=>b.keep c ob (a.keep c ob h hn) λz=>(a.own c z).elim hn λe=>by rw[h]at e;cases e
 own:=λc hc=>by
  rcases b.own c hc with z|z
  ·exact a.own c z
  ·by_cases h:c∈j7 L
   ·exact .inl h
   ·refine .inr ?_;cases e:H c with
    |none=>rfl
    |some ob=>rw[a.keep c ob e h]at z;cases z
 frz:=λc hc=>by
  rcases b.frz c hc with z|z|z
  ·exact a.frz c z
  ·exact .inr (a.own c z)
  ·by_cases h:c∈j7 L
   ·exact .inr (.inl h)
   ·refine .inr (.inr ?_);cases e:H c with
    |none=>rfl
    |some ob=>rw[a.keep c ob e h]at z;cases z
theorem Step.kp(a:Step H L H' L')(w:World K H L){as:List Addr}(h:∀b∈as,b∉j7 L):Kp H H' as:=by
 have no:∀b ob,H b=some ob->(∀xs,ob≠.lst xs)->(∀ φ,ob≠.ext φ)->(∀kvs,ob≠.dK kvs)->H' b=some ob:=λb ob e h1 h2 h3=>a.keep b ob e λz=>by
  rcases w.own_al z with⟨xs,q⟩|⟨es,q⟩|⟨es,q⟩
  ·rw[e]at q;cases q;exact h1 _ rfl
  ·rw[e]at q;cases q;exact h2 _ rfl
  ·rw[e]at q;cases q;exact h3 _ rfl
 exact⟨λb xs e=>no b _ e (λ_ z=>(nomatch z)) (λ_ z=>(nomatch z)) (λ_ z=>(nomatch z)),λb o u e=>no b _ e (λ_ z=>(nomatch z)) (λ_ z=>(nomatch z)) (λ_ z=>(nomatch z)),λb hb ob e=>a.keep b ob e (h b hb)⟩
theorem Step.frame(a:Step H L H' L')(w:World K H (L++T))(w':World K H' L')(wL:World K H L):World K H' (L'++T):=by
 have nd:=w.nd;rw [k6,X7]at nd;have dis:∀b∈j7 L,b∉j7 T:=λb hb hT=>nd.2.2 b hb b hT rfl
 have ji:∀x,some x∈T->x.ok K H:=λx hx=>w.ok x (lr9 _ hx)
 have nT:∀x,some x∈T->∀b∈x.as,b∉j7 L:=λx hx b hb hL=>by
  rcases Sl.as_of hb with z|z
  ·exact dis b hL (mem_owned.mpr ⟨x,hx,z⟩)
  ·refine w.ds b (by rw[k6];exact ll9 _ hL) ?_;rw[qv];exact lr9 _ (mem_frozen.mpr ⟨x,hx,z⟩)
 refine⟨λx hx=>?_,?_,λb hb=>?_⟩
 ·rcases List.mem_append.mp hx with hx|hx
  ·exact w'.ok x hx
  ·exact(ji x hx).kp (a.kp wL (nT x hx))
 ·rw[k6,X7];refine⟨w'.nd,nd.2.1,λb hb c hc e=>?_⟩;subst e;obtain⟨x,hx,gw⟩:=mem_owned.mp hc;rcases a.own b hb with z|z
  ·exact dis b z hc
  ·exact(ji x hx).some (Sl.own_as gw) z
 ·rw[k6]at hb;rw[qv];intro hf;rcases List.mem_append.mp hb with hb|hb
  ·rcases List.mem_append.mp hf with hf|hf
   ·exact w'.ds b hb hf
   ·obtain⟨x,hx,gw⟩:=mem_frozen.mp hf;rcases a.own b hb with z|z
    ·exact nT x hx b (Sl.frz_as gw) z
    ·exact(ji x hx).some (Sl.frz_as gw) z
  ·rcases List.mem_append.mp hf with hf|hf
   ·obtain⟨x,hx,gw⟩:=mem_owned.mp hb;rcases a.frz b hf with z|z|z
    ·exact w.ds b (by rw[k6];exact lr9 _ hb) (by rw[qv];exact ll9 _ z)
    ·exact dis b z hb
    ·exact(ji x hx).some (Sl.own_as gw) z
   ·exact w.ds b (by rw[k6];exact lr9 _ hb) (by rw[qv];exact lr9 _ hf)
theorem World.left(w:World K H (L++T)):World K H L:=by
 have nd:=w.nd;rw[k6,X7]at nd;exact⟨λx hx=>w.ok x (ll9 _ hx),nd.1,λa ha hf=>w.ds a (by rw[k6];exact ll9 _ ha) (by rw[qv];exact ll9 _ hf)⟩
theorem World.right(w:World K H (L++T)):World K H T:=by
 have nd:=w.nd;rw[k6,X7]at nd;exact⟨λx hx=>w.ok x (lr9 _ hx),nd.2.1,λa ha hf=>w.ds a (by rw[k6];exact lr9 _ ha) (by rw[qv];exact lr9 _ hf)⟩
theorem World.comm(w:World K H (L++T)):World K H (T++L):=by
 refine⟨λx hx=>w.ok x ?_,?_,λa ha hf=>w.ds a ?_ ?_⟩
 ·rcases List.mem_append.mp hx with h|h
  ·exact lr9 _ h
  ·exact ll9 _ h
 ·have nd:=w.nd;rw[k6,X7]at nd ⊢;exact⟨nd.2.1,nd.1,λa ha b hb e=>nd.2.2 b hb a ha e.symm⟩
 ·rw[k6]at ha ⊢;rcases List.mem_append.mp ha with h|h
  ·exact lr9 _ h
  ·exact ll9 _ h
 ·rw[qv]at hf ⊢;rcases List.mem_append.mp hf with h|h
  ·exact lr9 _ h
  ·exact ll9 _ h
theorem World.tail{q:Option Sl}(w:World K H (q::L)):World K H L:=World.right (L:=[q]) w
theorem World.head(w:World K H (some x::L)):x.ok K H:=w.ok x X2
theorem World.apart(w:World K H (some x::L)):∀a∈x.as,a∉j7 L:=λa ha hL=>by
 rcases Sl.as_of ha with z|z
 ·have nd:=w.nd;rw[jz,X7]at nd;exact nd.2.2 a z a hL rfl
 ·exact w.ds a (by rw[jz];exact lr9 _ hL) (by rw[qk];exact ll9 _ z)
theorem World.cons(w:World K H L)(h:x.ok K H)(n:x.own.Nodup)(h1:∀a∈x.own,a∉j7 L)(h2:∀a∈x.own,a∉jW L)(h3:∀a∈x.frz,a∉j7 L)(h4:∀a∈x.own,a∉x.frz):World K H (some x::L):=by
 refine⟨λy hy=>?_,?_,λa ha hf=>?_⟩
 ·rcases List.mem_cons.mp hy with z|z
  ·cases z;exact h
  ·exact w.ok y z
 ·rw[jz,X7];exact⟨n,w.nd,λa ha b hb e=>by subst e;exact h1 a ha hb⟩
 ·rw[jz]at ha;rw[qk]at hf;rcases List.mem_append.mp ha with ha|ha
  ·rcases List.mem_append.mp hf with hf|hf
   ·exact h4 a ha hf
   ·exact h2 a ha hf
  ·rcases List.mem_append.mp hf with hf|hf
   ·exact h3 a hf ha
   ·exact w.ds a ha hf
theorem World.consNo(w:World K H L)(h:x.ok K H)(ho:x.o=.no)(h3:∀a∈x.as,a∉j7 L):World K H (some x::L):=by
 have e1:x.own=[]:=by unfold Sl.own;rw[ho]
 have e2:x.frz=x.as:=by unfold Sl.frz;rw[ho]
 exact w.cons h (by rw[e1];exact Xs) (by rw[e1];exact λ_ z=>nomatch z) (by rw[e1];exact λ_ z=>nomatch z) (by rw[e2];exact h3) (by rw[e1];exact λ_ z=>nomatch z)
theorem World.consPu(w:World K H L)(h:x.ok K H)(e:x.as=[]):World K H (some x::L):=by
 have e1:∀a,a∉x.own:=λa ha=>by have:=Sl.own_as ha;rw[e]at this;exact nomatch this
 have e2:∀a,a∉x.frz:=λa ha=>by have:=Sl.frz_as ha;rw[e]at this;exact nomatch this
 have e3:x.own=[]:=List.eq_nil_iff_forall_not_mem.mpr e1;exact w.cons h (by rw[e3];exact Xs) (λa z=>absurd z (e1 a)) (λa z=>absurd z (e1 a)) (λa z=>absurd z (e2 a)) (λa z=>absurd z (e1 a))
theorem jqp{L:Ls}{i:Nat}{q:Option Sl}(h:some y∈L.set i q):q=some y\/some y∈L:=by
 rcases List.mem_or_eq_of_mem_set h with z|z
 ·exact .inr z
 ·exact .inl z.symm
theorem W7{i:Nat}{a:Addr}(h:a∈j7 (L.set i (some x))):a∈x.own\/a∈j7 L:=by
 obtain⟨y,hy,ha⟩:=mem_owned.mp h;rcases jqp hy with z|z
 ·cases z;exact .inl ha
 ·exact .inr (mem_owned.mpr ⟨y,z,ha⟩)
theorem ZW{i:Nat}{a:Addr}(h:a∈jW (L.set i (some x))):a∈x.frz\/a∈jW L:=by
 obtain⟨y,hy,ha⟩:=mem_frozen.mp h;rcases jqp hy with z|z
 ·cases z;exact .inl ha
 ·exact .inr (mem_frozen.mpr ⟨y,z,ha⟩)
theorem jqh:∀{L:Ls} {i:Nat},(x.own++j7 L).Nodup->(j7 (L.set i (some x))).Nodup
 |[],_,h=>by simp
 |q::L,0,h=>by
  rw[List.set_cons_zero,jz];have e:j7 (q::L)=q.elim [] Sl.own++j7 L:=by simp[j7]
  rw[e,X7]at h;obtain⟨h1,h2,h3⟩:=h;rw[X7]at h2 ⊢;exact⟨h1,h2.2.1,λa ha b hb=>h3 a ha b (lr9 _ hb)⟩
 |q::L,i+1,h=>by
  rw[List.set_cons_succ];have e:∀M:Ls,j7 (q::M)=q.elim [] Sl.own++j7 M:=λM=>by simp[j7]
  rw[e]at h ⊢;rw[X7]at h;obtain⟨h1,h2,h3⟩:=h;rw[X7]at h2;rw[X7];refine⟨h2.1,jqh (by rw[X7];exact⟨h1,h2.2.1,λa ha b hb=>h3 a ha b (lr9 _ hb)⟩),λa ha b hb e=>?_⟩;subst e;rcases W7 hb with z|z
  ·exact h3 a z a (ll9 _ ha) rfl
  ·exact h2.2.2 a ha a z rfl
theorem World.set{i:Nat}(w:World K H (some x::L)):World K H (L.set i (some x)):=by
 refine⟨λy hy=>?_,jqh (by have:=w.nd;rwa [jz]at this),λa ha hf=>?_⟩
 ·rcases jqp hy with z|z
  ·cases z;exact w.head
  ·exact w.ok y (lc9 _ z)
 ·refine w.ds a ?_ ?_
  ·rw[jz];exact List.mem_append.mpr (W7 ha)
  ·rw[qk];exact List.mem_append.mpr (ZW hf)
theorem Step.set{i:Nat}:Step H (some x::L) H (L.set i (some x)) where
 keep:=λ_ _ h _=>h
 own:=λa ha=>.inl (by rw[jz];exact List.mem_append.mpr (W7 ha))
 frz:=λa ha=>.inl (by rw[qk];exact List.mem_append.mpr (ZW ha))
theorem Step.drop{q:Option Sl}:Step H (q::L) H L where
 keep:=λ_ _ h _=>h
 own:=λa ha=>.inl (by rw[show(q::L:Ls)=[q]++L from rfl,k6];exact lr9 _ ha)
 frz:=λa ha=>.inl (by rw[show(q::L:Ls)=[q]++L from rfl,qv];exact lr9 _ ha)
theorem wQ{i:Nat}(h:L[i]?=some (some x)):some x∈L:=Xd h
theorem V7(x:Sl):x.let.own=[]/\x.let.frz=x.as/\x.let.as=x.as:=⟨rfl,rfl,rfl⟩
theorem kwd{i:Nat}{a:Addr}(h:a∈j7 (L.set i (some x.let))):a∈j7 L:=by
 rcases W7 h with z|z
 ·exact nomatch z
 ·exact z
theorem kzd:∀{L:Ls} {i:Nat},(j7 L).Nodup->(∀a∈j7 L,a∉jW L)->L[i]?=some (some x)->∀a∈x.as,a∉j7 (L.set i (some x.let))
 | [],_,_,_,h,_,_=>by simp at h
 | q::L,0,nd,ds,h,a,ha=>by
  have e:q=some x:=by simpa using h
  subst e;rw[List.set_cons_zero,jz];intro hm;have hm:a∈j7 L:=by simpa [V7]using hm
  rcases Sl.as_of ha with z|z
  ·rw[jz,X7]at nd;exact nd.2.2 a z a hm rfl
  ·exact ds a (by rw[jz];exact lr9 _ hm) (by rw[qk];exact ll9 _ z)
 | q::L,i+1,nd,ds,h,a,ha=>by
  have h:L[i]?=some (some x):=by simpa using h
  rw[List.set_cons_succ];have e:∀M:Ls,j7 (q::M)=q.elim [] Sl.own++j7 M:=λM=>by simp[j7]
  have f:jW (q::L)=q.elim [] Sl.frz++jW L:=by simp[jW]
  rw[e];intro hm;rw[e,X7]at nd;rcases List.mem_append.mp hm with hm|hm
  ·rcases Sl.as_of ha with z|z
   ·exact nd.2.2 a hm a (mem_owned.mpr ⟨x,wQ h,z⟩) rfl
   ·exact ds a (by rw[e];exact ll9 _ hm) (by rw[f];exact lr9 _ (mem_frozen.mpr ⟨x,wQ h,z⟩))
  ·exact kzd (L:=L) nd.2.1 (λb hb hf=>ds b (by rw[e];exact lr9 _ hb) (by rw[f];exact lr9 _ hf)) h a ha hm
theorem Qq(h:x.ok K H):x.let.ok K H:=RepO.wk h
theorem World.let{i:Nat}(w:World K H L)(h:L[i]?=some (some x)):World K H (L.set i (some x.let)):=by
 have out:=kzd w.nd w.ds h;refine⟨λy hy=>?_,jqh (by rw[(V7 x).1];exact w.nd),λa ha hf=>?_⟩
 ·rcases jqp hy with z|z
  ·cases z;exact Qq (w.ok x (wQ h))
  ·exact w.ok y z
 ·rcases ZW hf with z|z
  ·exact out a z ha
  ·exact w.ds a (kwd ha) z
theorem World.read{i:Nat}(w:World K H L)(h:L[i]?=some (some x)):World K H (some x.let::L.set i (some x.let)):=
 (w.let h).consNo (Qq (w.ok x (wQ h))) rfl (kzd (x:=x) w.nd w.ds h)
theorem Step.read{i:Nat}(h:L[i]?=some (some x)):Step H L H (some x.let::L.set i (some x.let)) where
 keep:=λ_ _ h _=>h
 own:=λa ha=>.inl (by rw[jz,(V7 x).1]at ha;exact kwd ha)
 frz:=λa ha=>by
  have hx:=wQ h;have q:∀a∈x.as,a∈jW L\/a∈j7 L\/H a=none:=λa ha=>by
   rcases Sl.as_of ha with z|z
   ·exact .inr (.inl (mem_owned.mpr ⟨x,hx,z⟩))
   ·exact .inl (mem_frozen.mpr ⟨x,hx,z⟩)
  rw[qk]at ha;rcases List.mem_append.mp ha with z|z
  ·exact q a z
  ·rcases ZW z with z|z
   ·exact q a z
   ·exact .inl z
end
inductive Mt:En->L2.St->Ls->Prop
 |nil:Mt [] [] []
 |un {E:En} {σ:L2.St} {L:Ls} {y:Option V}:Mt E σ L->Mt (none::E) (y :: σ) (none::L)
 |cons {E:En} {σ:L2.St} {L:Ls} {x:Sl}:Mt E σ L->Mt (some (x.o,x.d)::E) (some x.v :: σ) (some x::L)
theorem Mt.get:∀{E:En} {σ:L2.St} {L:Ls} {i:Nat} {o:Own} {d:D},Mt E σ L->E[i]?=some (some (o,d))->∃x,L[i]?=some (some x)/\x.o=o/\x.d=d/\σ[i]?=some (some x.v)
 |_,_,_,_,_,_,.nil,h=>by simp at h
 |_,_,_,0,_,_,.un _,h=>by simp at h
 |_,_,_,i+1,_,_,.un m,h=>by simpa using m.get (i:=i) (by simpa using h)
 |_,_,_,0,_,_,.cons (x:=x) m,h=>by
  simp only[List.getElem?_cons_zero,Option.some.injEq,Prod.mk.injEq]at h;exact⟨x,by simp,h.1,h.2,by simp⟩
 |_,_,_,i+1,_,_,.cons m,h=>by simpa using m.get (i:=i) (by simpa using h)
theorem Mt.set{x:Sl}:∀{E:En} {σ:L2.St} {L:Ls} (i:Nat),Mt E σ L->Mt (E.set i (some (x.o,x.d))) (σ.set i (some x.v)) (L.set i (some x))
 |_,_,_,_,.nil=>.nil
 |_,_,_,0,.un m=>.cons m
 |_,_,_,i+1,.un m=>.un (m.set i)
 |_,_,_,0,.cons m=>.cons m
 |_,_,_,i+1,.cons m=>.cons (m.set i)
theorem Mt.let{x:Sl}:∀{E:En} {σ:L2.St} {L:Ls} {i:Nat},Mt E σ L->L[i]?=some (some x)->Mt (E.set i (some (.no,x.d))) σ (L.set i (some x.let))
 |_,_,_,_,.nil,h=>by simp at h
 |_,_,_,0,.un m,h=>by simp at h
 |_,_,_,i+1,.un m,h=>.un (m.let (i:=i) (by simpa using h))
 |_,_,_,0,.cons (x:=y) m,h=>by
  have e:y=x:=by simpa using h
  subst e;exact .cons (x:=y.let) m
 |_,_,_,i+1,.cons m,h=>.cons (m.let (i:=i) (by simpa using h))
theorem Mt.len:∀{E:En} {σ:L2.St} {L:Ls},Mt E σ L->E.length=σ.length/\L.length=σ.length
 |_,_,_,.nil=>⟨rfl,rfl⟩
 |_,_,_,.un m=>by simp[m.len]
 |_,_,_,.cons m=>by simp[m.len]
noncomputable def sls(L:Ls):List Sl:=L.filterMap id
theorem K3(L:Ls):j7 L=(sls L).flatMap Sl.own:=by
 induction L with
 |nil=>rfl
 |cons q L ih=>
  cases q with
  |none=>rw[qkw,ih];rfl
  |some x=>rw[jz,ih];rfl
theorem QY(L:Ls):jW L=(sls L).flatMap Sl.frz:=by
 induction L with
 |nil=>rfl
 |cons q L ih=>
  cases q with
  |none=>rw[kzj,ih];rfl
  |some x=>rw[qk,ih];rfl
theorem mem_sls{L:Ls}{x:Sl}:x∈sls L↔some x∈L:=by simp[sls]
@[simp] theorem QJ (L T:Ls):sls (L++T)=sls L++sls T:=by simp[sls]
@[simp] theorem qzu (L:Ls):sls (none::L)=sls L:=rfl
@[simp] theorem qj5 (x:Sl)(L:Ls):sls (some x::L)=x::sls L:=rfl
@[simp] theorem wvc:sls []=[]:=rfl
@[simp] theorem wvd (T:List Sl):sls (T.map some)=T:=by simp[sls]
@[simp] theorem vqw (k:Nat):sls (List.replicate k none)=[]:=by
 induction k with
 |zero=>rfl
 |succ k ih=>rw[List.replicate_succ,qzu,ih]
theorem jqf{α β:Type}(f:α->List β){l l':List α}(h:l.Sublist l'):(l.flatMap f).Sublist (l'.flatMap f):=by
 induction h with
 |slnil=>exact Yy _
 |cons a _ ih=>rw[Yz];exact List.Sublist.trans ih (List.sublist_append_right _ _)
 |cons_cons a _ ih=>rw[Yz,Yz];exact List.Sublist.append (Yy _) ih
section
variable {K:PySem.W.Frag}{H H':Hp}{L L' M M':Ls}
theorem World.same(w:World K H L)(p:(sls L).Perm (sls L')):World K H L':=by
 have po:(j7 L).Perm (j7 L'):=by rw[K3,K3];exact p.flatMap_right _
 have pf:(jW L).Perm (jW L'):=by rw[QY,QY];exact p.flatMap_right _
 exact⟨λx hx=>w.ok x (mem_sls.mp (p.mem_iff.mpr (mem_sls.mpr hx))),po.nodup_iff.mp w.nd,λa ha hf=>w.ds a (po.mem_iff.mpr ha) (pf.mem_iff.mpr hf)⟩
theorem Step.same(s:Step H L H' L')(p:(sls L).Perm (sls M))(p':(sls L').Perm (sls M')):Step H M H' M':=by
 have po:(j7 L).Perm (j7 M):=by rw[K3,K3];exact p.flatMap_right _
 have pf:(jW L).Perm (jW M):=by rw[QY,QY];exact p.flatMap_right _
 have po':(j7 L').Perm (j7 M'):=by rw[K3,K3];exact p'.flatMap_right _
 have pf':(jW L').Perm (jW M'):=by rw[QY,QY];exact p'.flatMap_right _
 exact⟨λa ob h hn=>s.keep a ob h λz=>hn (po.mem_iff.mp z),λa ha=>(s.own a (po'.mem_iff.mpr ha)).imp (λz=>po.mem_iff.mp z) id,
  λa ha=>(s.frz a (pf'.mem_iff.mpr ha)).imp (λz=>pf.mem_iff.mp z) λz=>z.imp (λz=>po.mem_iff.mp z) id⟩
theorem World.sub(w:World K H L)(p:(sls L').Sublist (sls L)):World K H L':=by
 refine⟨λx hx=>w.ok x (mem_sls.mp (p.subset (mem_sls.mpr hx))),?_,λa ha hf=>w.ds a ?_ ?_⟩
 ·have:=w.nd;rw[K3]at this ⊢;exact(jqf _ p).nodup this
 ·rw[K3]at ha ⊢;exact(jqf _ p).subset ha
 ·rw[QY]at hf ⊢;exact(jqf _ p).subset hf
theorem Step.sub(s:Step H L H' L')(p:(sls M).Sublist (sls L')):Step H L H' M:=by
 refine⟨s.keep,λa ha=>s.own a ?_,λa ha=>s.frz a ?_⟩
 ·rw[K3]at ha ⊢;exact(jqf _ p).subset ha
 ·rw[QY]at ha ⊢;exact(jqf _ p).subset ha
end
theorem jx6:∀{L:Ls} {j:Nat},(sls (at' L j::L.set j none)).Perm (sls L)
 | [],j=>by simp[at',sls]
 | q::L,0=>by
  cases q with
  |none=>simp[at',sls]
  |some x=>simp[at',sls]
 | q::L,j+1=>by
  have ih:=jx6 (L:=L) (j:=j);have e:at' (q::L) (j+1)=at' L j:=by simp[at']
  rw[e,List.set_cons_succ];have e2:∀(a b:Option Sl) (M:Ls),(sls (a::b::M)).Perm (sls (b::a::M)):=λa b M=>by
   cases a<;>cases b<;>simp[sls]
   exact List.Perm.swap ..
  refine(e2 _ _ _).trans ?_;cases q with
  |none=>simpa [sls]using ih
  |some y=>simpa [sls]using ih
theorem qk6:∀{R:List Nat} {L:Ls},R.Nodup->(sls (R.map (at' L)++clr R L)).Perm (sls L)
 | [],L,_=>by simp[clr]
 | j::R,L,h=>by
  rw[List.nodup_cons]at h;have e:R.map (at' L)=R.map (at' (L.set j none)):=by
   apply Yr;intro i hi;have:j≠i:=λe=>h.1 (e▸hi)
   unfold at';rw[Xx this]
  rw[List.map_cons,List.cons_append,clr,e];have ih:=qk6 (R:=R) (L:=L.set j none) h.2;refine List.Perm.trans ?_ (jx6 (L:=L) (j:=j));cases hq:at' L j with
  |none=>simpa [sls]using ih
  |some x=>simpa [sls]using ih
theorem qxq{α:Type}:∀{R:List Nat} {L:List (Option α)},(clr R L).length=L.length
 |[],_=>rfl
 |j::R,L=>by rw[clr,qxq,Yp]
theorem qxr{α:Type}:∀{R:List Nat} {L:List (Option α)} {j:Nat},j∈R->at' (clr R L) j=none
 | [],_,_,h=>by cases h
 | i :: R,L,j,h=>by
  rw [clr]
  by_cases hR:j∈R
  ·exact qxr hR
  ·have e:j=i:=by simpa [hR]using h
   subst e;have gen:∀{R:List Nat} {M:List (Option α)},j∉R->at' (clr R M) j=at' M j:=by
    intro R
    induction R with
    |nil=>intro M _;rfl
    |cons r R ih=>
     intro M h;rw[Yc,not_or]at h;rw[clr,ih h.2];unfold at';rw[Xx (Ne.symm h.1)]
   rw[gen hR];unfold at'
   by_cases hl:j<L.length
   ·rw[Y2 hl];rfl
   ·rw[List.set_eq_of_length_le (by omega),List.getElem?_eq_none (by omega)];rfl
theorem kxm:∀{R:List Nat} {B L:Ls},R.Nodup->(∀j∈R,at' L j=none)->(∀j∈R,j<L.length)->B.length=R.length->(sls (back R B L)).Perm (sls (B++L))
 | [],B,L,_,_,_,hl=>by
  have:B=[]:=by simpa using hl
  subst this;simp [back]
 | j :: R,[],L,_,_,_,hl=>by simp at hl
 | j :: R,q::B,L,hn,hz,hr,hl=>by
  rw [List.nodup_cons]at hn;rw [back];have hj:=hr j X2;have ih:=kxm (R:=R) (B:=B) (L:=L.set j q) hn.2 (λi hi=>by
   have:j≠i:=λe=>hn.1 (e▸hi)
   unfold at';rw [Xx this];exact hz i (lc9 _ hi)) (λi hi=>by rw[Yp];exact hr i (lc9 _ hi)) (by simpa using hl)
  refine ih.trans ?_;have sp:∀{M:Ls} {i:Nat},at' M i=none->i<M.length->(sls (M.set i q)).Perm (sls (q::M)):=by
   intro M
   induction M with
   | nil=>intro i _ h;simp at h
   | cons r M ihM=>
    intro i h1 h2;cases i with
    | zero=>
     have:r=none:=by simpa [at']using h1
     subst this;cases q<;>simp[sls]
    | succ i=>
     have:=ihM (i:=i) (by simpa [at']using h1) (by simpa using h2);rw[List.set_cons_succ];cases r with
     | none=>cases q<;>simpa [sls]using this
     | some y=>
      cases q with
      |none=>simpa [sls]using this
      |some x=>
       simp only[qj5]at this ⊢;exact(this.cons y).trans (List.Perm.swap ..)
  rw[QJ,List.cons_append];have h1:=sp (hz j X2) hj;have h2:(sls B++sls (L.set j q)).Perm (sls B++sls (q::L)):=h1.append_left _;refine h2.trans ?_;cases q with
  |none=>simp
  |some x=>
   simp only[qj5,QJ];exact List.perm_middle
section
variable {K:PySem.W.Frag}{H H1 H2 H':Hp}{L L1 L' T:Ls}{x y:Sl}
theorem WY(p:L.Perm L'):(j7 L).Perm (j7 L'):=p.flatMap_right _
theorem jwy(p:L.Perm L'):(jW L).Perm (jW L'):=p.flatMap_right _
theorem World.perm(w:World K H L)(p:L.Perm L'):World K H L':=
 ⟨λx hx=>w.ok x (p.mem_iff.mpr hx),(WY p).nodup_iff.mp w.nd,λa ha hf=>w.ds a ((WY p).mem_iff.mpr ha) ((jwy p).mem_iff.mpr hf)⟩
theorem Step.perm(s : Step H L H' L'){M M' : Ls}(p : L.Perm M)(p' : L'.Perm M'): Step H M H' M':=
  ⟨λa ob h hn=>s.keep a ob h λz=>hn ((WY p).mem_iff.mp z),
   λa ha=>(s.own a ((WY p').mem_iff.mpr ha)).imp (λz=>(WY p).mem_iff.mp z) id,
   λa ha=>(s.frz a ((jwy p').mem_iff.mpr ha)).imp (λz=>(jwy p).mem_iff.mp z) λz=>z.imp (λz=>(WY p).mem_iff.mp z) id⟩
theorem Step.frm(s:Step H L H' L'):Step H (L++T) H' (L'++T) where
 keep:=λa ob h hn=>s.keep a ob h λz=>hn (by rw[k6];exact ll9 _ z)
 own:=λa ha=>by
  rw[k6]at ha ⊢;rcases List.mem_append.mp ha with z|z
  ·exact(s.own a z).imp (ll9 _) id
  ·exact .inl (lr9 _ z)
 frz:=λa ha=>by
  rw[qv]at ha ⊢;rw[k6];rcases List.mem_append.mp ha with z|z
  ·exact(s.frz a z).imp (ll9 _) λz=>z.imp (ll9 _) id
  ·exact .inl (lr9 _ z)
theorem wv0(w:World K H (T++L))(s:Step H L H' L')(w':World K H' L'):World K H' (T++L')/\Step H (T++L) H' (T++L'):=by
 have w1:World K H (L++T):=w.comm;exact⟨(s.frame w1 w' w1.left).comm,s.frm.perm Yk Yk⟩
end
theorem ex8{α β γ:Type}{P:Prop}{a b c d e:α->β->γ->Prop}(h:∃x y z,a x y z/\b x y z/\c x y z/\d x y z/\e x y z)(f:∀x y z,a x y z->b x y z->c x y z->d x y z->e x y z->P):P:=
 h.elim λx h=>h.elim λy h=>h.elim λz h=>f x y z h.1 h.2.1 h.2.2.1 h.2.2.2.1 h.2.2.2.2
theorem ex7{α β γ:Type}{P:Prop}{a b c d:α->β->γ->Prop}(h:∃x y z,a x y z/\b x y z/\c x y z/\d x y z)(f:∀x y z,a x y z->b x y z->c x y z->d x y z->P):P:=
 h.elim λx h=>h.elim λy h=>h.elim λz h=>f x y z h.1 h.2.1 h.2.2.1 h.2.2.2
theorem qz{X:Cx}{e:Expr}{t t':TE}(h:PE X e t)(w:∀ σ H Q,t' σ H Q->t σ H Q):PE X e t':=λpins s σ H Q I q=>h pins s σ H Q I (w σ H Q q)
theorem vkv{X:Cx}{e:Expr}{t t':TT}(h:PT X e t)(w:∀ σ H Q,t' σ H Q->t σ H Q):PT X e t':=λpins s σ H Q I q=>h pins s σ H Q I (w σ H Q q)
theorem xX{X:Cx}{e:Stmt}{t t':TS}(h:PS X e t)(w:∀D σ H,t' D σ H->t D σ H):PS X e t':=λpins s σ H D I q=>h pins s σ H D I (w D σ H q)
theorem kz2{X:Cx}{e:List Stmt}{t t':TS}(h:PSs X e t)(w:∀D σ H,t' D σ H->t D σ H):PSs X e t':=λpins s σ H D I q=>h pins s σ H D I (w D σ H q)
structure Fx0 where
 K:PySem.W.Frag
 mg:Str->Option Value
 EX:XK
noncomputable def Xc{α:Type}(Z:Fx0)(σ:L2.St)(H:Hp)(L:Ls)(r:Res α):Prop:=∀E' c,r=.exc E' c->∀C L' H',Z.mg c=some (.ref C)->Mt E' σ L'->World Z.K H' L'->Step H L H' L'->Z.EX (.ref C) none H'
theorem Xc.step{α:Type}{Z:Fx0}{σ:L2.St}{H H1:Hp}{L L1:Ls}{r:Res α}(x:Xc Z σ H L r)(s:Step H L H1 L1):Xc Z σ H1 L1 r:=λE' c e C L' H' hm m w s'=>x E' c e C L' H' hm m w (s.trans s')
theorem Xc.map{α β:Type}{Z:Fx0}{σ:L2.St}{H:Hp}{L:Ls}{r:Res α}{E':En}{c:Str}(x:Xc Z σ H L r)(e:r=.exc E' c):Xc Z σ H L (.exc E' c:Res β):=λE1 c1 e1=>by
 injection e1 with h1 h2;subst h1 h2;exact x _ _ e
noncomputable def tQ(Z:Fx0)(q:Bool)(c:Ex):TE:=fun σ H Q=>∃E L r,Mt E σ L/\World Z.K H L/\c E=some r/\Xc Z σ H L r /\
 ∀E' a,r=.ok E' a->∀(x:Sl) L' H',x.o=a.1->x.d=a.2->Mt E' σ L'->World Z.K H' (some x::L')->Step H L H' (some x::L')->(q=true->kj H H'/\∀b∈x.own,H b=none)->Q x.v H'
noncomputable def Src(H:Hp)(L:Ls)(as:List Addr):Prop:=∀b∈as,b∈jW L\/b∈j7 L\/H b=none
theorem Src.back{H H1:Hp}{L L1:Ls}{as:List Addr}(h:Src H1 L1 as)(s:Step H L H1 L1):Src H L as:=λb hb=>by
 rcases h b hb with z|z|z
 ·exact s.frz b z
 ·exact .inr (s.own b z)
 ·by_cases ho:b∈j7 L
  ·exact .inr (.inl ho)
  ·refine .inr (.inr ?_);cases e:H b with
   |none=>rfl
   |some ob=>rw[s.keep b ob e ho]at z;cases z
noncomputable def tV(Z:Fx0)(q:Bool)(c:Ex):TE:=fun σ H Q=>∃E L r,Mt E σ L/\World Z.K H L/\c E=some r/\Xc Z σ H L r /\
 ∀E' a,r=.ok E' a->∀(x:Sl) L' H',x.o=a.1->x.d=a.2->Mt E' σ L'->World Z.K H' L'->x.ok Z.K H'->(∀b∈x.frz,b∉j7 L')->Src H L x.as->Step H L H' L'->(q=true->kj H H')->Q x.v H'
noncomputable def QE(X:Cx)(Z:Fx0)(q:Bool)(c:Ex)(e:Expr):Prop:=PE X e (tQ Z q c)
noncomputable def QV(X:Cx)(Z:Fx0)(q:Bool)(c:Ex)(e:Expr):Prop:=PE X e (tV Z q c)
section
variable {X:Cx}{Z:Fx0}{q qa qb:Bool}{a b c:Ex}{e ea eb:Expr}{pos:Pos}{α:Type}{σ:L2.St}{H:Hp}{L:Ls}{E:En}
theorem x9{β:Type}{m:Option (Res α)}{F:En->α->Option (Res β)}{r:Res β}(h:bnd m F=some r):(∃E1 x,m=some (.ok E1 x)/\F E1 x=some r)\/∃E1 c,m=some (.exc E1 c)/\r=.exc E1 c:=by
 cases m with
 |none=>cases h
 |some q=>
  cases q with
  |ok E1 x=>exact .inl ⟨E1,x,rfl,h⟩
  |exc E1 c=>exact .inr ⟨E1,c,rfl,(oq9 h).symm⟩
theorem VX{F:En->Sd->Option (Res α)}{r:Res α}{G:VK}(m:Mt E σ L)(w:World Z.K H L)(h:bnd (a E) F=some r)(xc:Xc Z σ H L r)
  (k:∀E1 s,F E1 s=some r->∀(x:Sl) L1 H1,x.o=s.1->x.d=s.2->Mt E1 σ L1->World Z.K H1 (some x::L1)->Step H L H1 (some x::L1)->(q=true->kj H H1/\∀b∈x.own,H b=none)->G x.v H1):tQ Z q a σ H G:=by
 rcases x9 h with⟨E1,s,h1,h2⟩|⟨E1,c,h1,h2⟩
 ·exact⟨E,L,_,m,w,h1,(λ_ _ z=>by cases z),λE' s' z x L' H' e1 e2 m' w' st sm=>by
   injection z with z1 z2;subst z1 z2;exact k _ _ h2 x L' H' e1 e2 m' w' st sm⟩
 ·exact⟨E,L,_,m,w,h1,xc.map h2,λE' s' z=>by cases z⟩
theorem wK{F:En->Sd->Option (Res α)}{r:Res α}{G:VK}(m:Mt E σ L)(w:World Z.K H L)(h:bnd (a E) F=some r)(xc:Xc Z σ H L r)
  (k:∀E1 s,F E1 s=some r->∀(x:Sl) L1 H1,x.o=s.1->x.d=s.2->Mt E1 σ L1->World Z.K H1 L1->x.ok Z.K H1->(∀b∈x.frz,b∉j7 L1)->Src H L x.as->Step H L H1 L1->(q=true->kj H H1)->G x.v H1):tV Z q a σ H G:=by
 rcases x9 h with⟨E1,s,h1,h2⟩|⟨E1,c,h1,h2⟩
 ·exact⟨E,L,_,m,w,h1,(λ_ _ z=>by cases z),λE' s' z x L' H' e1 e2 m' w' ok fr sr st sm=>by
   injection z with z1 z2;subst z1 z2;exact k _ _ h2 x L' H' e1 e2 m' w' ok fr sr st sm⟩
 ·exact⟨E,L,_,m,w,h1,xc.map h2,λE' s' z=>by cases z⟩
theorem XW{x:Sl}{K:PySem.W.Frag}{H1 H2:Hp}{L1 L2':Ls}(ok:x.ok K H1)(fr:∀b∈x.frz,b∉j7 L1)(st:Step H1 L1 H2 L2')(sm:kj H1 H2):x.ok K H2/\∀b∈x.frz,b∉j7 L2':=
 ⟨RepO.kp ok (Kp.of_same sm),λb hb ho=>(st.own b ho).elim (fr b hb) λz=>ok.some (Sl.frz_as hb) z⟩
theorem Q6{x:Option α}{r:Res α}(h:val E x=some r):∃y,x=some y/\r=.ok E y:=by
 cases x with
 |none=>cases h
 |some y=>exact⟨y,rfl,(oq9 h).symm⟩
theorem QE.weak(h:QE X Z true c e):QE X Z q c e:=qz h fun σ H Q ay=>ex8 ay λE L r m w hc xc k=>⟨E,L,r,m,w,hc,xc,λE' s z x L' H' e1 e2 m' w' st sm=>k E' s z x L' H' e1 e2 m' w' st λ_=>sm rfl⟩
theorem jzv{x:Sl}{H1:Hp}{L1:Ls}(st:Step H L H1 (some x::L1)):Src H L x.as:=λb hb=>by
 rcases Sl.as_of hb with z|z
 ·exact .inr (st.own b (by rw[jz];exact ll9 _ z))
 ·exact st.frz b (by rw[qk];exact ll9 _ z)
theorem j5(h:QE X Z q c e):QV X Z q (vE c) e:=qz h fun σ H Q ay=>ex8 ay λE L r m w hc xc k=>
 VX m w hc xc λE1 s h1 x L1 H1 e1 e2 m1 w1 st sm=>by
  cases oq9 h1;exact k _ _ rfl x.let L1 H1 rfl e2 m1 w1.tail (Qq w1.head) (λb hb=>w1.apart b hb) (jzv (x:=x) st) (st.trans Step.drop) λhq=>(sm hq).1
theorem K5{x:Sl}{H1:Hp}{L1:Ls}(st:Step H L H1 L1)(sr:Src H L x.as)(ho:x.own=[]):Step H L H1 (some x::L1) where
 keep:=st.keep
 own:=λb hb=>by rw[jz,ho]at hb;exact st.own b hb
 frz:=λb hb=>by
  rw[qk]at hb;rcases List.mem_append.mp hb with z|z
  ·exact sr b (Sl.frz_as z)
  ·exact st.frz b z
theorem qw0{x:Sl}(h:x.o=.no):x.own=[]:=by unfold Sl.own;rw[h]
theorem Z6{x:Sl}(h:x.o=.no):x.frz=x.as:=by unfold Sl.frz;rw[h]
theorem vw5{x:Sl}(h:x.as=[]):x.own=[]:=List.eq_nil_iff_forall_not_mem.mpr λa ha=>by have:=Sl.own_as ha;rw[h]at this;exact nomatch this
theorem k9(h:QV X Z q c e):QE X Z q (cH c) e:=qz h fun σ H Q ay=>ex8 ay λE L r m w hc xc k=>
 wK m w hc xc λE1 s h1 x L1 H1 e1 e2 m1 w1 ok fr sr st sm=>by
  by_cases ho:s.1=.no
  ·rw[Xa ho]at h1;cases oq9 h1;have eo:x.o=.no:=e1.trans ho;exact k _ _ rfl x L1 H1 eo e2 m1 (w1.consNo ok eo λb hb=>fr b (by rw[Z6 eo];exact hb)) (K5 st sr (qw0 eo)) λhq=>⟨sm hq,by rw[qw0 eo];exact λ_ z=>(nomatch z)⟩
  ·rw[Xe ho]at h1
   by_cases hp:s.2.pure=true
   ·rw[Xa hp]at h1;cases oq9 h1;obtain⟨z,rp⟩:=RepL.pu (g':=false) (RepO.wk ok) (by rw[e2];exact hp);exact k _ _ rfl ⟨.dp,x.d,x.v,[]⟩ L1 H1 rfl e2 m1 (w1.consPu rp rfl) (K5 (x:=⟨.dp,x.d,x.v,[]⟩) st (λb hb=>nomatch hb) rfl) λhq=>⟨sm hq,λ_ z=>(nomatch z)⟩
   ·rw[Xe hp]at h1;cases h1
theorem q_C{d:D}{v:V}(h:PE X e (tC v))(hr:∀H,RepL Z.K H false d v []):QE X Z true (cC d) e:=qz h fun σ H Q ay=>ex8 ay λE L r m w hc xc k=>by
 cases oq9 hc;exact k _ _ rfl ⟨.dp,d,v,[]⟩ L H rfl rfl m (w.consPu (hr H) rfl) (K5 (x:=⟨.dp,d,v,[]⟩) Step.refl (λb hb=>nomatch hb) rfl) λ_=>⟨λ_ _ z=>z,λ_ z=>(nomatch z)⟩
theorem q_V{i:Nat}(h:PE X e (zV i)):QE X Z true (cV i) e:=qz h fun σ H Q ay=>ex8 ay λE L r m w hc xc k=>by
 unfold cV at hc
 split at hc
 ·rename_i o d hE;cases oq9 hc;obtain⟨x,h1,h2,h3,h4⟩:=m.get hE;refine⟨x.v,h4,k _ _ rfl x.let _ H rfl h3 ?_ (w.read h1) (Step.read h1) λ_=>⟨λ_ _ z=>z,λ_ z=>(nomatch z)⟩⟩;have:=m.let h1
  rwa [h3]at this
 ·cases hc
theorem kva:∀{E:En} {σ:L2.St} {L:Ls} (j:Nat),Mt E σ L->Mt (E.set j none) σ (L.set j none):=by
 intro E σ L j m
 induction m generalizing j with
 |nil=>exact .nil
 |un m ih=>cases j with
  |zero=>exact .un m
  |succ j=>exact .un (ih j)
 |cons m ih=>cases j with
  |zero=>exact .un m
  |succ j=>exact .cons (ih j)
theorem W9{x:Sl}:∀{L:Ls} {i:Nat},L[i]?=some (some x)->(none::L).Perm (some x::L.set i none)
 |[],_,h=>by simp at h
 |q::L,0,h=>by
  have e:q=some x:=by simpa using h
  subst e;exact List.Perm.swap ..
 |q::L,i+1,h=>by
  have:=W9 (L:=L) (i:=i) (by simpa using h);rw[List.set_cons_succ];exact(List.Perm.swap ..).trans ((this.cons q).trans (List.Perm.swap ..))
theorem Z7{i:Nat}(h:PE X e (zV i)):QE X Z false (cMv i) e:=qz h fun σ H Q ay=>ex8 ay λE L r m w hc xc k=>by
 unfold cMv at hc
 split at hc
 ·rename_i s hE;cases oq9 hc;obtain⟨o,d⟩:=s;obtain⟨x,h1,h2,h3,h4⟩:=m.get hE;have wn:World Z.K H (none::L):=⟨λy hy=>w.ok y (by simpa using hy),by simpa using w.nd,by simpa using w.ds⟩;have sn:Step H L H (none::L):=⟨λ_ _ z _=>z,λa z=>.inl (by simpa using z),λa z=>.inl (by simpa using z)⟩;exact⟨x.v,h4,k _ _ rfl x _ H h2 h3 (kva i m) (wn.perm (W9 h1)) (sn.trans (Step.refl.perm (List.Perm.refl _) (W9 h1))) λz=>(nomatch z)⟩
 ·cases hc
theorem q_vV{i:Nat}(h:PE X e (zV i)):QV X Z true (vV i) e:=qz h fun σ H Q ay=>ex8 ay λE L r m w hc xc k=>by
 unfold vV at hc
 split at hc
 ·rename_i s hE;cases oq9 hc;obtain⟨o,d⟩:=s;obtain⟨x,h1,h2,h3,h4⟩:=m.get hE;have hx:=wQ h1;refine⟨x.v,h4,k _ _ rfl x L H h2 h3 m w (w.ok x hx) (λb hb ho=>w.ds b ho (mem_frozen.mpr ⟨x,hx,hb⟩)) (λb hb=>?_) Step.refl λ_=>λ_ _ z=>z⟩;rcases Sl.as_of hb with z|z
  ·exact .inr (.inl (mem_owned.mpr ⟨x,hx,z⟩))
  ·exact .inl (mem_frozen.mpr ⟨x,hx,z⟩)
 ·cases hc
structure Out (K:PySem.W.Frag)(H H':Hp)(z:Sl)(fr:List Addr):Prop where
 same:kj H H'
 ok:z.ok K H'
 new:∀b∈z.own,H b=none
 nd:z.own.Nodup
 fr:∀b∈z.frz,b∈fr
noncomputable def Ad1(K:PySem.W.Frag)(r:V->Hp->VK->Prop)(f:Sd->Option Sd):Prop:=∀(H:Hp) (x:Sl) (s:Sd) (Q:VK),x.ok K H->f (x.o,x.d)=some s->(∀(z:Sl) H',z.o=s.1->z.d=s.2->Out K H H' z x.frz->Q z.v H')->r x.v H Q
noncomputable def Ad2(K:PySem.W.Frag)(r:R2)(f:Sd->Sd->Option Sd):Prop:=∀(H:Hp) (x y:Sl) (s:Sd) (Q:VK),x.ok K H->y.ok K H->f (x.o,x.d) (y.o,y.d)=some s->(∀(z:Sl) H',z.o=s.1->z.d=s.2->Out K H H' z (x.frz++y.frz)->Q z.v H')->r x.v y.v H Q
theorem kj0{K:PySem.W.Frag}{H H':Hp}{d:D}{v:V}{fr:List Addr}(s:kj H H')(r:RepL K H' false d v []):Out K H H' ⟨.dp,d,v,[]⟩ fr:=⟨s,r,λ_ h=>(nomatch h),Xs,λ_ h=>(nomatch h)⟩
theorem xV{H:Hp}:kj H H:=λ_ _ z=>z
theorem v3{H H1 H2:Hp}(a:kj H H1)(b:kj H1 H2):kj H H2:=λc ob h=>b c ob (a c ob h)
theorem Q8{z:Sl}{fr:List Addr}{H1 H2:Hp}{L1:Ls}(w:World Z.K H1 L1)(st:Step H L H1 L1)(o:Out Z.K H1 H2 z fr)(ap:∀b∈fr,b∉j7 L1)(al:∀b∈fr,H1 b≠none)(sr:Src H L fr):
  World Z.K H2 (some z::L1)/\Step H L H2 (some z::L1):=by
 have w2:World Z.K H2 L1:=⟨λx hx=>RepO.kp (w.ok x hx) (Kp.of_same o.same),w.nd,w.ds⟩;refine⟨w2.cons o.ok o.nd (λb hb ho=>w.own_some ho (o.new b hb)) (λb hb hf=>w.frz_some hf (o.new b hb)) (λb hb=>ap b (o.fr b hb)) (λb hb hf=>al b (o.fr b hf) (o.new b hb)),?_⟩;refine⟨λb ob h hn=>o.same b ob (st.keep b ob h hn),λb hb=>?_,λb hb=>?_⟩
 ·rw[jz]at hb;rcases List.mem_append.mp hb with z|z
  ·by_cases ho:b∈j7 L
   ·exact .inl ho
   ·refine .inr ?_;cases e:H b with
    |none=>rfl
    |some ob=>have:=o.new b z;rw[st.keep b ob e ho]at this;cases this
  ·exact st.own b z
 ·rw[qk]at hb;rcases List.mem_append.mp hb with z|z
  ·exact sr b (o.fr b z)
  ·exact st.frz b z
theorem jx5{as bs:List Addr}(h:Src H L as)(hb:∀b∈bs,b∈as):Src H L bs:=λb z=>h b (hb b z)
theorem vqv{as bs:List Addr}(h:Src H L as)(h':Src H L bs):Src H L (as++bs):=λb z=>(List.mem_append.mp z).elim (h b) (h' b)
theorem xZ{H H1:Hp}{b:Addr}(s:kj H H1)(h:H1 b=none):H b=none:=by
 cases e:H b with
 |none=>rfl
 |some ob=>rw[s b ob e]at h;cases h
theorem kvr{r:V->Hp->VK->Prop}{f:Sd->Option Sd}(ad:Ad1 Z.K r f){Q:VK}(h:tQ Z q (cF1 f a) σ H Q):tUn r (tV Z q a) σ H Q:=by
 obtain⟨E,L,R,m,w,hc,xc,k⟩:=h;refine wK m w hc xc λE1 s h1 x L1 H1 e1 e2 m1 w1 ok fr sr st sm=>?_
 obtain⟨z,hz,rfl⟩:=Q6 h1;refine ad H1 x z Q ok (by rw[e1,e2];exact hz) λy H' ho hd o=>?_
 obtain⟨w3,dj⟩:=Q8 w1 st o fr (λb hb=>ok.some (Sl.frz_as hb)) (jx5 sr λb hb=>Sl.frz_as hb);exact k _ _ rfl y L1 H' ho hd m1 w3 dj λhq=>⟨v3 (sm hq) o.same,λb hb=>xZ (sm hq) (o.new b hb)⟩
theorem kjb{r:R2}{f:Sd->Sd->Option Sd}(ad:Ad2 Z.K r f){Q:VK}(h:tQ Z qa (cF2 f a b) σ H Q):tOp r (tV Z qa a) (tV Z true b) σ H Q:=by
 obtain⟨E,L,R,m,w,hc,xc,k⟩:=h;refine wK m w hc xc λE1 s h1 x L1 H1 e1 e2 m1 w1 ok fr sr st sm=>?_
 refine wK m1 w1 h1 (xc.step st) λE2 s2 h2 y L2 H2 e3 e4 m2 w2 ir rj qc bn fj=>?_
 obtain⟨z,hz,rfl⟩:=Q6 h2;have kx:=XW ok fr bn (fj rfl);refine ad H2 x y z Q kx.1 ir (by rw[e1,e2,e3,e4];exact hz) λy' H' ho hd o=>?_
 obtain⟨w3,dj⟩:=Q8 w2 (st.trans bn) o (λb hb=>(List.mem_append.mp hb).elim (kx.2 b) (rj b)) (λb hb=>(List.mem_append.mp hb).elim (λz=>kx.1.some (Sl.frz_as z)) λz=>ir.some (Sl.frz_as z))
  (vqv (jx5 sr λb hb=>Sl.frz_as hb) (jx5 (qc.back st) λb hb=>Sl.frz_as hb))
 exact k _ _ rfl y' L2 H' ho hd m2 w3 dj λhq=>⟨v3 (sm hq) (v3 (fj rfl) o.same),λb hb=>xZ (v3 (sm hq) (fj rfl)) (o.new b hb)⟩
theorem xJ{op:Operator}{r:R2}{f:Sd->Sd->Option Sd}(ho:OpR X (binaryOp op) r)(ad:Ad2 Z.K r f)(ha:QV X Z qa a ea)(hb:QV X Z true b eb):QE X Z qa (cF2 f a b) (.BinOp ea op eb pos):=
 qz (ww3 ho ha hb) fun σ H Q h=>kjb ad h
theorem z7{op:CmpOp}{r:R2}{f:Sd->Sd->Option Sd}(ho:OpR X (compareOp op) r)(ad:Ad2 Z.K r f)(ha:QV X Z qa a ea)(hb:QV X Z true b eb)(hm:behindInMarks op eb=false):QE X Z qa (cF2 f a b) (.Compare ea [op] [eb] pos):=
 qz (vvz ho ha hb hm) fun σ H Q h=>kjb ad h
theorem RepA.get{K:PySem.W.Frag}{H:Hp}{g:Bool}:∀{ds:List D} {xs:List V} {as:List Addr} {i:Nat} {d:D},RepA K H g ds xs as->ds[i]?=some d->∃v bs,xs[i]?=some v/\RepL K H g d v bs/\∀b∈bs,b∈as
 | [],_,_,_,_,_,e=>by simp at e
 | d::ds,_,_,i,d',h,e=>by
  unfold RepA at h;obtain⟨x,r,bs,cs,rfl,rfl,h1,h2⟩:=h;cases i with
  |zero=>
   have e:d=d':=by simpa using e
   subst e;exact⟨x,bs,by simp,h1,λb hb=>ll9 _ hb⟩
  |succ i=>
   obtain⟨v,df,e1,e2,e3⟩:=RepA.get (i:=i) h2 (by simpa using e);exact⟨v,df,by simpa using e1,e2,λb hb=>lr9 _ (e3 b hb)⟩
theorem RepA.len{K:PySem.W.Frag}{H:Hp}{g:Bool}:∀{ds:List D} {xs:List V} {as:List Addr},RepA K H g ds xs as->ds.length=xs.length
 |[],_,_,h=>by unfold RepA at h;rw[h.1];rfl
 |d::ds,_,_,h=>by
  unfold RepA at h;obtain⟨x,r,bs,cs,rfl,rfl,h1,h2⟩:=h;simp[RepA.len h2]
theorem items{K:PySem.W.Frag}{H:Hp}{x:Sl}{ds:List D}(ok:x.ok K H)(h:x.d=.lst ds\/x.d=.tup ds):∃a xs bs,x.v=.ref a/\((x.d=.lst ds/\LsR K H a xs)\/(x.d=.tup ds/\SqT K H a xs))/\RepA K H (x.o != .dp) ds xs bs/\(∀b∈bs,b∈x.as)/\(x.o≠.dp->∀b∈bs,b∈x.frz):=by
 obtain⟨o,d,v,as⟩:=x;dsimp only at h;rcases h with rfl|rfl
 ·cases o with
  |no=>
   have ok:RepL K H true (.lst ds) v as:=ok;unfold RepL at ok;obtain⟨a,xs,bs,rfl,r,q⟩:=ok;rcases q with⟨q,rfl⟩|⟨_,q,rfl⟩
   ·exact⟨a,xs,bs,rfl,.inl ⟨rfl,.inl (.inl q)⟩,r,λb hb=>lc9 _ hb,λ_ b hb=>lc9 _ hb⟩
   ·exact⟨a,xs,as,rfl,.inl ⟨rfl,.of q⟩,r,λb hb=>hb,λ_ b hb=>hb⟩
  |rt=>
   obtain⟨a,xs,bs,rfl,r,q,rfl⟩:=(show RepR K H (.lst ds) v as from ok);exact⟨a,xs,bs,rfl,.inl ⟨rfl,.inl (.inl q)⟩,r,λb hb=>lc9 _ hb,λ_ b hb=>by simpa [Sl.frz]using hb⟩
  |dp=>
   have ok:RepL K H false (.lst ds) v as:=ok;unfold RepL at ok;obtain⟨a,xs,bs,rfl,r,q⟩:=ok;rcases q with⟨q,rfl⟩|⟨z,_⟩
   ·exact⟨a,xs,bs,rfl,.inl ⟨rfl,.inl (.inl q)⟩,r,λb hb=>lc9 _ hb,λz=>absurd rfl z⟩
   ·cases z
 ·cases o with
  |no=>
   have ok:RepL K H true (.tup ds) v as:=ok;unfold RepL at ok;obtain⟨a,xs,rfl,q,r⟩:=ok;exact⟨a,xs,as,rfl,.inr ⟨rfl,q⟩,r,λb hb=>hb,λ_ b hb=>hb⟩
  |rt=>exact(show RepR K H (.tup ds) v as from ok).elim
  |dp=>
   have ok:RepL K H false (.tup ds) v as:=ok;unfold RepL at ok;obtain⟨a,xs,rfl,q,r⟩:=ok;exact⟨a,xs,as,rfl,.inr ⟨rfl,q⟩,r,λb hb=>hb,λz=>absurd rfl z⟩
theorem zk{K:PySem.W.Frag}{H:Hp}{x:Sl}{ds:List D}(ok:x.ok K H)(h:x.d=.lst ds\/x.d=.tup ds)(hl:v6 (x.o,x.d)=true):∃a xs bs,x.v=.ref a/\((x.d=.lst ds/\LsR K H a xs)\/(x.d=.tup ds/\SqT K H a xs))/\RepA K H true ds xs bs/\(∀b∈bs,b∈x.frz):=by
 obtain⟨a,xs,bs,e,q,r,h1,h2⟩:=items ok h
 by_cases ho:x.o=.dp
 ·have hp:D.pures ds=true:=by
   unfold v6 at hl;rw[show(x.o,x.d).1=Own.dp from ho]at hl;have:wxw x.d=ds:=by rcases h with h|h<;>rw[h]<;>rfl
   simpa [this]using hl
  obtain⟨rfl,r'⟩:=RepA.pu (g':=true) r hp;exact⟨a,xs,[],e,q,r',λ_ z=>nomatch z⟩
 ·have:(x.o != Own.dp)=true:=by simpa using ho
  rw[this]at r;exact⟨a,xs,bs,e,q,r,h2 ho⟩
end
section
variable {K:PySem.W.Frag}{H:Hp}{x y:Sl}
theorem vx{i:Int}(ok:x.ok K H)(h:x.d=.int i):x.v=.int i:=by
 have:=RepO.wk ok;rw[h]at this;unfold RepL at this;exact this.1
theorem XY{i:Bool}(ok:x.ok K H)(h:x.d=.bl i):x.v=.bl i:=by
 have:=RepO.wk ok;rw[h]at this;unfold RepL at this;exact this.1
theorem wk4(ok:x.ok K H)(h:x.d=.non):x.v=.non:=by
 have:=RepO.wk ok;rw[h]at this;unfold RepL at this;exact this.1
theorem z6{z:Str}(ok:x.ok K H)(h:x.d=.str z):x.v=.str z/\z.length<=sizeLine:=by
 have:=RepO.wk ok;rw[h]at this;unfold RepL at this;exact⟨this.1,this.2.2⟩
theorem KJ{i:Int}{g:Bool}:RepL K H g (.int i) (.int i) []:=by unfold RepL;exact⟨rfl,rfl⟩
theorem xQ{i:Bool}{g:Bool}:RepL K H g (.bl i) (.bl i) []:=by unfold RepL;exact⟨rfl,rfl⟩
theorem kxx{g:Bool}:RepL K H g .non .non []:=by unfold RepL;exact⟨rfl,rfl⟩
theorem kjj{z:Str}{g:Bool}(h:z.length<=sizeLine):RepL K H g (.str z) (.str z) []:=by unfold RepL;exact⟨rfl,rfl,h⟩
theorem Q4{i:Int}{fr:List Addr}:Out K H H ⟨.dp,.int i,.int i,[]⟩ fr:=kj0 xV KJ
theorem x8{i:Bool}{fr:List Addr}:Out K H H ⟨.dp,.bl i,.bl i,[]⟩ fr:=kj0 xV xQ
theorem ww6{z:Str}{fr:List Addr}(h:z.length<=sizeLine):Out K H H ⟨.dp,.str z,.str z,[]⟩ fr:=kj0 xV (kjj h)
theorem vxm{C:Int->Int->Prop}{g:Int->Int->Int}{f:Int->Int->Option Int}(h:∀i j k,f i j=some k->C i j/\k=g i j):Ad2 K (rI C λi j=>.int (g i j)) (pu2 (i2 f)):=by
 intro H x y s Q ox oy hf k;unfold pu2 i2 at hf;dsimp only at hf
 split at hf
 ·rename_i i j e1 e2;cases hk:f i j with
  |none=>rw[hk]at hf;cases hf
  |some n=>
   rw[hk]at hf;cases oq9 hf;obtain⟨hc,rfl⟩:=h i j n hk;exact⟨i,j,vx ox e1,vx oy e2,hc,k ⟨.dp,.int (g i j),.int (g i j),[]⟩ H rfl rfl Q4⟩
 ·cases hf
theorem wx4{g:Int->Int->Int}{f:Int->Int->Option Int}(h:∀i j,f i j=some (g i j)):Ad2 K (rI0 λi j=>.int (g i j)) (pu2 (i2 f)):=by
 intro H x y s Q ox oy hf k;unfold pu2 i2 at hf;dsimp only at hf
 split at hf
 ·rename_i i j e1 e2;rw[h]at hf;cases oq9 hf;exact⟨i,j,vx ox e1,vx oy e2,k ⟨.dp,.int (g i j),.int (g i j),[]⟩ H rfl rfl Q4⟩
 ·cases hf
theorem Q7{g:Int->Int->Bool}:Ad2 K (rI0 λi j=>.bl (g i j)) (pu2 (c2 g)):=by
 intro H x y s Q ox oy hf k;unfold pu2 c2 at hf;dsimp only at hf
 split at hf
 ·rename_i i j e1 e2;cases oq9 hf;exact⟨i,j,vx ox e1,vx oy e2,k ⟨.dp,.bl (g i j),.bl (g i j),[]⟩ H rfl rfl x8⟩
 ·cases hf
theorem qz8:Ad2 K (rI0 λi j=>.int (i - j)) (pu2 wq5):=wx4 λ_ _=>rfl
theorem qkg:Ad2 K (rI wqo λi j=>.int (i / j)) (pu2 xW):=vxm λi j k h=>by
 split at h
 ·rename_i c;exact⟨c,(oq9 h).symm⟩
 ·cases h
theorem wqh:Ad2 K (rI (λ_ j=>0<j) λi j=>.int (i % j)) (pu2 kQ):=vxm λi j k h=>by
 split at h
 ·rename_i c;exact⟨c,(oq9 h).symm⟩
 ·cases h
theorem qke:Ad2 K (rI wz2 λi j=>.int (i ^ j.toNat)) (pu2 WK):=vxm λi j k h=>by
 split at h
 ·rename_i c;exact⟨c,(oq9 h).symm⟩
 ·cases h
end
noncomputable def vzt(K:PySem.W.Frag):R2:=λx y H Q=>∃l b xs zs,x=.ref l/\y=.ref b/\LsR K H l xs/\LsR K H b zs/\xs.length+zs.length<=sizeLine/\∀p,H p=none->Q (.ref p) (upd H p (.lst (xs++zs)))
theorem op_catL{X:Cx}:OpR X (binaryOp .Add) (vzt X.K):=by
 intro pins s σ H x y v u Q I rx ry h;obtain⟨l,b,xs,zs,rfl,rfl,hH,hB,hz,q⟩:=h;cases rx;cases ry;obtain⟨z,ak,n,r,e⟩:=hH.is I;obtain⟨z2,gl,n2,r2,e2⟩:=hB.is I;have hl:=r.length;have si:=r2.length;refine PySem.P.add_list e e2 ?_ (by rw[X6,X6];omega);have ea:ak.toArray++gl.toArray=(ak++gl).toArray:=by simp
 rw[ea];exact⟨.ref _,_,I.lnew (t':=s.toks) (r.append r2) (by rw[Xi];omega),rfl,q _ I.fresh⟩
noncomputable def vzu(K:PySem.W.Frag):R2:=λx y H Q=>∃a b ys,x=.ref a/\y=.ref b/\SqT K H a []/\SqT K H b ys/\Q (.ref b) H
theorem op_catE{X:Cx}:OpR X (binaryOp .Add) (vzu X.K):=by
 intro pins s σ H x y v u Q I rx ry h;obtain⟨a,b,ys,rfl,rfl,ha,hb,q⟩:=h;cases rx;cases ry;obtain⟨ak,r1,p1,_⟩:=I.tuple ha;obtain⟨gl,r2,p2,_⟩:=I.tuple hb;obtain⟨⟨cls,dd,data,sl⟩,ho,hc,n,hd⟩:=id p1;obtain⟨⟨cls2,dd2,data2,lw⟩,ho2,hc2,n2,hd2⟩:=id p2;simp only at hc hd hc2 hd2;subst hc hd hc2 hd2;have e:ak=[]:=r1.nil_iff.mpr rfl;subst e;exact concat_meets ⟨_,ho,rfl⟩ ⟨_,ho2,rfl⟩ noFill_tuple_add seq_tuple_add PySem.F.slot_tuple_add PySem.F.entry_tuple_add (PySem.F.args_tuple_add_2 _ _)
   (tuple_addW0 a b [].toArray gl.toArray n n2 dd dd2 sl lw (by simp)) ⟨ho,ho2,⟨.ref b,H,I,rfl,q⟩⟩
noncomputable def vzv(K:PySem.W.Frag):R2:=λx y H Q=>rI0 (λi j=>.int (i+j)) x y H Q\/(∃i j,x=.str i/\y=.str j/\i.length+j.length<=sizeLine/\Q (.str (i++j)) H)\/vzt K x y H Q\/vzu K x y H Q\/vzs K x y H Q
theorem wjz{X:Cx}{K:PySem.W.Frag}(hK:X.K=K):OpR X (binaryOp .Add) (vzv K):=by subst hK;exact op_add.or (op_add_str.or (op_catL.or (op_catE.or vw8)))
theorem RepA.app{K:PySem.W.Frag}{H:Hp}{g:Bool}{ds':List D}{xs':List V}{df:List Addr}(h':RepA K H g ds' xs' df):∀{ds:List D} {xs:List V} {as:List Addr},RepA K H g ds xs as->RepA K H g (ds++ds') (xs++xs') (as++df)
 |[],_,_,h=>by unfold RepA at h;rw[h.1,h.2];exact h'
 |d::ds,_,_,h=>by
  unfold RepA at h;obtain⟨x,r,bs,cs,rfl,rfl,h1,h2⟩:=h;rw[List.cons_append];unfold RepA;exact⟨x,r++xs',bs,cs++df,rfl,by rw[Xp],h1,RepA.app h' h2⟩
theorem wJ{H:Hp}{p:Addr}{o:HO}(h:H p=none):kj H (upd H p o):=λb u q=>by rw[kJ (xk q h)];exact q
theorem JW{K:PySem.W.Frag}{H:Hp}{p:Addr}{ds:List D}{xs:List V}{bs fr:List Addr}(hp:H p=none)(r:RepA K H true ds xs bs)(hb:∀b∈bs,b∈fr):Out K H (upd H p (.lst xs)) ⟨.rt,.lst ds,.ref p,p::bs⟩ fr:=by
 refine⟨wJ hp,⟨p,xs,bs,rfl,r.kp (Kp.of_same (wJ hp)),wV,rfl⟩,λb hb=>?_,?_,λb ef=>hb b (by simpa [Sl.frz]using ef)⟩
 ·have:b=p:=by simpa [Sl.own]using hb
  rw[this];exact hp
 ·simp[Sl.own]
theorem kjm{K:PySem.W.Frag}{H:Hp}{p:Addr}{ds:List D}{xs:List V}{bs fr:List Addr}(hp:H p=none)(r:RepA K H true ds xs bs)(hb:∀b∈bs,b∈fr):Out K H (upd H p (.tup xs)) ⟨.no,.tup ds,.ref p,bs⟩ fr:=by
 refine⟨wJ hp,?_,λb hb=>(nomatch hb),Xs,λb ef=>hb b ef⟩;show RepL K _ true (.tup ds) (.ref p) bs;unfold RepL;exact⟨p,xs,rfl,SqT.of wV,r.kp (Kp.of_same (wJ hp))⟩
theorem wql{K:PySem.W.Frag}:Ad2 K (vzv K) jJ:=by
 intro H x y s Q ox oy hf k;unfold jJ at hf;dsimp only at hf
 split at hf
 ·rename_i i j e1 e2;cases oq9 hf;exact .inl ⟨i,j,vx ox e1,vx oy e2,k ⟨.dp,.int _,.int _,[]⟩ H rfl rfl Q4⟩
 ·rename_i i j e1 e2
  split at hf
  ·rename_i hl;cases oq9 hf;have hl':(i++j).length<=sizeLine:=by rw[strLen_append];exact hl
   exact .inr (.inl ⟨i,j,(z6 ox e1).1,(z6 oy e2).1,hl,k ⟨.dp,.str _,.str _,[]⟩ H rfl rfl (ww6 hl')⟩)
  ·cases hf
 ·rename_i i j e1 e2
  split at hf
  ·rename_i hl;cases oq9 hf;obtain⟨a,xs,bs,e3,q3,r3,h3⟩:=zk ox (.inl e1) hl.2.1;obtain⟨b,ys,cs,e4,q4,r4,h4⟩:=zk oy (.inl e2) hl.2.2;have q3:LsR K H a xs:=by rcases q3 with⟨_,z⟩|⟨z,_⟩;exact z;rw[e1]at z;cases z
   have q4:LsR K H b ys:=by rcases q4 with⟨_,z⟩|⟨z,_⟩;exact z;rw[e2]at z;cases z
   refine .inr (.inr (.inl ⟨a,b,xs,ys,e3,e4,q3,q4,by rw[<-r3.len,<-r4.len];exact hl.1,λp hp=>?_⟩));exact k ⟨.rt,.lst (i++j),.ref p,p::(bs++cs)⟩ _ rfl rfl (JW hp (r4.app r3) λb hb=>(List.mem_append.mp hb).elim (λz=>ll9 _ (h3 b z)) λz=>lr9 _ (h4 b z))
  ·cases hf
 ·rename_i i j e1 e2
  split at hf
  ·rename_i hl;cases oq9 hf;obtain⟨a,xs,bs,e3,q3,r3,h3⟩:=zk ox (.inr e1) hl.2.1;obtain⟨b,ys,cs,e4,q4,r4,h4⟩:=zk oy (.inr e2) hl.2.2;have q3:SqT K H a xs:=by rcases q3 with⟨z,_⟩|⟨_,z⟩;rw[e1]at z;cases z;exact z
   have q4:SqT K H b ys:=by rcases q4 with⟨z,_⟩|⟨_,z⟩;rw[e2]at z;cases z;exact z
   have ap:=r4.app r3;have rl:∀b∈bs++cs,b∈x.frz++y.frz:=λb hb=>(List.mem_append.mp hb).elim (λz=>ll9 _ (h3 b z)) λz=>lr9 _ (h4 b z)
   have same:∀c zs,zs=xs++ys->SqT K H c zs->Q (.ref c) H:=λc zs e hq=>by
    refine k ⟨.no,.tup (i++j),.ref c,bs++cs⟩ H rfl rfl ⟨xV,?_,λb hb=>(nomatch hb),Xs,rl⟩;show RepL K H true (.tup (i++j)) (.ref c) (bs++cs);unfold RepL;exact⟨c,zs,rfl,hq,by rw[e];exact ap⟩
   by_cases hx:xs=[]
   ·subst hx;exact .inr (.inr (.inr (.inl ⟨a,b,ys,e3,e4,q3,q4,same b ys rfl q4⟩)))
   ·refine .inr (.inr (.inr (.inr ⟨a,b,xs,ys,e3,e4,q3,q4,hx,by rw[<-r3.len,<-r4.len];exact hl.1,λhy=>?_,λhy p hp=>?_⟩)))
    ·exact same a xs (by rw[hy,Xr]) q3
    ·exact k ⟨.no,.tup (i++j),.ref p,bs++cs⟩ _ rfl rfl (kjm hp ap rl)
  ·cases hf
 ·cases hf
noncomputable def tT(Z:Fx0)(q:Bool)(c:Ts):TT:=fun σ H Q=>∃E L r,Mt E σ L/\World Z.K H L/\c E=some r/\Xc Z σ H L r /\
 ∀E' k,r=.ok E' k->∀L' H',Mt E' σ L'->World Z.K H' L'->Step H L H' L'->(q=true->kj H H')->Q k H'
noncomputable def QT(X:Cx)(Z:Fx0)(q:Bool)(c:Ts)(e:Expr):Prop:=PT X e (tT Z q c)
noncomputable def QW(X:Cx)(Z:Fx0)(q:Bool)(c:Ts)(e:Expr):Prop:=PW X e (tT Z q c)
section
variable {X:Cx}{Z:Fx0}{q qa qb:Bool}{a b c:Ex}{u v:Ts}{e ea eb:Expr}{es:List Expr}{pos:Pos}{α β:Type}{σ:L2.St}{H:Hp}{L:Ls}{E:En}
theorem vkt{e:Expr}{t t':TT}(h:PW X e t)(w:∀ σ H Q,t' σ H Q->t σ H Q):PW X e t':=λwh pins s σ H Q I q=>h wh pins s σ H Q I (w σ H Q q)
theorem vqu{F:En->Bool->Option (Res α)}{r:Res α}{G:Bool->Hp->Prop}(m:Mt E σ L)(w:World Z.K H L)(h:bnd (u E) F=some r)(xc:Xc Z σ H L r)
  (k:∀E1 s,F E1 s=some r->∀L1 H1,Mt E1 σ L1->World Z.K H1 L1->Step H L H1 L1->(q=true->kj H H1)->G s H1):tT Z q u σ H G:=by
 rcases x9 h with⟨E1,s,h1,h2⟩|⟨E1,c,h1,h2⟩
 ·exact⟨E,L,_,m,w,h1,(λ_ _ z=>by cases z),λE' s' z L' H' m' w' st sm=>by
   injection z with z1 z2;subst z1 z2;exact k _ _ h2 L' H' m' w' st sm⟩
 ·exact⟨E,L,_,m,w,h1,xc.map h2,λE' s' z=>by cases z⟩
theorem Kk(ha:QT X Z q u ea):QW X Z q u (.BoolOp .And [ea] pos):=vvg ha
theorem V0(ha:QT X Z q u ea):QW X Z q u (.BoolOp .Or [ea] pos):=wj8 ha
theorem Q5(ha:QT X Z q u ea)(hb:QW X Z q v (.BoolOp .And (eb::es) pos)):QW X Z q (Q.tAnd u v) (.BoolOp .And (ea::eb::es) pos):=
 vkt (wj9 ha hb) fun σ H Q ay=>ex8 ay λE L r m w hc xc k=>vqu m w hc xc λE1 s h1 L1 H1 m1 w1 st sm=>by
  cases s with
  |true=>
   rw[Xa rfl]at h1 ⊢;exact⟨E1,L1,r,m1,w1,h1,xc.step st,λE' k' z L' H' m' w' cy i7=>k E' k' z L' H' m' w' (st.trans cy) λhq=>v3 (sm hq) (i7 hq)⟩
  |false=>
   rw[Xe (by decide)]at h1 ⊢;cases oq9 h1;exact k _ _ rfl L1 H1 m1 w1 st sm
theorem KW(ha:QT X Z q u ea)(hb:QW X Z q v (.BoolOp .Or (eb::es) pos)):QW X Z q (Q.tOr u v) (.BoolOp .Or (ea::eb::es) pos):=
 vkt (wvv ha hb) fun σ H Q ay=>ex8 ay λE L r m w hc xc k=>vqu m w hc xc λE1 s h1 L1 H1 m1 w1 st sm=>by
  cases s with
  |false=>
   rw[Xe (by decide)]at h1 ⊢;exact⟨E1,L1,r,m1,w1,h1,xc.step st,λE' k' z L' H' m' w' cy i7=>k E' k' z L' H' m' w' (st.trans cy) λhq=>v3 (sm hq) (i7 hq)⟩
  |true=>
   rw[Xa rfl]at h1 ⊢;cases oq9 h1;exact k _ _ rfl L1 H1 m1 w1 st sm
theorem QW.pt(h:QW X Z q u e):QT X Z q u e:=PW.pt h
theorem kw{op:CmpOp}{r:R2}{f:Sd->Sd->Option Sd}(ho:OpR X (compareOp op) r)(ad:Ad2 Z.K r f)(ha:QV X Z qa a ea)(hb:QV X Z true b eb)(hm:behindInMarks op eb=false)(hf:∀x y s,f x y=some s->∃k,s.2=.bl k):QT X Z qa (Q.tE (cF2 f a b)) (.Compare ea [op] [eb] pos):=
 vkv (vvl ho ha hb hm) fun σ H Q ay=>ex8 ay λE L r m w hc xc k=>by
  refine kjb ad ?_;have jl:bnd (cF2 f a b E) (λE x=>val E (truth x.2))=some r:=hc;rcases x9 jl with⟨E1,s,h1,h2⟩|⟨E1,c,h1,h2⟩
  ·refine⟨E,L,_,m,w,h1,(λ_ _ z=>by cases z),λE' s' z x L' H' e1 e2 m' w' st sm=>?_⟩;injection z with z1 z2;subst z1 z2;obtain⟨kk,hk⟩:∃k,s.2=.bl k:=by
    unfold cF2 at h1;rcases x9 h1 with⟨E2,s2,h3,h4⟩|⟨_,_,_,z⟩
    ·rcases x9 h4 with⟨E3,s3,h5,h6⟩|⟨_,_,_,z⟩
     ·obtain⟨y,hy,z⟩:=Q6 h6;cases z;exact hf _ _ _ hy
     ·cases z
    ·cases z
   rw[hk]at h2;cases oq9 h2;exact⟨kk,XY w'.head (e2.trans hk),k _ _ rfl L' H' m' w'.tail (st.trans Step.drop) λhq=>(sm hq).1⟩
  ·exact⟨E,L,_,m,w,h1,xc.map h2,λE' s' z=>by cases z⟩
end
noncomputable def Pn(pn:List Nat)(σ σ':L2.St):Prop:=∀p∈pn,σ'[p]?=σ[p]?
theorem Pn.refl{pn:List Nat}{σ:L2.St}:Pn pn σ σ:=λ_ _=>rfl
theorem Pn.trans{pn:List Nat}{σ σ1 σ2:L2.St}(a:Pn pn σ σ1)(b:Pn pn σ1 σ2):Pn pn σ σ2:=λp hp=>(b p hp).trans (a p hp)
theorem Pn.set{pn:List Nat}{σ σ1:L2.St}{i:Nat}{y:Option V}(a:Pn pn σ σ1)(h:i∉pn):Pn pn σ (σ1.set i y):=λp hp=>by
 have:i≠p:=λe=>h (e▸hp)
 rw[Xx this];exact a p hp
noncomputable def FlP(Z:Fx0)(pn:List Nat)(D:Ends)(σ:L2.St)(H:Hp)(L:Ls):Fl->Prop
 |.nx E'=>∀ σ' L' H',Pn pn σ σ'->Mt E' σ' L'->World Z.K H' L'->Step H L H' L'->D.nx σ' H'
 |.ct E'=>∀ σ' L' H',Pn pn σ σ'->Mt E' σ' L'->World Z.K H' L'->Step H L H' L'->D.ct σ' H'
 |.bk E'=>∀ σ' L' H',Pn pn σ σ'->Mt E' σ' L'->World Z.K H' L'->Step H L H' L'->D.bk σ' H'
 |.rt E' a=>∀(x:Sl) σ' L' H',x.o=a.1->x.d=a.2->Pn pn σ σ'->Mt E' σ' L'->World Z.K H' (some x::L')->Step H L H' (some x::L')->D.rt x.v H'
 |.xc E' c=>∀C σ' L' H',Z.mg c=some (.ref C)->Pn pn σ σ'->Mt E' σ' L'->World Z.K H' L'->Step H L H' L'->Z.EX (.ref C) none H'
theorem FlP.step{Z:Fx0}{pn:List Nat}{D:Ends}{σ σ1:L2.St}{H H1:Hp}{L L1:Ls}{r:Fl}(k:FlP Z pn D σ H L r)(s:Step H L H1 L1)(p:Pn pn σ σ1):FlP Z pn D σ1 H1 L1 r:=by
 cases r with
 |nx E'=>exact fun σ' L' H' p' m w s'=>k σ' L' H' (p.trans p') m w (s.trans s')
 |ct E'=>exact fun σ' L' H' p' m w s'=>k σ' L' H' (p.trans p') m w (s.trans s')
 |bk E'=>exact fun σ' L' H' p' m w s'=>k σ' L' H' (p.trans p') m w (s.trans s')
 |rt E' a=>exact λx σ' L' H' e1 e2 p' m w s'=>k x σ' L' H' e1 e2 (p.trans p') m w (s.trans s')
 |xc E' c=>exact λC σ' L' H' hm p' m w s'=>k C σ' L' H' hm (p.trans p') m w (s.trans s')
theorem FlP.xc{α:Type}{Z:Fx0}{pn:List Nat}{D:Ends}{σ:L2.St}{H:Hp}{L:Ls}{E':En}{c:Str}(k:FlP Z pn D σ H L (.xc E' c)):Xc Z σ H L (.exc E' c:Res α):=λE1 c1 e C L' H' hm m w s=>by
 injection e with h1 h2;subst h1 h2;exact k C σ L' H' hm Pn.refl m w s
noncomputable def tS(Z:Fx0)(pn:List Nat)(c:Sm):TS:=λD σ H=>∃E L r,Mt E σ L/\World Z.K H L/\c E=some r/\FlP Z pn D σ H L r
noncomputable def QS(X:Cx)(Z:Fx0)(pn:List Nat)(c:Sm)(st:Stmt):Prop:=PS X st (tS Z pn c)
noncomputable def QSs(X:Cx)(Z:Fx0)(pn:List Nat)(c:Sm)(st:List Stmt):Prop:=PSs X st (tS Z pn c)
section
variable {X:Cx}{Z:Fx0}{pn:List Nat}{q qa qb:Bool}{a b c:Ex}{u v:Ts}{A B:Sm}{e ea eb:Expr}{st:Stmt}{ss tt:List Stmt}{pos:Pos}{α:Type}{σ:L2.St}{H:Hp}{L:Ls}{E:En}{D:Ends}
theorem jw2{m:Option (Res α)}{F:En->α->Option Fl}{r:Fl}(h:ofE m F=some r):(∃E1 x,m=some (.ok E1 x)/\F E1 x=some r)\/∃E1 c,m=some (.exc E1 c)/\r=.xc E1 c:=by
 cases m with
 |none=>cases h
 |some q=>
  cases q with
  |ok E1 x=>exact .inl ⟨E1,x,rfl,h⟩
  |exc E1 c=>exact .inr ⟨E1,c,rfl,(oq9 h).symm⟩
theorem W5{F:En->Sd->Option Fl}{r:Fl}{G:VK}(m:Mt E σ L)(w:World Z.K H L)(h:ofE (a E) F=some r)(k:FlP Z pn D σ H L r)
  (g:∀E1 s,F E1 s=some r->∀(x:Sl) L1 H1,x.o=s.1->x.d=s.2->Mt E1 σ L1->World Z.K H1 (some x::L1)->Step H L H1 (some x::L1)->(q=true->kj H H1/\∀b∈x.own,H b=none)->G x.v H1):tQ Z q a σ H G:=by
 rcases jw2 h with⟨E1,s,h1,h2⟩|⟨E1,c,h1,rfl⟩
 ·exact⟨E,L,_,m,w,h1,(λ_ _ z=>by cases z),λE' s' z x L' H' e1 e2 m' w' st sm=>by
   injection z with z1 z2;subst z1 z2;exact g _ _ h2 x L' H' e1 e2 m' w' st sm⟩
 ·exact⟨E,L,_,m,w,h1,k.xc,λE' s' z=>by cases z⟩
theorem vzb{F:En->Bool->Option Fl}{r:Fl}{G:Bool->Hp->Prop}(m:Mt E σ L)(w:World Z.K H L)(h:ofE (u E) F=some r)(k:FlP Z pn D σ H L r)
  (g:∀E1 s,F E1 s=some r->∀L1 H1,Mt E1 σ L1->World Z.K H1 L1->Step H L H1 L1->G s H1):tT Z q u σ H G:=by
 rcases jw2 h with⟨E1,s,h1,h2⟩|⟨E1,c,h1,rfl⟩
 ·exact⟨E,L,_,m,w,h1,(λ_ _ z=>by cases z),λE' s' z L' H' m' w' st sm=>by
   injection z with z1 z2;subst z1 z2;exact g _ _ h2 L' H' m' w' st⟩
 ·exact⟨E,L,_,m,w,h1,k.xc,λE' s' z=>by cases z⟩
theorem vY:QSs X Z pn kZ []:=kz2 vvn λD σ H ay=>ex7 ay λE L r m w hc k=>by
 cases oq9 hc;exact k σ L H Pn.refl m w Step.refl
theorem j9(h1:QS X Z pn A st)(h2:QSs X Z pn B ss):QSs X Z pn (j4 A B) (st::ss):=kz2 (jx9 h1 h2) λD σ H ay=>ex7 ay λE L r m w hc k=>by
 unfold j4 at hc;cases ha:A E with
 |none=>rw[ha]at hc;cases hc
 |some f=>
  rw[ha]at hc;cases f with
  |nx E1=>exact⟨E,L,_,m,w,ha,fun σ' L' H' p m' w' s=>⟨E1,L',r,m',w',hc,k.step s p⟩⟩
  |ct E1=>cases oq9 hc;exact⟨E,L,_,m,w,ha,k⟩
  |bk E1=>cases oq9 hc;exact⟨E,L,_,m,w,ha,k⟩
  |rt E1 x=>cases oq9 hc;exact⟨E,L,_,m,w,ha,k⟩
  |xc E1 x=>cases oq9 hc;exact⟨E,L,_,m,w,ha,k⟩
theorem jw(h1:QS X Z pn A st):QSs X Z pn A [st]:=vvm h1
theorem kq(h:QE X Z q a ea):QS X Z pn (jQ a) (.Return (some ea) pos):=xX (wjb h) λD σ H ay=>ex7 ay λE L r m w hc k=>
 W5 m w hc k λE1 s h1 x L1 H1 e1 e2 m1 w1 st _=>by
  cases oq9 h1;exact k x σ L1 H1 e1 e2 Pn.refl m1 w1 st
theorem vJ(hc:QT X Z q u e)(ha:QSs X Z pn A ss)(hb:QSs X Z pn B tt):QS X Z pn (sIf u A B) (.If e ss tt pos):=xX (wvw hc ha hb) λD σ H ay=>ex7 ay λE L r m w hc k=>
 vzb m w hc k λE1 s h1 L1 H1 m1 w1 st=>by
  cases s with
  |true=>rw[Xa rfl]at h1 ⊢;exact⟨E1,L1,r,m1,w1,h1,k.step st Pn.refl⟩
  |false=>rw[Xe (by decide)]at h1 ⊢;exact⟨E1,L1,r,m1,w1,h1,k.step st Pn.refl⟩
theorem Qv{x:Sl}{i:Nat}{s:Sd}(m:Mt E σ L)(e1:x.o=s.1)(e2:x.d=s.2):Mt (E.set i (some s)) (σ.set i (some x.v)) (L.set i (some x)):=by
 have:=m.set (x:=x) i;rw[e1,e2]at this;exact this
theorem wvs{i:Nat}{y:Str}{cg:Pos}(hN:X.N.Nodup)(hi:X.N[i]?=some y)(hx:Loc X.env.scope y)(h:QE X Z q a ea)(hp:autoParam (i∉pn) ŕ)(hs:autoParam (swapsWith ea (some (.Name y cg)) pos.line X.env=pure false) Ŕ)(hf:autoParam (X.fn y=true\/X.env.scope.names.lookup y=some .local) Ř):
  QS X Z pn (jk i a) (.Assign [.Name y cg] ea pos):=xX (vkw hN hi hx h hs hf) λD σ H ay=>ex7 ay λE L r m w hc k=>
 W5 m w hc k λE1 s h1 x L1 H1 e1 e2 m1 w1 st _=>by
  cases oq9 h1;exact k (σ.set i (some x.v)) (L1.set i (some x)) H1 (Pn.refl.set hp) (Qv m1 e1 e2) w1.set (st.trans Step.set)
theorem wj6{i:Nat}{y:Str}{cg:Pos}(hp:i∉pn)(h:PS X (.Assign [.Name y cg] ea pos) (λD σ H=>tQ Z q a σ H λv H1=>D.nx (σ.set i (some v)) H1)):
  QS X Z pn (jk i a) (.Assign [.Name y cg] ea pos):=xX h λD σ H ay=>ex7 ay λE L r m w hc k=>
 W5 m w hc k λE1 s h1 x L1 H1 e1 e2 m1 w1 st _=>by
  cases oq9 h1;exact k (σ.set i (some x.v)) (L1.set i (some x)) H1 (Pn.refl.set hp) (Qv m1 e1 e2) w1.set (st.trans Step.set)
theorem vv7(hp:PassesOwn (model X.prog X.w) X.A X.env X.xe)(hc:QT X Z q u e)(hb:QSs X Z pn B ss):QS X Z pn (sWhile u B) (.While e ss [] pos):=xX (vj4 hp hc hb) λD σ H ay=>ex7 ay λE L r m w hr k=>by
 obtain⟨n0,hn⟩:=vqo hr;refine⟨λn σ1 H1=>∃E1 L1,Mt E1 σ1 L1/\World Z.K H1 L1/\whN u B n E1=some r/\Step H L H1 L1/\Pn pn σ σ1,⟨n0,E,L,m,w,hn,Step.refl,Pn.refl⟩,?_⟩;rintro n σ1 H1 ⟨E1,L1,m1,w1,h1,gj,p1⟩;cases n with
 | zero=>cases h1
 | succ n=>
  have k1:=k.step gj p1;unfold whN at h1;cases ht:u E1 with
  | none=>rw[ht]at h1;cases h1
  | some f=>
   rw [ht]at h1;cases f with
   | exc E2 c=>
    cases oq9 h1;exact⟨E1,L1,_,m1,w1,ht,k1.xc,λE' s' z=>by cases z⟩
   | ok E2 kk=>
    refine⟨E1,L1,_,m1,w1,ht,(λ_ _ z=>by cases z),λE' s' z L' H' m' w' st sm=>?_⟩;injection z with z1 z2;subst z1 z2;cases kk with
    | false=>
     rw[Xe (by decide)];cases oq9 h1;exact k1 σ1 L' H' Pn.refl m' w' st
    | true=>
     rw[Xa rfl];dsimp only at h1;refine⟨fun σ2 H2=>∃E2 L2,Mt E2 σ2 L2/\World Z.K H2 L2/\whN u B n E2=some r/\Step H L H2 L2/\Pn pn σ σ2,fun σ2 H2 h2=>⟨n,by omega,h2⟩,?_⟩;cases hB:B E2 with
     |none=>rw[hB]at h1;cases h1
     |some g=>
      rw[hB]at h1;have k2:=k1.step st Pn.refl;refine⟨E2,L',g,m',w',hB,?_⟩;cases g with
      |nx E3=>exact fun σ3 L3 H3 p3 m3 w3 s3=>⟨E3,L3,m3,w3,h1,gj.trans (st.trans s3),p1.trans p3⟩
      |ct E3=>exact fun σ3 L3 H3 p3 m3 w3 s3=>⟨E3,L3,m3,w3,h1,gj.trans (st.trans s3),p1.trans p3⟩
      |bk E3=>cases oq9 h1;exact k2
      |rt E3 x=>cases oq9 h1;exact k2
      |xc E3 c=>cases oq9 h1;exact k2
end
structure Walks (K:PySem.W.Frag)(J:It)(T:List Sl)(ds:List D):Prop where
 no:∀t∈T,t.o=.no
 go:∀i H,(∀t∈T,t.ok K H)->i<ds.length->J.go i H
 stop:∀H,(∀t∈T,t.ok K H)->J.stop ds.length H
 yld:∀i H v H' d,(∀t∈T,t.ok K H)->J.yld i H v H'->ds[i]?=some d->∃z:Sl,z.o=.no/\z.d=d/\z.v=v/\kj H H'/\z.ok K H'/\∀b∈z.as,∃t∈T,b∈t.as
noncomputable def tI(Z:Fx0)(q:Bool)(it:Ev (List D)):TI:=fun σ H R=>∃E L r,Mt E σ L/\World Z.K H L/\it E=some r/\Xc Z σ H L r /\
 ∀E' ds,r=.ok E' ds->∀J T L' H',Mt E' σ L'->World Z.K H' (L'++T.map some)->Step H L H' (L'++T.map some)->ds.length<=sizeLine->(q=true->kj H H')->Walks Z.K J T ds->R J H'
noncomputable def QI(X:Cx)(Z:Fx0)(q:Bool)(tg:Expr)(it:Ev (List D))(e:Expr):Prop:=PI X tg e (tI Z q it)
noncomputable def wx7(K:PySem.W.Frag)(H0:Hp)(T:List Sl)(H:Hp):Prop:=(∀t∈T,t.ok K H)/\∀t∈T,Kp H0 H t.as
structure WalksD (K:PySem.W.Frag)(H0:Hp)(J:It)(T:List Sl)(ds:List D):Prop where
 no:∀t∈T,t.o=.no
 go:∀i H,wx7 K H0 T H->i<ds.length->J.go i H
 stop:∀H,wx7 K H0 T H->J.stop ds.length H
 yld:∀i H v H' d,wx7 K H0 T H->J.yld i H v H'->ds[i]?=some d->∃z:Sl,z.o=.no/\z.d=d/\z.v=v/\kj H H'/\z.ok K H'/\∀b∈z.as,∃t∈T,b∈t.as
theorem Walks.D{K:PySem.W.Frag}{H0:Hp}{J:It}{T:List Sl}{ds:List D}(h:Walks K J T ds):WalksD K H0 J T ds:=⟨h.no,λi H o=>h.go i H o.1,λH o=>h.stop H o.1,λi H v H' d o=>h.yld i H v H' d o.1⟩
noncomputable def tID(Z:Fx0)(q:Bool)(it:Ev (List D)):TI:=fun σ H R=>∃E L r,Mt E σ L/\World Z.K H L/\it E=some r/\Xc Z σ H L r /\
 ∀E' ds,r=.ok E' ds->∀J T L' H',Mt E' σ L'->World Z.K H' (L'++T.map some)->Step H L H' (L'++T.map some)->ds.length<=sizeLine->(q=true->kj H H')->WalksD Z.K H' J T ds->R J H'
noncomputable def QID(X:Cx)(Z:Fx0)(q:Bool)(tg:Expr)(it:Ev (List D))(e:Expr):Prop:=PI X tg e (tID Z q it)
theorem QI.D{X:Cx}{Z:Fx0}{q:Bool}{tg:Expr}{it:Ev (List D)}{e:Expr}(h:QI X Z q tg it e):QID X Z q tg it e:=λpins s σ H R I hz=>h pins s σ H R I (by
 obtain⟨E,L,r,m,w,e,x,k⟩:=hz;exact⟨E,L,r,m,w,e,x,λE' ds z J T L' H' m' w' st hl sm wk=>k E' ds z J T L' H' m' w' st hl sm wk.D⟩)
structure WalksS (K:PySem.W.Frag)(q:Bool)(H0:Hp)(J:It)(T:List Sl)(ds:List D):Prop where
 no:∀t∈T,t.o=.no
 go:∀i H,(∀t∈T,t.ok K H)->(q=true->kj H0 H)->i<ds.length->J.go i H
 stop:∀H,(∀t∈T,t.ok K H)->(q=true->kj H0 H)->J.stop ds.length H
 yld:∀i H v H' d,(∀t∈T,t.ok K H)->(q=true->kj H0 H)->J.yld i H v H'->ds[i]?=some d->∃z:Sl,z.o=.no/\z.d=d/\z.v=v/\kj H H'/\z.ok K H'/\∀b∈z.as,∃t∈T,b∈t.as
theorem vqp{K:PySem.W.Frag}{q:Bool}{H0:Hp}{J:It}{T:List Sl}{ds:List D}(h:Walks K J T ds):WalksS K q H0 J T ds:=⟨h.no,λi H o _=>h.go i H o,λH o _=>h.stop H o,λi H v H' d o _=>h.yld i H v H' d o⟩
noncomputable def tIS(Z:Fx0)(q:Bool)(it:Ev (List D)):TI:=fun σ H R=>∃E L r,Mt E σ L/\World Z.K H L/\it E=some r/\Xc Z σ H L r /\
 ∀E' ds,r=.ok E' ds->∀J T L' H',Mt E' σ L'->World Z.K H' (L'++T.map some)->Step H L H' (L'++T.map some)->ds.length<=sizeLine->(q=true->kj H H')->WalksS Z.K q H J T ds->R J H'
noncomputable def QIS(X:Cx)(Z:Fx0)(q:Bool)(tg:Expr)(it:Ev (List D))(e:Expr):Prop:=PI X tg e (tIS Z q it)
theorem wxk{X:Cx}{Z:Fx0}{q:Bool}{tg:Expr}{it:Ev (List D)}{e:Expr}(h:QI X Z q tg it e):QIS X Z q tg it e:=λpins s σ H R I hz=>h pins s σ H R I (by
 obtain⟨E,L,r,m,w,e,x,k⟩:=hz;exact⟨E,L,r,m,w,e,x,λE' ds z J T L' H' m' w' st hl sm wk=>k E' ds z J T L' H' m' w' st hl sm (vqp wk)⟩)
noncomputable def tG(Z:Fx0)(pn:List Nat)(tg:Tg):TG:=λv σ H Q=>∃(E:En) (L:Ls) (z:Sl) (E':En),Mt E σ L/\World Z.K H (some z::L)/\z.o=.no/\z.v=v/\tg.put z.d E=some E' /\
 ∀ σ' L',Pn pn σ σ'->Mt E' σ' L'->World Z.K H L'->Step H (some z::L) H L'->Q σ' H
noncomputable def QG(X:Cx)(Z:Fx0)(pn:List Nat)(tg:Tg)(e:Expr):Prop:=PG X e (tG Z pn tg)
section
variable {X:Cx}{Z:Fx0}{pn:List Nat}{e:Expr}{σ:L2.St}{H:Hp}{L:Ls}{E:En}
theorem vky{t t':TG}(h:PG X e t)(w:∀v σ H Q,t' v σ H Q->t v σ H Q):PG X e t':=λpins s σ H x v Q I r q=>h pins s σ H x v Q I r (w x σ H Q q)
theorem VY{i:Nat}(h:PG X e (Z8 i))(hp:autoParam (i∉pn) ŕ):QG X Z pn (.n i) e:=vky h λv σ H Q ⟨E,L,z,E',m,w,ho,hv,bv,k⟩=>by
 cases oq9 bv;rw[<-hv];exact k (σ.set i (some z.v)) (L.set i (some z)) (Pn.refl.set hp) (Qv m ho rfl) w.set Step.set
noncomputable def gNs:List Nat->TGs
 |[]=>wxx
 |i::is=>wkz (Z8 i) (gNs is)
theorem qx8{Q:L2.St->Hp->Prop}{M:Ls}{σ0:L2.St}:∀{is:List Nat} {ds:List D} {xs:List V} {bs:List Addr} {E:En} {L:Ls} {σ:L2.St} {E':En},Mt E σ L->World Z.K H L->RepA Z.K H true ds xs bs->(∀b∈bs,b∉j7 L)->(∀b∈bs,b∈jW M)->Step H M H L->Pn pn σ0 σ ->
  setAll is ds E=some E'->(∀i∈is,i∉pn)->(∀ σ' L',Pn pn σ0 σ'->Mt E' σ' L'->World Z.K H L'->Step H M H L'->Q σ' H)->gNs is xs σ H Q
 | [],[],xs,bs,E,L,σ,E',m,w,r,_,_,st,p,e,_,k=>by
  cases oq9 e;unfold RepA at r;exact⟨r.1,k σ L p m w st⟩
 | [],_::_,_,_,_,_,_,_,_,_,_,_,_,_,_,e,_,_=>by cases e
 | _::_,[],_,_,_,_,_,_,_,_,_,_,_,_,_,e,_,_=>by cases e
 | i::is,d::ds,xs,bs,E,L,σ,E',m,w,r,hb,hf,st,p,e,hi,k=>by
  unfold RepA at r;obtain⟨x,rr,cs,es,rfl,rfl,h1,h2⟩:=r;have w1:World Z.K H (some ⟨.no,d,x,cs⟩::L):=w.consNo (x:=⟨.no,d,x,cs⟩) h1 rfl λb ef=>hb b (ll9 _ ef)
  have s1:Step H M H (L.set i (some ⟨.no,d,x,cs⟩)):=by
   refine⟨λ_ _ h _=>h,λa ha=>?_,λa ha=>?_⟩
   ·rcases W7 ha with z|z
    ·exact nomatch z
    ·exact st.own a z
   ·rcases ZW ha with z|z
    ·exact .inl (hf a (ll9 _ z))
    ·exact st.frz a z
  exact⟨x,rr,rfl,qx8 (is:=is) (Qv (x:=⟨.no,d,x,cs⟩) (s:=(.no,d)) m rfl rfl) w1.set h2 (λb ef ho=>by
   rcases W7 ho with z|z
   ·exact nomatch z
   ·exact hb b (lr9 _ ef) z) (λb ef=>hf b (lr9 _ ef)) s1 (p.set (hi i X2)) e (λj hj=>hi j (lc9 _ hj)) k⟩
theorem kqc:∀{is:List Nat} {ds:List D} {E E':En},setAll is ds E=some E'->is.length=ds.length
 |[],[],_,_,_=>rfl
 |[],_::_,_,_,e=>by cases e
 |_::_,[],_,_,e=>by cases e
 |i::is,d::ds,E,E',e=>by rw[Xn,Xn,kqc (E:=E.set i (some (.no,d))) e]
noncomputable def wwm(K:PySem.W.Frag)(n:Nat)(t:TGs):TG:=λv σ H Q=>∃a xs,v=.ref a/\(SqT K H a xs\/SqL K H a xs)/\xs.length=n/\t xs σ H Q
section
variable {prog:Program}{w:PySem.World}{A:Around}{E':Value->Shared->Prop}
theorem kx8{it t:Addr}{items:Array Value}(cx:t≠it):∀(n i:Nat) (s:Shared) (Q:List Value->Shared->Prop),s.heap.IsListIter it t i->s.heap.IsList t items->i+n<=items.size ->
  (∀h',h'.IsListIter it t (i+n)->Heap.SameBut it s.heap h'->Q ((items.toList.drop i).take n) { s with heap:=h' })->wpAny (model prog w) A (draw (.ref it) n) Q E' s
 | 0,i,s,Q,ql,_,_,hQ=>by
  show wpAny _ _ (pure []) Q E' s;exact X4 (by simpa using hQ s.heap ql (Heap.SameBut.refl ..))
 | n+1,i,s,Q,ql,ht,gf,hQ=>by
  have bj:i<items.size:=by omega
  show wpAny _ _ (pyNext (.ref it) >>= _) Q E' s;refine X0 (wpAny_pyNext_list_item ql ht (x:=items[i]) (by simp[bj]) λh₁ nj pi=>?_);have ht₁:h₁.IsList t items:=by
   obtain⟨o,ho,r⟩:=ht;exact⟨o,(pi.2 t cx).trans ho,r⟩
  refine X0 (Yb (kx8 cx n (i+1) _ _ nj ht₁ (by omega) λh₂ hit₂ hs₂=>X4 ?_));have hd:items.toList.drop i=items[i]::items.toList.drop (i+1):=by simp[Yi,bj]
  have:=hQ h₂ (by rw[show i+(n+1)=i+1+n by omega];exact hit₂) (pi.trans hs₂);rw[hd,List.take_succ_cons]at this;exact this
theorem jzp{s:Shared}{t:Addr}{items:Array Value}{Q:List Value->Shared->Prop}(hh:A.handled=none)(ht:s.heap.IsList t items)
  (hQ:∀h',Heap.ExtBut s.heap.objs.size s.heap h'->Q items.toList { s with heap:=h' }):wpAny (model prog w) A (unpackItems (.ref t) items.size none) Q E' s:=by
 have bj:t≠s.heap.objs.size:=by obtain⟨o,ho,_⟩:=ht;exact Y1 (Xj ho)
 unfold unpackItems;refine X0 ?_;unfold notIterableAtAll;refine X0 (wpAny_specialOf ht.typeIs slot_list_iter.lookup ?_);refine X4 ?_;simp only[Bool.false_eq_true,if_false];refine X0 (Yb (wpAny_pyIter_list ht ?_));have o9:∀o:Obj,(s.heap.push o).IsList t items:=λo=>by
  obtain⟨ob,ho,r⟩:=ht;exact⟨ob,X8 _ ho,r⟩
 refine X0 (Yb (kx8 bj items.size 0 _ _ ⟨_,Xl _ rfl,rfl,rfl⟩ (o9 _) (by omega) λh₁ nj pi=>?_));have kg:List.take items.size (List.drop 0 items.toList)=items.toList:=by
  rw[List.drop_zero];exact List.take_of_length_le (by simp)
 rw[kg];rw[Xe (by simp)];have ht₁:h₁.IsList t items:=by
  obtain⟨o,ho,r⟩:=o9 _;exact⟨o,(pi.2 t bj).trans ho,r⟩
 refine X0 (Yb (wpAny_pyNext_list_end hh nj ht₁ (by simp) λh₂ he₂=>?_));simp only[Option.isSome_none,Bool.false_eq_true,if_false];exact X4 (hQ h₂ λb o hb e=>he₂ b o hb (pi.extBut b o hb (X8 _ e)))
theorem jze{s:Shared}{env:Env}{gq:List Expr}{x1}{pos:Pos}{t:Addr}{items:Array Value}{Q:Unit->Shared->Prop}(hh:A.handled=none)(ht:s.heap.IsList t items)
  (hn:(assignEach gq env).length=items.size) (sw:(assignEach gq env).findIdx? (·.1)=none)
  (h:∀h',Heap.ExtBut s.heap.objs.size s.heap h'->wpAny (model prog w) A (assignInOrder ((assignEach gq env).map (·.2)) items.toList) Q E' { s with heap:=h' }):
  wpAny (model prog w) A (assign (.Tuple gq x1 pos) env (.ref t)) Q E' s:=by
 rw[assign_Tuple];refine X0 (wpAny_standAt ?_);unfold unpack;rw[hn,sw];exact X0 (Yb (jzp hh ht h))
end
theorem Vx(K:PySem.W.Frag){es:List Expr}{k:Nat}{t:TGs}{n:Nat}{pos:Pos}(h:PGs X es t)(hc:autoParam (X.calm=true) Ŕ)(hK:autoParam (X.K=K) Ŕ)
  (hn:autoParam ((assignEach es X.env).length=n) Ŕ) (b8:autoParam ((assignEach es X.env).findIdx? (·.1)=none) Ŕ):PG X (.Tuple es k pos) (wwm K n t):=by
 subst hK;intro pins s σ H v u Q I r hw;obtain⟨a,xs,e1,hq,hl,hw⟩:=hw;subst e1;cases r;rcases hq with hq|hq
 ·obtain⟨ak,rv,ht,hz⟩:=I.tuple hq;refine assign_Tuple_tuple (I.ok.hd hc) ht (by simp[hn,<-hl,rv.length]) b8 λh' hx=>?_
  have I1:L2.Inv X pins σ H { s with heap:=h' }:=I.kept (t':=s.toks) λb o e=>hx b o (Y1 (Xj e)) e
  exact h pins _ σ H xs _ Q I1 (by simpa using rv) hw
 ·obtain⟨ak,rv,ht,hz⟩:=I.list hq;refine jze (I.ok.hd hc) ht.isList (by simp[hn,<-hl,rv.length]) b8 λh' hx=>?_
  have I1:L2.Inv X pins σ H { s with heap:=h' }:=I.kept (t':=s.toks) λb o e=>hx b o (Y1 (Xj e)) e
  exact h pins _ σ H xs _ Q I1 (by simpa using rv) hw
theorem Vk{is:List Nat}(h:PG X e (wwm Z.K is.length (gNs is)))(hp:autoParam (∀i∈is,i∉pn) ŕ):QG X Z pn (.t is) e:=vky h λv σ H Q ⟨E,L,z,E',m,w,ho,hv,bv,k⟩=>by
 have fin:∀ds:List D,(z.d=.lst ds\/z.d=.tup ds)->setAll is ds E=some E'->wwm Z.K is.length (gNs is) v σ H Q:=λds hd bv=>by
  obtain⟨a,xs,bs,e1,q1,r,h1,h2⟩:=items w.head hd;rw[ho]at r;refine⟨a,xs,hv.symm.trans e1,?_,by rw[kqc bv,r.len],qx8 (M:=some z::L) m w.tail r (λb hb=>w.apart b (h1 b hb)) (λb hb=>?_) Step.drop Pn.refl bv hp k⟩
  ·rcases q1 with⟨_,z'⟩|⟨_,z'⟩
   ·exact .inr z'.sq
   ·exact .inl z'
  ·rw[qk,Z6 ho];exact ll9 _ (h1 b hb)
 cases hd:z.d with
 |tup ds=>rw[hd]at bv;exact fin ds (.inr hd) bv
 |lst ds=>rw[hd]at bv;exact fin ds (.inl hd) bv
 |_=>rw[hd]at bv;cases bv
theorem kwb{is:List Nat}{q:Bool}{c:Ex}{ea tg:Expr}{pos:Pos}(h:QE X Z q c ea)(hg:QG X Z pn (.t is) tg)(hs:autoParam (swapsWithSole [tg] ea pos.line X.env=pure false) Ŕ)(hw:autoParam (swappedStores [tg] ea X.env=pure none) Ŕ)(h1:autoParam ((assignEach [tg] X.env).map (·.2)=[assign tg X.env]) Ŕ):
  QS X Z pn (Qw is c) (.Assign [tg] ea pos):=xX (wjd h hg hs hw h1) λD σ H ay=>ex7 ay λE L r m w hc k=>
 W5 m w (show ofE (c E) _=some r from hc) k λE1 s h1 x L1 H1 e1 e2 m1 w1 st _=>by
  cases hp:Tg.put (.t is) s.2 E1 with
  |none=>rw[hp]at h1;cases h1
  |some E2=>
   rw[hp]at h1;cases oq9 h1;have w2:World Z.K H1 (some x.let::L1):=w1.tail.consNo (Qq w1.head) rfl λb hb=>w1.apart b hb
   have s2:Step H L H1 (some x.let::L1):=K5 (x:=x.let) (st.trans Step.drop) (jzv (x:=x) st) rfl;exact⟨E1,L1,x.let,E2,m1,w2,rfl,rfl,by rw[show x.let.d=s.2 from e2];exact hp,fun σ' L' p m' w' s'=>k σ' L' H1 p m' w' (s2.trans s')⟩
end
section
variable {X:Cx}{Z:Fx0}{pn:List Nat}{q:Bool}{tg iter:Expr}{it:Ev (List D)}{t:Tg}{B:Sm}{ss:List Stmt}{pos:Pos}{σ:L2.St}{H:Hp}{L:Ls}{E:En}
theorem kqg{K:PySem.W.Frag}{T:List Sl}{H1 H2:Hp}{L1:Ls}{z:Sl}(w:World K H1 (L1++T.map some))(hT:∀t∈T,t.o=.no)(sm:kj H1 H2)(ok:z.ok K H2)(ho:z.o=.no)(hz:∀b∈z.as,∃t∈T,b∈t.as):
  World K H2 ((some z::L1)++T.map some)/\Step H1 (L1++T.map some) H2 ((some z::L1)++T.map some):=by
 have w2:World K H2 (L1++T.map some):=⟨λx hx=>RepO.kp (w.ok x hx) (Kp.of_same sm),w.nd,w.ds⟩;have hf:∀b∈z.as,b∈jW (L1++T.map some):=λb hb=>by
  obtain⟨t,ht,hbt⟩:=hz b hb;rw[qv];exact lr9 _ (mem_frozen.mpr ⟨t,Xg ht,by rw[Z6 (hT t ht)];exact hbt⟩)
 refine⟨w2.consNo ok ho λb hb hL=>w2.ds b hL (hf b hb),λa ob h _=>sm a ob h,λa ha=>?_,λa ha=>?_⟩
 ·rw[List.cons_append,jz,qw0 ho]at ha;exact .inl ha
 ·rw[List.cons_append,qk,Z6 ho]at ha;rcases List.mem_append.mp ha with q|q
  ·exact .inl (hf a q)
  ·exact .inl q
theorem stay{K:PySem.W.Frag}{T L1 L2:Ls}{H1 H2:Hp}(w:World K H1 (L1++T))(s:Step H1 L1 H2 L2)(w2:World K H2 L2):World K H2 (L2++T)/\Step H1 (L1++T) H2 (L2++T):=⟨s.frame w w2 w.left,s.frm⟩
theorem Step.dropT{T:Ls}{H1:Hp}{L1:Ls}:Step H1 (L1++T) H1 L1:=⟨λ_ _ h _=>h,λa ha=>.inl (by rw[k6];exact ll9 _ ha),λa ha=>.inl (by rw[qv];exact ll9 _ ha)⟩
theorem Kp.trans{H H1 H2:Hp}{as:List Addr}(a:Kp H H1 as)(b:Kp H1 H2 as):Kp H H2 as:=⟨λc xs e=>b.1 c xs (a.1 c xs e),λc o u e=>b.2.1 c o u (a.2.1 c o u e),λc hc ob e=>b.2.2 c hc ob (a.2.2 c hc ob e)⟩
theorem qjh{K:PySem.W.Frag}{H2 H3:Hp}{L2 L3:Ls}{T:List Sl}(w:World K H2 (L2++T.map some))(hT:∀t∈T,t.o=.no)(s:Step H2 L2 H3 L3){H0:Hp}(h:∀t∈T,Kp H0 H2 t.as):∀t∈T,Kp H0 H3 t.as:=λt ht=>
 (h t ht).trans (s.kp w.left λb hb z=>w.ds b (by rw[k6];exact ll9 _ z) (by
  rw[qv];exact lr9 _ (mem_frozen.mpr ⟨t,Xg ht,by rw[Z6 (hT t ht)];exact hb⟩)))
theorem wj3(hp:PassesOwn (model X.prog X.w) X.A X.env X.xe)(hc:X.calm=true)(hi:QID X Z q tg it iter)(hg:QG X Z pn t tg)(hb:QSs X Z pn B ss)(hs:autoParam (∀x,foldedSetIterable iter X.env x=pure x) Ŗ):QS X Z pn (wW it t B) (.For tg iter ss [] pos):=xX (wjc hp hc hi hg hb hs) λD σ H ay=>ex7 ay λE L r m w hr k=>by
 have hr:ofE (it E) (λE ds=>J4 t B ds E)=some r:=hr;rcases jw2 hr with⟨E1,ds,h1,h2⟩|⟨E1,c,h1,rfl⟩
 rotate_left
 ·exact⟨E,L,_,m,w,h1,k.xc,λE' s' z=>by cases z⟩
 refine⟨E,L,_,m,w,h1,(λ_ _ z=>by cases z),λE' ds' z J T L' H' m' w' st hz _ wk=>?_⟩;injection z with z1 z2;subst z1 z2;have ji:∀{H2:Hp} {L2:Ls},World Z.K H2 (L2++T.map some)->∀t∈T,t.ok Z.K H2:=λw2 t ht=>w2.ok t (lr9 _ (Xg ht))
 refine⟨λi n σ1 H1=>∃E1 L1,Mt E1 σ1 L1/\World Z.K H1 (L1++T.map some)/\Step H L H1 (L1++T.map some)/\Pn pn σ σ1/\J4 t B (ds.drop i) E1=some r/\i<=ds.length/\n=ds.length - i/\∀t∈T,Kp H' H1 t.as,⟨_,E1,L',m',w',st,Pn.refl,h2,Yf _,rfl,λ_ _=>Kp.of_same xV⟩,?_⟩;rintro i n σ1 H1 ⟨E1,L1,m1,w1,gj,p1,f1,hi,rfl,pins⟩
 by_cases bj:i<ds.length
 ·have hd:ds.drop i=ds[i]::ds.drop (i+1):=Yi bj;rw [hd]at f1;unfold J4 at f1;cases bv:t.put ds[i] E1 with
  | none=>rw[bv]at f1;cases f1
  | some E2=>
   rw[bv]at f1;dsimp only at f1;refine .inr ⟨wk.go i H1 ⟨ji w1,pins⟩ bj,fun σ2 H2=>∃E2 L2,Mt E2 σ2 L2/\World Z.K H2 (L2++T.map some)/\Step H L H2 (L2++T.map some)/\Pn pn σ σ2/\J4 t B (ds.drop (i+1)) E2=some r/\∀t∈T,Kp H' H2 t.as,fun σ2 H2 ⟨E2,L2,a1,a2,a3,a4,a5,a6⟩=>⟨ds.length - (i+1),by omega,E2,L2,a1,a2,a3,a4,a5,bj,rfl,a6⟩,λv H2 hy=>?_⟩;obtain⟨z,zo,zd,zv,sm,so,zas⟩:=wk.yld i H1 v H2 ds[i] ⟨ji w1,pins⟩ hy (X1 bj);obtain⟨wz,sz⟩:=kqg w1 wk.no sm so zo zas;refine⟨E1,L1,z,E2,m1,wz.left,zo,zv,by rw[zd];exact bv,fun σ2 L2 p2 m2 w2 bn=>?_⟩;obtain⟨w3,dj⟩:=stay wz bn w2;have jn:Step H L H2 (L2++T.map some):=gj.trans (sz.trans dj);have ma:∀t∈T,Kp H' H2 t.as:=λt ht=>(pins t ht).trans (Kp.of_same sm)
   cases hB:B E2 with
   | none=>rw[hB]at f1;cases f1
   | some g=>
    rw[hB]at f1;refine⟨E2,L2,g,m2,w2,hB,?_⟩;have fin:∀{g:Fl},g=r->(∀ σ',D.nx σ'=D.nx σ')->FlP Z pn D σ2 H2 (L2++T.map some) g:=λe _=>e▸k.step jn (p1.trans p2)
    cases g with
    |nx E3=>
     intro σ3 L3 H3 p3 m3 w4 s3;obtain⟨w5,s5⟩:=stay w3 s3 w4;exact⟨E3,L3,m3,w5,jn.trans s5,(p1.trans p2).trans p3,f1,qjh w3 wk.no s3 ma⟩
    |ct E3=>
     intro σ3 L3 H3 p3 m3 w4 s3;obtain⟨w5,s5⟩:=stay w3 s3 w4;exact⟨E3,L3,m3,w5,jn.trans s5,(p1.trans p2).trans p3,f1,qjh w3 wk.no s3 ma⟩
    |bk E3=>
     have e:=oq9 f1;subst e;intro σ3 L3 H3 p3 m3 w4 s3;exact k σ3 L3 H3 ((p1.trans p2).trans p3) m3 w4 ((jn.trans Step.dropT).trans s3)
    |rt E3 x=>
     have e:=oq9 f1;subst e;intro y σ3 L3 H3 e1 e2 p3 m3 w4 s3;exact k y σ3 L3 H3 e1 e2 ((p1.trans p2).trans p3) m3 w4 ((jn.trans Step.dropT).trans s3)
    |xc E3 c=>
     have e:=oq9 f1;subst e;intro C σ3 L3 H3 hm p3 m3 w4 s3;exact k C σ3 L3 H3 hm ((p1.trans p2).trans p3) m3 w4 ((jn.trans Step.dropT).trans s3)
 ·have e:i=ds.length:=by omega
  subst e;rw[List.drop_length]at f1;cases oq9 f1;exact .inl ⟨wk.stop H1 ⟨ji w1,pins⟩,k σ1 L1 H1 p1 m1 w1.left (gj.trans Step.dropT)⟩
theorem wvq(hp:PassesOwn (model X.prog X.w) X.A X.env X.xe)(hc:X.calm=true)(hi:QI X Z q tg it iter)(hg:QG X Z pn t tg)(hb:QSs X Z pn B ss)(hs:autoParam (∀x,foldedSetIterable iter X.env x=pure x) Ŗ):QS X Z pn (wW it t B) (.For tg iter ss [] pos):=wj3 hp hc hi.D hg hb hs
end
mutual
noncomputable def jv(h:Heap):D->Value->Prop
 |.non,u=>u=.none
 |.bl b,u=>u=.bool b
 |.int i,u=>∃t,u=.int i t
 |.str z,u=>∃t,u=.str z t
 |.tup ds,u=>∃a us,u=.ref a/\h.IsTuple a us.toArray/\CReps h ds us
 |.lst ds,u=>∃a us,u=.ref a/\h.IsList a us.toArray/\CReps h ds us
 |.dct _,_=>False
 |.obj _ _,_=>False
noncomputable def CReps(h:Heap):List D->List Value->Prop
 |[],us=>us=[]
 |d::ds,us=>∃u r,us=u::r/\jv h d u/\CReps h ds r
end
theorem qk4{n:Nat}{k:List (D×D)}:D.flat n (.dct k)=false:=by cases n<;>simp[D.flat]
theorem qk3{n:Nat}{c:Str}{k:List (Str×D)}:D.flat n (.obj c k)=false:=by cases n<;>simp[D.flat]
section
variable {X:Cx}{pins:List (Addr×Obj)}{σ:L2.St}{H:Hp}{s:Shared}
mutual
theorem Qx(I:Inv X pins σ H s){g:Bool}:∀{n:Nat} {d:D} {v:V} {as:List Addr} {u:Value},RepL X.K H g d v as->d.flat n=true->RelV v u->jv s.heap d u
 | _,.non,_,_,_,h,_,r=>by
  unfold RepL at h;rw[h.1]at r;unfold jv;exact r
 | _,.bl _,_,_,_,h,_,r=>by
  unfold RepL at h;rw[h.1]at r;unfold jv;exact r
 | _,.int _,_,_,_,h,_,r=>by
  unfold RepL at h;rw[h.1]at r;unfold jv;exact r
 | _,.str _,_,_,_,h,_,r=>by
  unfold RepL at h;rw[h.1]at r;unfold jv;exact r
 | 0,.tup ds,_,_,_,h,f,r=>by unfold D.flat at f;cases f
 | n+1,.tup ds,_,_,_,h,f,r=>by
  unfold RepL at h;unfold D.flat at f;obtain⟨a,xs,rfl,q,ra⟩:=h;cases r;obtain⟨ak,rv,p,_⟩:=I.tuple q;unfold jv;exact⟨a,ak,rfl,p,creps_of I ra f rv⟩
 | 0,.lst ds,_,_,_,h,f,r=>by unfold D.flat at f;cases f
 | n+1,.lst ds,_,_,_,h,f,r=>by
  unfold RepL at h;unfold D.flat at f;obtain⟨a,xs,bs,rfl,ra,q⟩:=h;cases r;have q':SqL X.K H a xs:=by
   rcases q with⟨q,_⟩|⟨_,q,_⟩
   ·exact SqL.of q
   ·exact(LsR.of q).sq
  obtain⟨ak,rv,p,_⟩:=I.list q';unfold jv;exact⟨a,ak,rfl,p.isList,creps_of I ra f rv⟩
 |_,.dct _,_,_,_,h,f,r=>by rw[qk4]at f;cases f
 |_,.obj _ _,_,_,_,h,f,r=>by rw[qk3]at f;cases f
theorem creps_of(I:Inv X pins σ H s){g:Bool}:∀{n:Nat} {ds:List D} {xs:List V} {as:List Addr} {us:List Value},RepA X.K H g ds xs as->D.flats n ds=true->Vals xs us->CReps s.heap ds us
 | _,[],_,_,_,h,_,r=>by
  unfold RepA at h;rw[h.1]at r;cases r;unfold CReps;rfl
 | n,d::ds,_,_,_,h,f,r=>by
  unfold RepA at h;unfold D.flats at f;rw[Bool.and_eq_true]at f;obtain⟨x,rr,bs,cs,rfl,rfl,h1,h2⟩:=h;cases r with
  |cons r1 r2=>
   unfold CReps;exact⟨_,_,rfl,Qx I h1 f.1 r1,creps_of I h2 f.2 r2⟩
end
end
theorem CReps.len{h:Heap}:∀{ds:List D} {us:List Value},CReps h ds us->ds.length=us.length
 |[],_,r=>by unfold CReps at r;rw[r];rfl
 |d::ds,_,r=>by
  unfold CReps at r;obtain⟨u,rr,rfl,_,h2⟩:=r;simp[CReps.len h2]
theorem CReps.get{h:Heap}:∀{ds:List D} {us:List Value} {j:Nat} {d:D},CReps h ds us->ds[j]?=some d->∃u,us[j]?=some u/\jv h d u
 | [],_,_,_,_,e=>by simp at e
 | d::ds,_,j,d',r,e=>by
  unfold CReps at r;obtain⟨u,rr,rfl,h1,h2⟩:=r;cases j with
  |zero=>
   have e:d=d':=by simpa using e
   subst e;exact⟨u,by simp,h1⟩
  |succ j=>
   obtain⟨w,e1,e2⟩:=CReps.get (j:=j) h2 (by simpa using e);exact⟨w,by simpa using e1,e2⟩
theorem vqs{h:Heap}{a:Addr}{x y:Array Value}(p:h.IsTuple a x)(q:h.IsTuple a y):x=y:=by
 obtain⟨o,h1,_,n,h2⟩:=p;obtain⟨o',h3,_,n',h4⟩:=q;rw[h1]at h3;cases h3;rw[h2]at h4;injection h4
theorem vwi{h:Heap}{a:Addr}{x y:Array Value}(p:h.IsList a x)(q:h.IsList a y):x=y:=by
 obtain⟨o,h1,_,n,h2⟩:=p;obtain⟨o',h3,_,n',h4⟩:=q;rw[h1]at h3;cases h3;rw[h2]at h4;injection h4
theorem qwj{h:Heap}{a:Addr}{x y:Array Value}(p:h.IsList a x)(q:h.IsTuple a y):False:=by
 obtain⟨o,h1,h2,_⟩:=p;obtain⟨o',h3,h4,_⟩:=q;rw[h1]at h3;cases h3;rw[h2]at h4;exact absurd (Value.type.inj h4) (by decide)
mutual
theorem kj7{h:Heap}:∀{d d':D} {u:Value},jv h d u->jv h d' u->d=d'
 | .non,d',u,a,b=>by
  unfold jv at a;subst a;cases d'<;>unfold jv at b<;>first|rfl|exact b.elim|(cases b;done)|(obtain⟨_,b⟩:=b;cases b;done)|(obtain⟨_,_,b,_⟩:=b;cases b)
 | .bl k,d',u,a,b=>by
  unfold jv at a;subst a;cases d'<;>unfold jv at b<;>first|exact b.elim|(cases b;rfl)|(cases b;done)|(obtain⟨_,b⟩:=b;cases b;done)|(obtain⟨_,_,b,_⟩:=b;cases b)
 | .int k,d',u,a,b=>by
  unfold jv at a;obtain⟨t,rfl⟩:=a;cases d'<;>unfold jv at b<;>first|exact b.elim|(cases b;done)|(obtain⟨_,b⟩:=b;cases b;rfl)|(obtain⟨_,b⟩:=b;cases b;done)|(obtain⟨_,_,b,_⟩:=b;cases b)
 | .str k,d',u,a,b=>by
  unfold jv at a;obtain⟨t,rfl⟩:=a;cases d'<;>unfold jv at b<;>first|exact b.elim|(cases b;done)|(obtain⟨_,b⟩:=b;cases b;rfl)|(obtain⟨_,b⟩:=b;cases b;done)|(obtain⟨_,_,b,_⟩:=b;cases b)
 | .tup ds,d',u,a,b=>by
  unfold jv at a;obtain⟨x,us,rfl,p,r⟩:=a;cases d' with
  |tup es=>
   unfold jv at b;obtain⟨y,ws,e,p',r'⟩:=b;cases e;have e2:us=ws:=by simpa using vqs p p'
   subst e2;rw[creps_inj r r']
  |lst es=>
   unfold jv at b;obtain⟨y,ws,e,p',r'⟩:=b;cases e;exact(qwj p' p).elim
  |non=>unfold jv at b;cases b
  |bl k=>unfold jv at b;cases b
  |int k=>unfold jv at b;obtain⟨_,b⟩:=b;cases b
  |str k=>unfold jv at b;obtain⟨_,b⟩:=b;cases b
  |dct k=>unfold jv at b;exact b.elim
  |obj k l=>unfold jv at b;exact b.elim
 | .lst ds,d',u,a,b=>by
  unfold jv at a;obtain⟨x,us,rfl,p,r⟩:=a;cases d' with
  |lst es=>
   unfold jv at b;obtain⟨y,ws,e,p',r'⟩:=b;cases e;have e2:us=ws:=by simpa using vwi p p'
   subst e2;rw[creps_inj r r']
  |tup es=>
   unfold jv at b;obtain⟨y,ws,e,p',r'⟩:=b;cases e;exact(qwj p p').elim
  |non=>unfold jv at b;cases b
  |bl k=>unfold jv at b;cases b
  |int k=>unfold jv at b;obtain⟨_,b⟩:=b;cases b
  |str k=>unfold jv at b;obtain⟨_,b⟩:=b;cases b
  |dct k=>unfold jv at b;exact b.elim
  |obj k l=>unfold jv at b;exact b.elim
 |.dct k,_,_,a,_=>by unfold jv at a;exact a.elim
 |.obj k l,_,_,a,_=>by unfold jv at a;exact a.elim
theorem creps_inj{h:Heap}:∀{ds ds':List D} {us:List Value},CReps h ds us->CReps h ds' us->ds=ds'
 | [],ds',us,a,b=>by
  unfold CReps at a;subst a;cases ds' with
  |nil=>rfl
  |cons d ds=>unfold CReps at b;obtain⟨_,_,e,_⟩:=b;cases e
 | d::ds,ds',us,a,b=>by
  unfold CReps at a;obtain⟨u,r,rfl,h1,h2⟩:=a;cases ds' with
  |nil=>unfold CReps at b;cases b
  |cons d' ds'=>
   unfold CReps at b;obtain⟨u',r',e,h3,h4⟩:=b;cases e;rw[kj7 h1 h3,creps_inj h2 h4]
end
mutual
theorem W4:∀{n:Nat} {d:D},d.flat n=true->peq d d=true
 |_,.non,_=>by unfold peq;rfl
 |_,.bl b,_=>by unfold peq;simp
 |_,.int b,_=>by unfold peq;simp
 |_,.str b,_=>by unfold peq;simp
 |0,.tup ds,f=>by unfold D.flat at f;cases f
 |n+1,.tup ds,f=>by unfold peq;unfold D.flat at f;exact peqs_refl f
 |0,.lst ds,f=>by unfold D.flat at f;cases f
 |n+1,.lst ds,f=>by unfold peq;unfold D.flat at f;exact peqs_refl f
 |_,.dct _,f=>by rw[qk4]at f;cases f
 |_,.obj _ _,f=>by rw[qk3]at f;cases f
theorem peqs_refl:∀{n:Nat} {d:List D},D.flats n d=true->peqs d d=true
 |_,[],_=>by unfold peqs;rfl
 |n,d::ds,f=>by
  unfold D.flats at f;rw[Bool.and_eq_true]at f;unfold peqs;rw[W4 f.1,peqs_refl f.2];rfl
end
theorem jxh : ∀{n : Nat} {ds : List D} {j : Nat} {d : D}, D.flats n ds = true -> ds[j]? = some d -> d.flat n = true
  | _, [], _, _, _, e=>by simp at e
  | n, d::ds, j, d', f, e=>by
    unfold D.flats at f;rw[Bool.and_eq_true]at f;cases j with
    | zero => have e : d = d':= by simpa using e
              subst e; exact f.1
    |succ j=>exact jxh (j:= j) f.2 (by simpa using e)
noncomputable def pAt(as bs:List D)(j:Nat):Bool:=match as[j]?,bs[j]? with
 |some a,some b=>peq a b
 |_,_=>true
theorem jwb:∀(as bs:List D),as.length=bs.length->(List.range as.length).all (pAt as bs)=peqs as bs
 |[],[],_=>by unfold peqs;rfl
 |a::as,b::bs,h=>by
  have ih:=jwb as bs (by simpa using h);rw[Xn,List.range_succ_eq_map,List.all_cons,List.all_map];unfold peqs;rw[<-ih];rfl
 |[],_::_,h=>by simp at h
 |_::_,[],h=>by simp at h
theorem jzz:∀(as bs:List D),as.length≠bs.length->peqs as bs=false
 |[],[],h=>by simp at h
 |a::as,b::bs,h=>by
  unfold peqs;rw[jzz as bs (by simpa using h),Bool.and_false]
 |[],_::_,_=>by unfold peqs;rfl
 |_::_,[],_=>by unfold peqs;rfl
theorem kzy(as bs:List D):((List.range (min as.length bs.length)).all (pAt as bs)&&as.length==bs.length)=peqs as bs:=by
 by_cases e:as.length=bs.length
 ·rw[<-e,Nat.min_self,jwb as bs e];simp[e]
 ·rw[jzz as bs e];have:(as.length==bs.length)=false:=by simpa using e
  rw[this,Bool.and_false]
section
variable {s:Shared}
theorem kz7{as bs:List D}{us ws:List Value}{A:Around}(ra:CReps s.heap as us)(rb:CReps s.heap bs ws)
  (h:∀(j:Nat) (d d':D) (u w:Value),as[j]?=some d->bs[j]?=some d'->jv s.heap d u->jv s.heap d' w->SeqAt.EqAt A s u w (peq d d')):
  ∀j (h1:j<us.toArray.size) (h2:j<ws.toArray.size),SeqAt.EqAt A s us.toArray[j] ws.toArray[j] (pAt as bs j):=λj h1 h2=>by
 have l1:=ra.len;have l2:=rb.len;simp only[X6]at h1 h2;have ha:j<as.length:=by omega
 have hb:j<bs.length:=by omega
 obtain⟨u,eu,ru⟩:=ra.get (X1 ha);obtain⟨w,ew,ph⟩:=rb.get (X1 hb);have e1:us.toArray[j]=u:=by
  obtain⟨_,q⟩:=List.getElem?_eq_some_iff.mp eu
  simpa using q
 have e2:ws.toArray[j]=w:=by
  obtain⟨_,q⟩:=List.getElem?_eq_some_iff.mp ew
  simpa using q
 have e3:pAt as bs j=peq as[j] bs[j]:=by
  unfold pAt;rw[X1 ha,X1 hb]
 rw[e1,e2,e3];exact h j _ _ u w (X1 ha) (X1 hb) ru ph
inductive Cv (h:Heap):D->Value->Prop
 |non:Cv h .non .none
 |bl (b:Bool):Cv h (.bl b) (.bool b)
 |int (i:Int) (t:_):Cv h (.int i) (.int i t)
 |str (z:Str) (t:_):Cv h (.str z) (.str z t)
 |lst {ds:List D} {a:Addr} {us:List Value} (p:h.IsList a us.toArray) (q:CReps h ds us):Cv h (.lst ds) (.ref a)
 |tup {ds:List D} {a:Addr} {us:List Value} (p:h.IsTuple a us.toArray) (q:CReps h ds us):Cv h (.tup ds) (.ref a)
theorem crv{h:Heap}{d:D}{u:Value}(r:jv h d u):Cv h d u:=by
 cases d<;>unfold jv at r
 all_goals first|exact r.elim|(subst r;constructor)|(obtain⟨_,rfl⟩:=r;constructor)|(obtain⟨_,_,rfl,p,q⟩:=r;first|exact .lst p q|exact .tup p q)
theorem vzl{A:Around}{d d':D}{u w:Value}(hu:A.units<cLine)(r:jv s.heap d u)(r':jv s.heap d' w)
  (el:∀(as bs:List D) (us ws:List Value),(d=.lst as\/d=.tup as)->(d'=.lst bs\/d'=.tup bs)->CReps s.heap as us->CReps s.heap bs ws->∀j (h1:j<us.toArray.size) (h2:j<ws.toArray.size),SeqAt.EqAt A.in1 s us.toArray[j] ws.toArray[j] (pAt as bs j)):
  SeqAt.RcAt A s u w (peq d d'):=by
 cases crv r<;>cases crv r'<;>unfold peq
 ·exact SeqAt.RcAt.none_none
 ·exact SeqAt.RcAt.none_bool _
 ·exact SeqAt.RcAt.none_int _ _
 ·exact SeqAt.RcAt.none_str _ _
 ·exact SeqAt.RcAt.none_list ‹_› hu
 ·exact SeqAt.RcAt.none_tuple ‹_› hu
 ·exact SeqAt.RcAt.bool_none _
 ·exact SeqAt.RcAt.bool_bool _ _
 ·exact SeqAt.RcAt.bool_int _ _ _
 ·exact SeqAt.RcAt.bool_str _ _ _
 ·exact SeqAt.RcAt.bool_list _ ‹_› hu
 ·exact SeqAt.RcAt.bool_tuple _ ‹_› hu
 ·exact SeqAt.RcAt.int_none _ _
 ·exact SeqAt.RcAt.int_bool _ _ _
 ·exact SeqAt.RcAt.int_int _ _ _ _
 ·exact SeqAt.RcAt.int_str _ _ _ _
 ·exact SeqAt.RcAt.int_list _ _ ‹_› hu
 ·exact SeqAt.RcAt.int_tuple _ _ ‹_› hu
 ·exact SeqAt.RcAt.str_none _ _
 ·exact SeqAt.RcAt.str_bool _ _ _
 ·exact SeqAt.RcAt.str_int _ _ _ _
 ·exact SeqAt.RcAt.str_str _ _ _ _
 ·exact SeqAt.RcAt.str_list _ _ ‹_› hu
 ·exact SeqAt.RcAt.str_tuple _ _ ‹_› hu
 ·exact SeqAt.RcAt.list_none ‹_› hu
 ·exact SeqAt.RcAt.list_bool _ ‹_› hu
 ·exact SeqAt.RcAt.list_int _ _ ‹_› hu
 ·exact SeqAt.RcAt.list_str _ _ ‹_› hu
 ·rename_i as a us p ra bs b ws p' rb;have l1:=ra.len;have l2:=rb.len
  by_cases hl:as.length=bs.length
  ·rw[<-jwb as bs hl];have z:=SeqAt.RcAt.lists (A:=A) (s:=s) (e:=pAt as bs) p p' (by simp only[X6];omega) hu (el as bs us ws (.inl rfl) (.inl rfl) ra rb);rw[X6,<-l1]at z;exact z
  ·rw[jzz as bs hl];exact SeqAt.RcAt.lists_lengths p p' (by simp only[X6,bne_iff_ne];omega) hu
 ·exact SeqAt.RcAt.list_tuple ‹_› ‹_› hu
 ·exact SeqAt.RcAt.tuple_none ‹_› hu
 ·exact SeqAt.RcAt.tuple_bool _ ‹_› hu
 ·exact SeqAt.RcAt.tuple_int _ _ ‹_› hu
 ·exact SeqAt.RcAt.tuple_str _ _ ‹_› hu
 ·exact SeqAt.RcAt.tuple_list ‹_› ‹_› hu
 ·rename_i as a us p ra bs b ws p' rb;have l1:=ra.len;have l2:=rb.len;rw[<-kzy as bs];have z:=SeqAt.RcAt.tuples (A:=A) (s:=s) (e:=pAt as bs) p p' hu (el as bs us ws (.inr rfl) (.inr rfl) ra rb);rw[X6,X6,<-l1,<-l2]at z;exact z
theorem wvl{A:Around}{d d':D}{u w:Value}(hu:A.units<cLine)(r:jv s.heap d u)(r':jv s.heap d' w)
  (el:∀(as bs:List D) (us ws:List Value),(d=.lst as\/d=.tup as)->(d'=.lst bs\/d'=.tup bs)->CReps s.heap as us->CReps s.heap bs ws->∀j (h1:j<us.toArray.size) (h2:j<ws.toArray.size),SeqAt.EqAt A.in1 s us.toArray[j] ws.toArray[j] (pAt as bs j)):
  SeqAt.RcNeAt A s u w (!peq d d'):=by
 cases crv r<;>cases crv r'<;>unfold peq
 ·exact SeqAt.RcNeAt.none_none
 ·exact SeqAt.RcNeAt.none_bool _
 ·exact SeqAt.RcNeAt.none_int _ _
 ·exact SeqAt.RcNeAt.none_str _ _
 ·exact SeqAt.RcNeAt.none_list ‹_› hu
 ·exact SeqAt.RcNeAt.none_tuple ‹_› hu
 ·exact SeqAt.RcNeAt.bool_none _
 ·exact SeqAt.RcNeAt.bool_bool _ _
 ·exact SeqAt.RcNeAt.bool_int _ _ _
 ·exact SeqAt.RcNeAt.bool_str _ _ _
 ·exact SeqAt.RcNeAt.bool_list _ ‹_› hu
 ·exact SeqAt.RcNeAt.bool_tuple _ ‹_› hu
 ·exact SeqAt.RcNeAt.int_none _ _
 ·exact SeqAt.RcNeAt.int_bool _ _ _
 ·exact SeqAt.RcNeAt.int_int _ _ _ _
 ·exact SeqAt.RcNeAt.int_str _ _ _ _
 ·exact SeqAt.RcNeAt.int_list _ _ ‹_› hu
 ·exact SeqAt.RcNeAt.int_tuple _ _ ‹_› hu
 ·exact SeqAt.RcNeAt.str_none _ _
 ·exact SeqAt.RcNeAt.str_bool _ _ _
 ·exact SeqAt.RcNeAt.str_int _ _ _ _
 ·exact SeqAt.RcNeAt.str_str _ _ _ _
 ·exact SeqAt.RcNeAt.str_list _ _ ‹_› hu
 ·exact SeqAt.RcNeAt.str_tuple _ _ ‹_› hu
 ·exact SeqAt.RcNeAt.list_none ‹_› hu
 ·exact SeqAt.RcNeAt.list_bool _ ‹_› hu
 ·exact SeqAt.RcNeAt.list_int _ _ ‹_› hu
 ·exact SeqAt.RcNeAt.list_str _ _ ‹_› hu
 ·rename_i as a us p ra bs b ws p' rb;have l1:=ra.len;have l2:=rb.len
  by_cases hl:as.length=bs.length
  ·rw[<-jwb as bs hl];have z:=SeqAt.RcNeAt.lists (A:=A) (s:=s) (e:=pAt as bs) p p' (by simp only[X6];omega) hu (el as bs us ws (.inl rfl) (.inl rfl) ra rb);rw[X6,<-l1]at z;exact z
  ·rw[jzz as bs hl];exact SeqAt.RcNeAt.lists_lengths p p' (by simp only[X6,bne_iff_ne];omega) hu
 ·exact SeqAt.RcNeAt.list_tuple ‹_› ‹_› hu
 ·exact SeqAt.RcNeAt.tuple_none ‹_› hu
 ·exact SeqAt.RcNeAt.tuple_bool _ ‹_› hu
 ·exact SeqAt.RcNeAt.tuple_int _ _ ‹_› hu
 ·exact SeqAt.RcNeAt.tuple_str _ _ ‹_› hu
 ·exact SeqAt.RcNeAt.tuple_list ‹_› ‹_› hu
 ·rename_i as a us p ra bs b ws p' rb;have l1:=ra.len;have l2:=rb.len;rw[<-kzy as bs];have z:=SeqAt.RcNeAt.tuples (A:=A) (s:=s) (e:=pAt as bs) p p' hu (el as bs us ws (.inr rfl) (.inr rfl) ra rb);rw[X6,X6,<-l1,<-l2]at z;exact z
theorem kvl{A:Around}{a a':Addr}{b:Bool}(nt:Value.ref a=Value.ref a'->b=true)(rc:SeqAt.RcAt A s (.ref a) (.ref a') b):SeqAt.EqAt A s (.ref a) (.ref a') b:=by
 by_cases e:a=a'
 ·subst e;rw[nt rfl];exact SeqAt.EqAt.same _
 ·exact SeqAt.EqAt.of_refs e rc
theorem vk1{A:Around}{d d':D}{u w:Value}(hu:A.units<cLine)(r:jv s.heap d u)(r':jv s.heap d' w)(nt:u=w->peq d d'=true)(rc:SeqAt.RcAt A s u w (peq d d')):SeqAt.EqAt A s u w (peq d d'):=by
 cases crv r<;>cases crv r'<;>try unfold peq
 ·exact SeqAt.EqAt.same _
 ·exact SeqAt.EqAt.none_bool _
 ·exact SeqAt.EqAt.none_int _ _
 ·exact SeqAt.EqAt.none_str _ _
 ·exact SeqAt.EqAt.none_list ‹_› hu
 ·exact SeqAt.EqAt.none_tuple ‹_› hu
 ·exact SeqAt.EqAt.bool_none _
 ·exact SeqAt.EqAt.bool_bool _ _
 ·exact SeqAt.EqAt.bool_int _ _ _
 ·exact SeqAt.EqAt.bool_str _ _ _
 ·exact SeqAt.EqAt.bool_list _ ‹_› hu
 ·exact SeqAt.EqAt.bool_tuple _ ‹_› hu
 ·exact SeqAt.EqAt.int_none _ _
 ·exact SeqAt.EqAt.int_bool _ _ _
 ·exact SeqAt.EqAt.int_int _ _ _ _
 ·exact SeqAt.EqAt.int_str _ _ _ _
 ·exact SeqAt.EqAt.int_list _ _ ‹_› hu
 ·exact SeqAt.EqAt.int_tuple _ _ ‹_› hu
 ·exact SeqAt.EqAt.str_none _ _
 ·exact SeqAt.EqAt.str_bool _ _ _
 ·exact SeqAt.EqAt.str_int _ _ _ _
 ·exact SeqAt.EqAt.str_str _ _ _ _
 ·exact SeqAt.EqAt.str_list _ _ ‹_› hu
 ·exact SeqAt.EqAt.str_tuple _ _ ‹_› hu
 ·exact SeqAt.EqAt.list_none ‹_› hu
 ·exact SeqAt.EqAt.list_bool _ ‹_› hu
 ·exact SeqAt.EqAt.list_int _ _ ‹_› hu
 ·exact SeqAt.EqAt.list_str _ _ ‹_› hu
 ·exact kvl nt rc
 ·exact kvl nt rc
 ·exact SeqAt.EqAt.tuple_none ‹_› hu
 ·exact SeqAt.EqAt.tuple_bool _ ‹_› hu
 ·exact SeqAt.EqAt.tuple_int _ _ ‹_› hu
 ·exact SeqAt.EqAt.tuple_str _ _ ‹_› hu
 ·exact kvl nt rc
 ·exact kvl nt rc
theorem W0:∀(n:Nat) {d d':D} {u w:Value} {A:Around},d.flat n=true->jv s.heap d u->jv s.heap d' w->A.units+n<cLine->SeqAt.EqAt A s u w (peq d d')
 | n,d,d',u,w,A,f,r,r',hu=>by
  refine vk1 (by omega) r r' (λe=>?_) (vzl (by omega) r r' λas bs us ws h1 h2 ra rb=>?_)
  rotate_left
  ·cases n with
   |zero=>rcases h1 with rfl|rfl<;>(unfold D.flat at f;cases f)
   |succ n=>
    have fs:D.flats n as=true:=by rcases h1 with rfl|rfl<;>(unfold D.flat at f;exact f)
    exact kz7 ra rb λj d d' u w e1 e2 q1 q2=>W0 n (jxh fs e1) q1 q2 (by have:=L3.in1_units A;omega)
  ·subst e;rw[kj7 r' r];exact W4 f
end
section
variable {X:Cx}{Z:Fx0}{K:PySem.W.Frag}
noncomputable def wxj(K:PySem.W.Frag):R2:=λx y H Q=>∃d d' as bs,RepL K H true d x as/\RepL K H true d' y bs/\d.flat 40=true/\d'.flat 40=true/\Q (.bl (peq d d')) H
noncomputable def wxf(K:PySem.W.Frag):R2:=λx y H Q=>∃d d' as bs,RepL K H true d x as/\RepL K H true d' y bs/\d.flat 40=true/\d'.flat 40=true/\Q (.bl (!peq d d')) H
theorem vw(hu:X.A.units+64<cLine)(hK:autoParam (X.K=K) Ŕ):OpR X (compareOp .Eq) (wxj K):=by
 subst hK;intro pins s σ H x y v u Q I rx ry h;obtain⟨d,d',as,bs,h1,h2,f1,f2,q⟩:=h;have c1:=Qx I h1 f1 rx;have c2:=Qx I h2 f2 ry;refine vzl (by omega) c1 c2 (λas bs us ws e1 e2 ra rb=>kz7 ra rb λj d d' u w e3 e4 q1 q2=>?_) _ _ _ _ ⟨.bl _,H,I,rfl,q⟩;have fs:D.flats 39 as=true:=by rcases e1 with rfl|rfl<;>(unfold D.flat at f1;exact f1)
 exact W0 39 (jxh fs e3) q1 q2 (by have:=L3.in1_units X.A;omega)
theorem qw5(hu:X.A.units+64<cLine)(hK:autoParam (X.K=K) Ŕ):OpR X (compareOp .NotEq) (wxf K):=by
 subst hK;intro pins s σ H x y v u Q I rx ry h;obtain⟨d,d',as,bs,h1,h2,f1,f2,q⟩:=h;have c1:=Qx I h1 f1 rx;have c2:=Qx I h2 f2 ry;refine wvl (by omega) c1 c2 (λas bs us ws e1 e2 ra rb=>kz7 ra rb λj d d' u w e3 e4 q1 q2=>?_) _ _ _ _ ⟨.bl _,H,I,rfl,q⟩;have fs:D.flats 39 as=true:=by rcases e1 with rfl|rfl<;>(unfold D.flat at f1;exact f1)
 exact W0 39 (jxh fs e3) q1 q2 (by have:=L3.in1_units X.A;omega)
theorem vq:Ad2 K (wxj K) (pu2 fEq):=by
 intro H x y s Q ox oy hf k;unfold pu2 fEq at hf;dsimp only at hf
 by_cases hc:(x.d.flat 40&&y.d.flat 40)=true
 ·rw[Xa hc]at hf;rw[Bool.and_eq_true]at hc;cases oq9 hf;exact⟨x.d,y.d,x.as,y.as,RepO.wk ox,RepO.wk oy,hc.1,hc.2,k ⟨.dp,.bl _,.bl _,[]⟩ H rfl rfl x8⟩
 ·rw[Xe hc]at hf;cases hf
theorem ZQ:Ad2 K (wxf K) (pu2 fNe):=by
 intro H x y s Q ox oy hf k;unfold pu2 fNe at hf;dsimp only at hf
 by_cases hc:(x.d.flat 40&&y.d.flat 40)=true
 ·rw[Xa hc]at hf;rw[Bool.and_eq_true]at hc;cases oq9 hf;exact⟨x.d,y.d,x.as,y.as,RepO.wk ox,RepO.wk oy,hc.1,hc.2,k ⟨.dp,.bl _,.bl _,[]⟩ H rfl rfl x8⟩
 ·rw[Xe hc]at hf;cases hf
end
end Q
namespace Q
open PySem PySem.Spec PyProof.Rows L2 L3
mutual
noncomputable def Wx:D->Nat
 |.tup xs=>drwDs xs+1
 |_=>1
noncomputable def drwDs:List D->Nat
 |[]=>0
 |a::x=>Wx a+drwDs x
end
mutual
theorem qju:∀{n:Nat} {d:D},jZ n d=true->d.flat n=true
 |n,.non,_=>by cases n<;>rfl
 |n,.bl _,h=>by cases n<;>(unfold jZ at h;cases h)
 |n,.int _,_=>by cases n<;>rfl
 |n,.str _,h=>by cases n<;>(unfold jZ at h;cases h)
 |0,.tup _,h=>by unfold jZ at h;cases h
 |n+1,.tup xs,h=>by unfold jZ at h;unfold D.flat;exact keys_flat h
 |n,.lst _,h=>by cases n<;>(unfold jZ at h;cases h)
 |n,.dct _,h=>by cases n<;>(unfold jZ at h;cases h)
 |n,.obj _ _,h=>by cases n<;>(unfold jZ at h;cases h)
theorem keys_flat:∀{n:Nat} {ds:List D},keyDs n ds=true->D.flats n ds=true
 |_,[],_=>by unfold D.flats;rfl
 |n,a::x,h=>by
  unfold keyDs at h;rw[Bool.and_eq_true]at h;unfold D.flats;rw[qju h.1,keys_flat h.2];rfl
end
mutual
theorem qwx:∀{n m:Nat} {a b:D},jZ n a=true->jZ m b=true->peq a b=decide (a=b)
 | n,m,.non,b,_,hb=>by
  cases b with
  | non=>simp[peq]
  | int _=>simp[peq]
  | tup _=>simp[peq]
  | _=>cases m<;>(unfold jZ at hb;cases hb)
 | n,m,.int i,b,_,hb=>by
  cases b with
  | non=>simp[peq]
  | int j=>by_cases h:i=j<;>simp[peq,h]
  | tup _=>simp[peq]
  | _=>cases m<;>(unfold jZ at hb;cases hb)
 | 0,_,.tup _,_,ha,_=>by unfold jZ at ha;cases ha
 | n+1,m,.tup xs,b,ha,hb=>by
  cases b with
  | non=>simp[peq]
  | int j=>simp[peq]
  | tup ys=>
   cases m with
   |zero=>unfold jZ at hb;cases hb
   |succ m=>
    unfold jZ at ha hb;have:=keys_peq ha hb;rw[show peq (.tup xs) (.tup ys)=peqs xs ys by simp[peq],this]
    by_cases h:xs=ys<;>simp[h]
  |_=>cases m<;>(unfold jZ at hb;cases hb)
 |n,_,.bl _,_,ha,_=>by cases n<;>(unfold jZ at ha;cases ha)
 |n,_,.str _,_,ha,_=>by cases n<;>(unfold jZ at ha;cases ha)
 |n,_,.lst _,_,ha,_=>by cases n<;>(unfold jZ at ha;cases ha)
 |n,_,.dct _,_,ha,_=>by cases n<;>(unfold jZ at ha;cases ha)
 |n,_,.obj _ _,_,ha,_=>by cases n<;>(unfold jZ at ha;cases ha)
theorem keys_peq:∀{n m:Nat} {a b:List D},keyDs n a=true->keyDs m b=true->peqs a b=decide (a=b)
 |_,_,[],[],_,_=>by simp[peqs]
 |_,_,[],_::_,_,_=>by simp[peqs]
 |_,_,_::_,[],_,_=>by simp[peqs]
 |n,m,a::x,b::y,ha,hb=>by
  unfold keyDs at ha hb;rw[Bool.and_eq_true]at ha hb;rw[show peqs (a::x) (b::y)=(peq a b&&peqs x y)by simp[peqs],qwx ha.1 hb.1,keys_peq ha.2 hb.2]
  by_cases h1:a=b<;>by_cases h2:x=y<;>simp[h1,h2]
end
section
variable {prog:Program}{w:PySem.World}{A:Around}{E:Value->Shared->Prop}{s:Shared}
theorem qk0{Q:Int->Shared->Prop}(h:Q 4238894112 { s with toks:=s.toks+1 }):wpAny (model prog w) A (pyHash .none) Q E s:=by
 have ty:s.TypeIs Value.none "NoneType":=rfl;unfold pyHash;unfold pyHashByItsType;refine X0 ?_;rw[cRoomFor,Xe (show ¬([Value.none].any Value.onHeap)=true by decide)];refine X4 (X0 (wpAny_specialOf ty F.slot_NoneType_hash.lookup ?_));show wpAny _ _ (if(some (Value.builtin "NoneType.__hash__")==some Value.none)=true then _ else _) Q E s;rw[Xe (show ¬(some (Value.builtin "NoneType.__hash__")==some Value.none)=true by rw[beq_builtin_none];exact Bool.false_ne_true)];refine X0 (wpAny_specialOf ty F.slot_NoneType_hash.lookup ?_);show wpAny _ _ (callSpecialIfBoundUnlessNone? Value.none "__hash__" _ >>= _) Q E s;refine X0 (wpAny_callSpecialIfBoundUnlessNone?_slot ty F.slot_NoneType_hash (Ye F.slot_NoneType_hash ty F.entry_NoneType_hash ?_ (F.args_NoneType_hash_1 _)));show wpAny _ _ (retInt 4238894112) _ _ s;refine wpAny_ret_mkInt ?_;show wpAny _ _ (if(decide (-(2:Int) ^ 63<=(4238894112:Int))&&decide ((4238894112:Int)<2 ^ 63))=true then _ else _) Q E _;rw[Xa (by decide)];exact X4 h
theorem kjz{d:D}:∀ds:List D,hashDs (ds++[d])=hashDs ds++[KY d]
 |[]=>by simp[hashDs]
 |a::x=>by rw[List.cons_append,hashDs,hashDs,kjz x];rfl
theorem kqj{d:D}:∀ds:List D,drwDs (ds++[d])=drwDs ds+Wx d
 |[]=>by simp[drwDs]
 |a::x=>by rw[List.cons_append,drwDs,drwDs,kqj x];omega
theorem wkw:∀(n:Nat) {d:D} {u:Value} {A:Around} {s:Shared} {Q:Int->Shared->Prop},jZ n d=true->jv s.heap d u->A.units+4*n<cLine->Q (KY d) { s with toks:=s.toks+Wx d }->wpAny (model prog w) A (pyHash u) Q E s:=by
 intro n
 induction n with
 | zero=>
  intro d u A s Q hk hr hu h;cases d with
  | non=>unfold jv at hr;subst hr;exact qk0 h
  | int i=>unfold jv at hr;obtain⟨t,rfl⟩:=hr;exact wpAny_pyHash_int h
  | _=>unfold jZ at hk;cases hk
 | succ n ih=>
  intro d u A s Q hk hr hu h;cases d with
  | non=>unfold jv at hr;subst hr;exact qk0 h
  | int i=>unfold jv at hr;obtain⟨t,rfl⟩:=hr;exact wpAny_pyHash_int h
  | tup ds=>
   unfold jZ at hk;unfold jv at hr;obtain⟨a,us,rfl,ht,hi⟩:=hr;have ty:=ht.typeIs;obtain⟨ob,ll,gv,nn,mv⟩:=ht;unfold pyHash;unfold pyHashByItsType;refine X0 (wpAny_cRoomFor_or (.inr (by omega)) ?_);refine X0 (wpAny_specialOf ty F.slot_tuple_hash.lookup ?_);show wpAny _ _ (if(some (Value.builtin "tuple.__hash__")==some Value.none)=true then _ else _) Q E s;rw [Xe (show ¬(some (Value.builtin "tuple.__hash__")==some Value.none)=true by rw[beq_builtin_none];exact Bool.false_ne_true)];refine X0 (wpAny_specialOf ty F.slot_tuple_hash.lookup ?_);show wpAny _ _ (callSpecialIfBoundUnlessNone? (Value.ref a) "__hash__" _ >>= _) Q E s;refine X0 (wpAny_callSpecialIfBoundUnlessNone?_slot ty F.slot_tuple_hash (Ye F.slot_tuple_hash ty F.entry_tuple_hash ?_ (F.args_tuple_hash_1 _)));show wpAny _ _ (Builtin.Tuple.tupleItemsOf (Value.ref a) >>= _) _ _ s;refine X0 (wpAny_tupleItemsOf ll mv ?_);refine X0 ?_;rw [<-Array.forIn_toList];refine wpAny_forIn_list _ (λjx (b:Array Int) s'=>∃pre post,ds=pre++post/\keyDs n post=true/\CReps s.heap post jx/\b.toList=hashDs pre/\s'={ s with toks:=s.toks+drwDs pre }) _ ?_ ?_ _ _ ⟨[],ds,rfl,hk,hi,rfl,rfl⟩
   ·rintro x jx b s' ⟨pre,post,rfl,dh,hl,hb,rfl⟩;cases post with
    | nil=>unfold CReps at hl;cases hl
    | cons d post=>
     unfold CReps at hl;obtain⟨u1,r1,e1,h1,h2⟩:=hl;injection e1 with e1 e2;subst e1 e2;unfold keyDs at dh;rw[Bool.and_eq_true]at dh;have ru:A.in1.units+4*n<cLine:=by show A.units+1+4*n<cLine;omega
     have fin:∃p q,pre++d::post=p++q/\keyDs n q=true/\CReps s.heap q jx/\(b.push (KY d)).toList=hashDs p/\({ s with toks:=s.toks+drwDs pre+Wx d }:Shared)={ s with toks:=s.toks+drwDs p }:=
      ⟨pre++[d],post,by simp,dh.2,h2,by rw[kjz,<-hb];simp,by rw[kqj,Nat.add_assoc]⟩
     refine X0 (ih dh.1 h1 ru ?_)
     first
      |exact X4 fin
      |exact X0 (X4 (X4 fin))
   ·rintro b s' ⟨pre,post,rfl,dh,hl,hb,rfl⟩;have:post=[]:=by
     cases post with
     |nil=>rfl
     |cons d post=>unfold CReps at hl;obtain⟨_,_,z,_⟩:=hl;cases z
    subst this;rw[Xr]at h;show wpAny _ _ (retInt (Builtin.Tuple.tupleHashOf b.toList)) _ _ _;rw[hb];refine wpAny_ret_mkInt ?_;generalize hv:Builtin.Tuple.tupleHashOf (hashDs pre)=v;have h:Q (reduceHash v) { s with toks:=s.toks+drwDs pre+1 }:=by rw[<-hv];unfold KY Wx at h;rw[Nat.add_assoc];exact h
    show wpAny _ _ (if(decide (-(2:Int) ^ 63<=v)&&decide (v<2 ^ 63))=true then _ else _) Q E _;unfold reduceHash at h
    by_cases hq:(decide (-(2:Int) ^ 63<=v)&&decide (v<2 ^ 63))=true
    ·rw[Xa hq]at h ⊢;exact X4 h
    ·rw[Xe hq]at h ⊢;exact X0 (wpAny_rule (X4 h))
  |_=>unfold jZ at hk;cases hk
theorem vv6:∀(n m:Nat) {d:D} {u:Value} {A:Around} {s:Shared} {Q:Bool->Shared->Prop},n<=m->jZ n d=true->jv s.heap d u->Q true s->wpAny (model prog w) A (eqIsQuiet m u) Q E s:=by
 have byv:∀(m:Nat) {v:Value} {A:Around} {s:Shared} {Q:Bool->Shared->Prop},carriedByValue v=true->Q true s->wpAny (model prog w) A (eqIsQuiet m v) Q E s:=λm v A s Q hv h=>by
  rw [eqIsQuiet_byValue m hv];exact X4 h
 intro n
 induction n with
 | zero=>
  intro m d u A s Q _ hk hr h;cases d with
  | non=>unfold jv at hr;subst hr;exact byv m rfl h
  | int i=>unfold jv at hr;obtain⟨t,rfl⟩:=hr;exact byv m rfl h
  | _=>unfold jZ at hk;cases hk
 | succ n ih=>
  intro m d u A s Q hm hk hr h;cases d with
  | non=>unfold jv at hr;subst hr;exact byv m rfl h
  | int i=>unfold jv at hr;obtain⟨t,rfl⟩:=hr;exact byv m rfl h
  | tup ds=>
   unfold jZ at hk;unfold jv at hr;obtain⟨a,us,rfl,ht,hi⟩:=hr;have ty:=ht.typeIs;obtain⟨ob,ll,gv,nn,mv⟩:=ht;cases m with
   | zero=>omega
   | succ m=>
    unfold eqIsQuiet;refine X0 (wpAny_specialOf ty F.slot_tuple_eq.lookup ?_);show wpAny _ _ (isInstance (Value.ref a) (.type "tuple") >>= _) _ _ s;refine X0 (wpAny_isInstance ty isSubtype_tuple_tuple ?_);simp only[Bool.not_true,Bool.false_eq_true,if_false];refine X0 (wpAny_seqItems ll mv (X0 ?_));show wpAny _ _ (forIn us.toArray _ _) _ _ s;rw[<-Array.forIn_toList];refine wpAny_forIn_list _ (λjx r s'=>r.1=none/\s'=s/\∃post,keyDs n post=true/\CReps s.heap post jx) _ ?_ ?_ _ _ ⟨rfl,rfl,ds,hk,hi⟩
    ·rintro v jx r s' ⟨hr,rfl,post,dh,hl⟩;cases post with
     |nil=>unfold CReps at hl;cases hl
     |cons d post=>
      unfold CReps at hl;obtain⟨u1,r1,e1,h1,h2⟩:=hl;injection e1 with e1 e2;subst e1 e2;unfold keyDs at dh;rw[Bool.and_eq_true]at dh;refine X0 (ih m (by omega) dh.1 h1 ?_);simp only[Bool.not_true,Bool.false_eq_true,if_false];exact X4 ⟨rfl,rfl,post,dh.2,h2⟩
    ·rintro ⟨r1,r2⟩ s' ⟨hr,rfl,_⟩;simp only at hr;subst hr;exact X4 h
  |_=>unfold jZ at hk;cases hk
end
mutual
theorem kqk{h h':Heap}{x:Addr}{o:Obj}{es:Array DictEntry}{ep:Nat}(ho:h.get? x=some o)(hd:o.data=.dict es ep)(hs:Heap.SameBut x h h'):∀{n:Nat} {d:D} {u:Value},jZ n d=true->jv h d u->jv h' d u
 | _,.non,_,_,r=>by unfold jv at r ⊢;exact r
 | n,.bl _,_,hk,_=>by cases n<;>(unfold jZ at hk;cases hk)
 | _,.int _,_,_,r=>by unfold jv at r ⊢;exact r
 | n,.str _,_,hk,_=>by cases n<;>(unfold jZ at hk;cases hk)
 | 0,.tup _,_,hk,_=>by unfold jZ at hk;cases hk
 | n+1,.tup ds,_,hk,r=>by
  unfold jZ at hk;unfold jv at r ⊢;obtain⟨a,us,e,⟨ob,ll,hc,nn,mv⟩,hi⟩:=r;have cx:a≠x:=by
   rintro rfl;rw[ho]at ll;cases ll;rw[hd]at mv;cases mv
  exact⟨a,us,e,⟨ob,(hs.2 a cx).trans ll,hc,nn,mv⟩,creps_keeps ho hd hs hk hi⟩
 |n,.lst _,_,hk,_=>by cases n<;>(unfold jZ at hk;cases hk)
 |n,.dct _,_,hk,_=>by cases n<;>(unfold jZ at hk;cases hk)
 |n,.obj _ _,_,hk,_=>by cases n<;>(unfold jZ at hk;cases hk)
theorem creps_keeps{h h':Heap}{x:Addr}{o:Obj}{es:Array DictEntry}{ep:Nat}(ho:h.get? x=some o)(hd:o.data=.dict es ep)(hs:Heap.SameBut x h h'):∀{n:Nat} {ds:List D} {us:List Value},keyDs n ds=true->CReps h ds us->CReps h' ds us
 |_,[],_,_,r=>by unfold CReps at r ⊢;exact r
 |n,d::ds,_,hk,r=>by
  unfold keyDs at hk;rw[Bool.and_eq_true]at hk;unfold CReps at r ⊢;obtain⟨u,rr,e,h1,h2⟩:=r;exact⟨u,rr,e,kqk ho hd hs hk.1 h1,creps_keeps ho hd hs hk.2 h2⟩
end
noncomputable def kzz(prog:Program)(w:PySem.World):HeapKind prog w Kd where
 is:=λh k a=>jv h k.1 (.ref a)
 hash:=λk=>KY k.1
 draws:=λk=>Wx k.1
 room:=λA=>A.units+40<cLine
 inj:=λhx hy=>Subtype.ext (kj7 hx hy)
 keeps:=fun {h h' k a d o es ep} x ho hd hs=>kqk ho hd hs k.2 x
 pyHash:=fun {A E s k a Q} hu hk h=>wkw 6 k.2 hk (Nat.lt_of_le_of_lt (Nat.add_le_add_left (by decide) _) hu) h
 eqBool:=fun {A E s x y a b Q} hu hx hy h=>by
  have e:peq x.1 y.1=decide (x=y):=by
   rw[qwx x.2 y.2]
   by_cases z:x=y
   ·rw[Xf z,Xf (congrArg Subtype.val z)]
   ·rw[Xb z,Xb λq=>z (Subtype.ext q)]
  have:=W0 (s:=s) 6 (A:=A) (qju x.2) hx hy (Nat.lt_of_le_of_lt (Nat.add_le_add_left (by decide) _) hu);rw[e]at this;exact this prog w E Q h
 quiet:=fun {A E s k a Q} hk h=>vv6 6 8 (by decide) k.2 hk h
abbrev Sl.sd(x:Sl):Sd:=(x.o,x.d)
noncomputable def tA(Z:Fx0)(q:Bool)(cs:List Ex):TA:=fun σ H Q=>∃E L r,Mt E σ L/\World Z.K H L/\v4 cs E=some r/\Xc Z σ H L r /\
 ∀E' ys,r=.ok E' ys->∀(xs:List Sl) L' H',xs.map Sl.sd=ys->Mt E' σ L'->World Z.K H' (xs.map some++L')->Step H L H' (xs.map some++L')->(q=true->kj H H'/\∀b∈j7 (xs.map some),H b=none)->Q (xs.map Sl.v) H'
noncomputable def QA(X:Cx)(Z:Fx0)(q:Bool)(cs:List Ex)(es:List Expr):Prop:=PA X es (tA Z q cs)
theorem Zq{X:Cx}{es:List Expr}{t t':TA}(h:PA X es t)(w:∀ σ H Q,t' σ H Q->t σ H Q):PA X es t':=λpos pins s σ H Q I q=>h pos pins s σ H Q I (w σ H Q q)
section
variable {X:Cx}{Z:Fx0}{pn:List Nat}{q:Bool}{c:Ex}{cs:List Ex}{e:Expr}{es:List Expr}{pos:Pos}{σ:L2.St}{H:Hp}{L:Ls}{E:En}
theorem j8:QA X Z true [] []:=Zq xj fun σ H Q ay=>ex8 ay λE L r m w hc xc k=>by
 cases oq9 hc;exact k _ _ rfl [] L H rfl m w Step.refl λ_=>⟨λ_ _ z=>z,λ_ z=>(nomatch z)⟩
theorem j3(h:QE X Z q c e)(hs:QA X Z q cs es)(b8:autoParam (starEach (e::es) X.env=(false,eval e X.env)::starEach es X.env) Ŕ):QA X Z q (c::cs) (e::es):=
 Zq (wv h hs b8) fun σ H Q ay=>ex8 ay λE L r m w hc xc k=>by
  refine VX m w (show bnd (c E) _=some r from hc) xc λE1 s h1 x L1 H1 e1 e2 m1 w1 st sm=>?_
  have s1:Step H L H1 L1:=st.trans Step.drop;rcases x9 h1 with⟨E2,ys,h2,h3⟩|⟨E2,cc,h2,h3⟩
  ·cases oq9 h3;refine⟨E1,L1,_,m1,w1.tail,h2,(λ_ _ z=>by cases z),λE' ys' z xs L2 H2 e3 m2 w2 bn fj=>?_⟩;injection z with z1 z2;subst z1 z2;obtain⟨w3,dj⟩:=wv0 (T:=[some x]) w1 bn w2;refine k _ _ rfl (x::xs) L2 H2 (by rw[List.map_cons,e3];simp[Sl.sd,e1,e2]) m2 w3 (st.trans dj) λhq=>?_
   obtain⟨a1,a2⟩:=sm hq;obtain⟨b1,b2⟩:=fj hq;refine⟨v3 a1 b1,λb hb=>?_⟩;rw[List.map_cons,jz]at hb;rcases List.mem_append.mp hb with z|z
   ·exact a2 b z
   ·exact xZ a1 (b2 b z)
  ·exact⟨E1,L1,_,m1,w1.tail,h2,(xc.step s1).map h3,λE' s' z=>by cases z⟩
end
section
variable {X:Cx}{Z:Fx0}{q:Bool}{cs:List Ex}{es:List Expr}{pos:Pos}{σ:L2.St}{H:Hp}{L:Ls}{E:En}{α:Type}
theorem jw6:∀{cs:List Ex} {E E':En} {ys:List Sd},v4 cs E=some (.ok E' ys)->ys.length=cs.length
 | [],E,E',ys,h=>by cases oq9 h;rfl
 | c::cs,E,E',ys,h=>by
  rcases x9 (show bnd (c E) _=some _ from h)with⟨E1,x,h1,h2⟩|⟨_,_,_,z⟩
  ·rcases x9 h2 with⟨E2,xs,h3,h4⟩|⟨_,_,_,z⟩
   ·cases oq9 h4;rw[Xn,Xn,jw6 h3]
   ·cases z
  ·cases z
theorem vkg{F:En->List Sd->Option (Res α)}{r:Res α}{G:List V->Hp->Prop}(m:Mt E σ L)(w:World Z.K H L)(h:bnd (v4 cs E) F=some r)(xc:Xc Z σ H L r)
  (k:∀E1 ys,F E1 ys=some r->ys.length=cs.length->∀(xs:List Sl) L1 H1,xs.map Sl.sd=ys->Mt E1 σ L1->World Z.K H1 (xs.map some++L1)->Step H L H1 (xs.map some++L1)->(q=true->kj H H1/\∀b∈j7 (xs.map some),H b=none)->G (xs.map Sl.v) H1):tA Z q cs σ H G:=by
 rcases x9 h with⟨E1,s,h1,h2⟩|⟨E1,c,h1,h2⟩
 ·exact⟨E,L,_,m,w,h1,(λ_ _ z=>by cases z),λE' s' z xs L' H' e1 m' w' st sm=>by
   injection z with z1 z2;subst z1 z2;exact k _ _ h2 (jw6 h1) xs L' H' e1 m' w' st sm⟩
 ·exact⟨E,L,_,m,w,h1,xc.map h2,λE' s' z=>by cases z⟩
theorem jwe{K:PySem.W.Frag}{H:Hp}(g:Bool):∀{xs:List Sl},(∀x∈xs,x.ok K H)->(g=false->∀x∈xs,vK x.sd=true)->∃bs,RepA K H g (xs.map Sl.d) (xs.map Sl.v) bs/\(∀b∈bs,∃x∈xs,b∈x.as)/\(g=false->bs=j7 (xs.map some))/\(g=true->bs=xs.flatMap Sl.as)
 | [],_,_=>⟨[],by unfold RepA;exact⟨rfl,rfl⟩,λ_ h=>(nomatch h),λ_=>rfl,λ_=>rfl⟩
 | x :: xs,h,ht=>by
  obtain⟨bs,r,hb,ho,hg⟩:=jwe g (xs:=xs) (λy hy=>h y (lc9 _ hy)) λhg y hy=>ht hg y (lc9 _ hy)
  have hx:=h x X2;have key:∃cs,RepL K H g x.d x.v cs/\(∀b∈cs,b∈x.as)/\(g=false->cs=x.own)/\(g=true->cs=x.as):=by
   cases g with
   | true=>exact⟨x.as,RepO.wk hx,λb hb=>hb,(λz=>by cases z),λ_=>rfl⟩
   | false=>
    have t:=ht rfl x X2;unfold vK at t
    by_cases ho:x.o=.dp
    ·refine⟨x.as,?_,λb hb=>hb,λ_=>?_,λz=>by cases z⟩
     ·have:=hx;unfold Sl.ok at this;rw[ho]at this;exact this
     ·unfold Sl.own;rw[ho]
    ·have hp:x.d.pure=true:=by
      rcases Bool.or_eq_true_iff.mp t with z|z
      ·exact absurd (by simpa using z) ho
      ·exact z
     obtain⟨z,rp⟩:=RepL.pu (g':=false) (RepO.wk hx) hp;exact⟨[],rp,λ_ h=>(nomatch h),λ_=>(vw5 z).symm,λz=>by cases z⟩
  obtain⟨cs,r1,h1,h2,h3⟩:=key;refine⟨cs++bs,?_,λb ef=>?_,λjd=>?_,λjd=>?_⟩
  ·rw[List.map_cons,List.map_cons];unfold RepA;exact⟨x.v,xs.map Sl.v,cs,bs,rfl,rfl,r1,r⟩
  ·rcases List.mem_append.mp ef with z|z
   ·exact⟨x,X2,h1 b z⟩
   ·obtain⟨y,hy,hby⟩:=hb b z;exact⟨y,lc9 _ hy,hby⟩
  ·rw[List.map_cons,jz,h2 jd,ho jd]
  ·rw[Yz,h3 jd,hg jd]
theorem vjl{K:PySem.W.Frag}{H:Hp}{p:Addr}{xs:List Sl}{L:Ls}(w:World K H (xs.map some++L))(hp:H p=none):
  ∃bs,World K (upd H p (.lst (xs.map Sl.v))) (some ⟨.rt,.lst (xs.map Sl.d),.ref p,p::bs⟩::L)/\Step H (xs.map some++L) (upd H p (.lst (xs.map Sl.v))) (some ⟨.rt,.lst (xs.map Sl.d),.ref p,p::bs⟩::L):=by
 obtain⟨bs,r,hb,_,_⟩:=jwe true (xs:=xs) (λx hx=>w.ok x (ll9 _ (Xg hx))) (λz=>by cases z);have ap:∀b∈bs,b∉j7 L:=λb ef hL=>by
  obtain⟨x,hx,gw⟩:=hb b ef;rcases Sl.as_of gw with z|z
  ·have nd:=w.nd;rw[k6,X7]at nd;exact nd.2.2 b (mem_owned.mpr ⟨x,Xg hx,z⟩) b hL rfl
  ·exact w.ds b (by rw[k6];exact lr9 _ hL) (by rw[qv];exact ll9 _ (mem_frozen.mpr ⟨x,Xg hx,z⟩))
 have al:∀b∈bs,H b≠none:=λb ef=>by
  obtain⟨x,hx,gw⟩:=hb b ef;exact(w.ok x (ll9 _ (Xg hx))).some gw
 have sr:Src H (xs.map some++L) bs:=λb ef=>by
  obtain⟨x,hx,gw⟩:=hb b ef;rcases Sl.as_of gw with z|z
  ·exact .inr (.inl (by rw[k6];exact ll9 _ (mem_owned.mpr ⟨x,Xg hx,z⟩)))
  ·exact .inl (by rw[qv];exact ll9 _ (mem_frozen.mpr ⟨x,Xg hx,z⟩))
 have o:Out K H (upd H p (.lst (xs.map Sl.v))) ⟨.rt,.lst (xs.map Sl.d),.ref p,p::bs⟩ bs:=JW hp r λb hb=>hb
 have st:Step H (xs.map some++L) H L:=⟨λ_ _ h _=>h,λa ha=>.inl (by rw[k6];exact lr9 _ ha),λa ha=>.inl (by rw[qv];exact lr9 _ ha)⟩;exact⟨bs,Q8 (Z:=⟨K,λ_=>none,λ_ _ _=>True⟩) w.right st o ap al sr⟩
theorem vjk{K:PySem.W.Frag}{H:Hp}{p:Addr}{xs:List Sl}{L:Ls}(w:World K H (xs.map some++L))(hp:H p=none):
  ∃bs,World K (upd H p (.tup (xs.map Sl.v))) (some ⟨.no,.tup (xs.map Sl.d),.ref p,bs⟩::L)/\Step H (xs.map some++L) (upd H p (.tup (xs.map Sl.v))) (some ⟨.no,.tup (xs.map Sl.d),.ref p,bs⟩::L):=by
 obtain⟨bs,r,hb,_,_⟩:=jwe true (xs:=xs) (λx hx=>w.ok x (ll9 _ (Xg hx))) (λz=>by cases z);have ap:∀b∈bs,b∉j7 L:=λb ef hL=>by
  obtain⟨x,hx,gw⟩:=hb b ef;rcases Sl.as_of gw with z|z
  ·have nd:=w.nd;rw[k6,X7]at nd;exact nd.2.2 b (mem_owned.mpr ⟨x,Xg hx,z⟩) b hL rfl
  ·exact w.ds b (by rw[k6];exact lr9 _ hL) (by rw[qv];exact ll9 _ (mem_frozen.mpr ⟨x,Xg hx,z⟩))
 have al:∀b∈bs,H b≠none:=λb ef=>by
  obtain⟨x,hx,gw⟩:=hb b ef;exact(w.ok x (ll9 _ (Xg hx))).some gw
 have sr:Src H (xs.map some++L) bs:=λb ef=>by
  obtain⟨x,hx,gw⟩:=hb b ef;rcases Sl.as_of gw with z|z
  ·exact .inr (.inl (by rw[k6];exact ll9 _ (mem_owned.mpr ⟨x,Xg hx,z⟩)))
  ·exact .inl (by rw[qv];exact ll9 _ (mem_frozen.mpr ⟨x,Xg hx,z⟩))
 have o:Out K H (upd H p (.tup (xs.map Sl.v))) ⟨.no,.tup (xs.map Sl.d),.ref p,bs⟩ bs:=kjm hp r λb hb=>hb
 have st:Step H (xs.map some++L) H L:=⟨λ_ _ h _=>h,λa ha=>.inl (by rw[k6];exact lr9 _ ha),λa ha=>.inl (by rw[qv];exact lr9 _ ha)⟩;exact⟨bs,Q8 (Z:=⟨K,λ_=>none,λ_ _ _=>True⟩) w.right st o ap al sr⟩
theorem qwi{K:PySem.W.Frag}{H H':Hp}{xs:List Sl}{L:Ls}{d:D}{v:V}{ps:List Addr}(w:World K H (xs.map some++L))(ht:∀x∈xs,vK x.sd=true)(hp:∀b∈ps,H b=none)(nd:ps.Nodup)(sm:kj H H')
  (rep:∀bs,RepA K H false (xs.map Sl.d) (xs.map Sl.v) bs->RepL K H' false d v (ps++bs)):
  World K H' (some ⟨.dp,d,v,ps++j7 (xs.map some)⟩::L)/\Step H (xs.map some++L) H' (some ⟨.dp,d,v,ps++j7 (xs.map some)⟩::L):=by
 obtain⟨bs,r,hb,ho,_⟩:=jwe false (xs:=xs) (λx hx=>w.ok x (ll9 _ (Xg hx))) (λ_=>ht);have e:=ho rfl;subst e;have w2:World K H' (xs.map some++L):=⟨λx hx=>RepO.kp (w.ok x hx) (Kp.of_same sm),w.nd,w.ds⟩;have ndx:=w.nd;rw[k6,X7]at ndx;have al:∀b∈j7 (xs.map some),H b≠none:=λb hb=>w.own_some (by rw[k6];exact ll9 _ hb)
 refine⟨w2.right.cons (x:=⟨.dp,d,v,ps++j7 (xs.map some)⟩) (rep _ r) ?_ (λa ha hL=>?_) (λa ha hf=>?_) (λa ha=>(nomatch ha)) (λa ha=>λz=>(nomatch z)),⟨λa ob h _=>sm a ob h,λa ha=>?_,λa ha=>?_⟩⟩
 ·show(ps++j7 (xs.map some)).Nodup;rw[X7];exact⟨nd,ndx.1,λa ha b hb e=>by subst e;exact al a hb (hp a ha)⟩
 ·rcases List.mem_append.mp (show a∈ps++j7 (xs.map some)from ha)with z|z
  ·exact w.own_some (by rw[k6];exact lr9 _ hL) (hp a z)
  ·exact ndx.2.2 a z a hL rfl
 ·rcases List.mem_append.mp (show a∈ps++j7 (xs.map some)from ha)with z|z
  ·exact w.frz_some (by rw[qv];exact lr9 _ hf) (hp a z)
  ·exact w.ds a (by rw[k6];exact ll9 _ z) (by rw[qv];exact lr9 _ hf)
 ·rw[jz]at ha;rcases List.mem_append.mp ha with z|z
  ·rcases List.mem_append.mp (show a∈ps++j7 (xs.map some)from z)with y|y
   ·exact .inr (hp a y)
   ·exact .inl (by rw[k6];exact ll9 _ y)
  ·exact .inl (by rw[k6];exact lr9 _ z)
 ·rw[qk]at ha;exact .inl (by rw[qv];exact lr9 _ ha)
theorem wqr{xs:List Sl}{ys:List Sd}(h:xs.map Sl.sd=ys):xs.map Sl.d=ys.map (·.2):=by rw[<-h,Y9];rfl
theorem qj7{xs:List Sl}{ys:List Sd}(h:xs.map Sl.sd=ys)(ht:ys.all vK=true):∀x∈xs,vK x.sd=true:=λx hx=>by
 rw[<-h,List.all_map,Z2]at ht;exact ht x hx
theorem qjp{o:Own}{xs:List Sl}{ys:List Sd}{E':En}{r:Res Sd}{L':Ls}{H1:Hp}{Q:VK}{Hq:Hp}{Lq:Ls}(h:mkL o E' ys=some r)(e:xs.map Sl.sd=ys)(w:World Z.K H1 (xs.map some++L'))(st:Step Hq Lq H1 (xs.map some++L'))(sm:q=true->kj Hq H1/\∀b∈j7 (xs.map some),Hq b=none)
  (k:∀E'' a,r=.ok E'' a->∀(x:Sl) L'' H',x.o=a.1->x.d=a.2->Mt E'' σ L''->World Z.K H' (some x::L'')->Step Hq Lq H' (some x::L'')->(q=true->kj Hq H'/\∀b∈x.own,Hq b=none)->Q x.v H') (m:Mt E' σ L'):
  ∀ p,H1 p=none->Q (.ref p) (upd H1 p (.lst (xs.map Sl.v))):=by
 intro p hp;unfold mkL at h
 by_cases ho:o=.dp
 ·rw[Xa ho]at h
  by_cases ht:ys.all vK=true
  ·rw[Xa ht]at h;cases oq9 h;obtain⟨w2,s2⟩:=qwi (d:=.lst (xs.map Sl.d)) (v:=.ref p) (ps:=[p]) w (qj7 e ht) (λb hb=>by rw[List.mem_singleton.mp hb];exact hp) (by simp) (wJ (o:=.lst (xs.map Sl.v)) hp) (λbs r=>by
    unfold RepL;exact⟨p,_,bs,rfl,r.kp (Kp.of_same (wJ hp)),.inl ⟨wV,rfl⟩⟩)
   refine k _ _ rfl ⟨.dp,.lst (xs.map Sl.d),.ref p,_⟩ L' _ rfl (by rw[wqr e]) m w2 (st.trans s2) λhq=>⟨v3 (sm hq).1 (wJ hp),λb hb=>?_⟩
   rcases List.mem_append.mp (show b∈[p]++j7 (xs.map some)from hb)with z|z
   ·rw[List.mem_singleton.mp z];exact xZ (sm hq).1 hp
   ·exact(sm hq).2 b z
  ·rw[Xe ht]at h;cases h
 ·rw[Xe ho]at h;cases oq9 h;obtain⟨bs,w2,s2⟩:=vjl w hp;refine k _ _ rfl ⟨.rt,.lst (xs.map Sl.d),.ref p,p::bs⟩ L' _ rfl (by rw[wqr e]) m w2 (st.trans s2) λhq=>⟨v3 (sm hq).1 (wJ hp),λb hb=>?_⟩
  have:b=p:=by simpa [Sl.own]using hb
  rw[this];exact xZ (sm hq).1 hp
theorem vz8{xs:List Sl}{ys:List Sd}{n:Nat}(h:xs.map Sl.sd=ys)(hl:ys.length=n)(hz:n<=1000):(xs.map Sl.v).length<=sizeLine:=by
 have:xs.length=n:=by rw[<-hl,<-h,X5]
 rw[X5,this];exact Y4 hz (by decide)
theorem qJ{o:Own}(h:QA X Z q cs es)(hz:autoParam (cs.length<=1000) ŕ):QE X Z q (kK o cs) (.List es pos):=qz (wjn h) fun σ H Q ay=>ex8 ay λE L r m w hc xc k=>
 vkg m w (show bnd (v4 cs E) _=some r from hc) xc λE1 ys h1 hl xs L1 H1 e1 m1 w1 st sm=>⟨vz8 e1 hl hz,qjp (o:=o) (E':=E1) (ys:=ys) (by unfold mkL;exact h1) e1 w1 st sm k m1⟩
theorem vQ{o:Own}{x1}(h:QA X Z q cs es)(hz:autoParam (cs.length<=1000) ŕ):QE X Z q (qQ o cs) (.Tuple es x1 pos):=qz (wjk h) fun σ H Q ay=>ex8 ay λE L r m w hc xc k=>
 vkg m w (show bnd (v4 cs E) _=some r from hc) xc λE1 ys h1 hl xs L1 H1 e1 m1 w1 st sm=>⟨vz8 e1 hl hz,λp hp=>by
  by_cases ho:o=.dp
  ·rw[Xa ho]at h1
   by_cases ht:ys.all vK=true
   ·rw[Xa ht]at h1;cases oq9 h1;obtain⟨w2,s2⟩:=qwi (d:=.tup (xs.map Sl.d)) (v:=.ref p) (ps:=[]) w1 (qj7 e1 ht) (λb hb=>(nomatch hb)) (by simp) (wJ (o:=.tup (xs.map Sl.v)) hp) (λbs r=>by
     unfold RepL;exact⟨p,_,rfl,SqT.of wV,r.kp (Kp.of_same (wJ hp))⟩)
    exact k _ _ rfl ⟨.dp,.tup (xs.map Sl.d),.ref p,_⟩ L1 _ rfl (by rw[wqr e1]) m1 w2 (st.trans s2) λhq=>⟨v3 (sm hq).1 (wJ hp),λb hb=>(sm hq).2 b hb⟩
   ·rw[Xe ht]at h1;cases h1
  ·rw[Xe ho]at h1;cases oq9 h1;obtain⟨bs,w2,s2⟩:=vjk w1 hp;exact k _ _ rfl ⟨.no,.tup (xs.map Sl.d),.ref p,bs⟩ L1 _ rfl (by rw[wqr e1]) m1 w2 (st.trans s2) λhq=>⟨v3 (sm hq).1 (wJ hp),λb hb=>(nomatch hb)⟩⟩
end
noncomputable def spF(K:PySem.W.Frag)(mg:Str->Option Value)(n:Nat)(f:Fn):Sp:=λvs H Q E=>∃(xs:List Sl) (r:Res Sd),vs=xs.map Sl.v/\xs.length=n/\World K H (xs.map some)/\f (xs.map Sl.sd)=some r /\
 (∀E' c,r=.exc E' c->∀C H',mg c=some (.ref C)->Step H (xs.map some) H' []->E (.ref C) none H') /\
 ∀E' a,r=.ok E' a->∀(x:Sl) H',x.o=a.1->x.d=a.2->World K H' [some x]->Step H (xs.map some) H' [some x]->Q x.v H'
theorem qY{K:PySem.W.Frag}{mg:Str->Option Value}{n:Nat}{f:Fn}{ps:List Str}(hn:ps.length=n):∀vs H Q E,spF K mg n f vs H Q E->vs.length=ps.length:=λvs H Q E ⟨xs,r,e,hl,_⟩=>by rw[e,X5,hl,hn]
theorem kj3:∀(xs:List Sl) (k:Nat),Mt (xs.map (λx=>some x.sd)++List.replicate k none) (xs.map (λx=>some x.v)++List.replicate k none) (xs.map some++List.replicate k none)
 |[],0=>.nil
 |[],k+1=>by
  rw[List.map_nil,List.map_nil,List.map_nil,List.replicate_succ,List.replicate_succ,List.replicate_succ];exact .un (kj3 [] k)
 |x::xs,k=>.cons (x:=x) (kj3 xs k)
theorem qW{X:Cx}{K:PySem.W.Frag}{mg:Str->Option Value}{N:List Str}{n nn:Nat}{B:Sm}{body:List Stmt}{H:Hp}{vs:List V}{Q:VK}{E:XK}(hN:N.length=nn)(t:QSs X ⟨K,mg,E⟩ [] B body)(h:spF K mg n (fn nn B) vs H Q E):
  ∃t,PSs X body t/\t { nx:=λ_ H'=>Q .non H',rt:=Q } (L2.start N vs) H:=by
 refine⟨_,t,?_⟩;obtain⟨xs,r,rfl,hl,w,hf,hx,hk⟩:=h;unfold fn at hf;rw[X5,Y9]at hf;have m:=kj3 xs (nn - xs.length);have e1:L2.start N (xs.map Sl.v)=xs.map (λx=>some x.v)++List.replicate (nn - xs.length) none:=by
  unfold L2.start;rw[Y9,X5,hN];rfl
 have wL:World K H (xs.map some++List.replicate (nn - xs.length) none):=w.same (by simp);have sL:Step H (xs.map some) H (xs.map some++List.replicate (nn - xs.length) none):=Step.refl.same (List.Perm.refl _) (by simp);cases hB:B (xs.map (λx=>some x.sd)++List.replicate (nn - xs.length) none)with
 | none=>rw[show(some∘Sl.sd)=(λx:Sl=>some x.sd)from rfl,hB]at hf;cases hf
 | some g=>
  rw[show(some∘Sl.sd)=(λx:Sl=>some x.sd)from rfl,hB]at hf;refine⟨_,_,g,e1▸m,wL,hB,?_⟩;cases g with
  |nx E1=>
   cases oq9 hf;intro σ' L' H' _ m' w' s';exact hk _ _ rfl ⟨.dp,.non,.non,[]⟩ H' rfl rfl (World.consPu (x:=⟨.dp,.non,.non,[]⟩) (L:=[]) ⟨λ_ z=>(nomatch z),Xs,λ_ z=>(nomatch z)⟩ (show RepL K H' false .non .non []from kxx) rfl) (K5 (x:=⟨.dp,.non,.non,[]⟩) ((sL.trans s').sub (by simp)) (λb hb=>(nomatch hb)) rfl)
  |rt E1 a=>
   cases oq9 hf;intro x σ' L' H' e2 e3 _ m' w' s';exact hk _ _ rfl x H' e2 e3 (w'.sub (by simp)) ((sL.trans s').sub (by simp))
  |xc E1 c=>
   cases oq9 hf;intro C σ' L' H' hm _ m' w' s';exact hx _ _ rfl C H' hm ((sL.trans s').sub (by simp))
  |ct E1=>cases hf
  |bk E1=>cases hf
section
variable {X:Cx}{Z:Fx0}{q:Bool}{cs:List Ex}{e:Expr}{es:List Expr}{pos p:Pos}{x:Str}{ps:List Str}{k n:Nat}{f:Fn}
theorem Ww:∀xs:List Sl,j7 ((xs.map Sl.let).map some)=[]
 |[]=>rfl
 |x::xs=>by rw[List.map_cons,List.map_cons,jz,Ww xs];rfl
theorem jwz:∀xs:List Sl,jW ((xs.map Sl.let).map some)=xs.flatMap Sl.as
 |[]=>rfl
 |x::xs=>by rw[List.map_cons,List.map_cons,qk,jwz xs,Yz];rfl
theorem kvd(xs:List Sl):(xs.map Sl.let).map Sl.sd=letAll (xs.map Sl.sd):=by
 unfold letAll;rw[Y9,Y9];rfl
theorem jw9{K:PySem.W.Frag}{H:Hp}{xs:List Sl}{L:Ls}(w:World K H (xs.map some++L)):World K H ((xs.map Sl.let).map some++L)/\Step H (xs.map some++L) H ((xs.map Sl.let).map some++L):=by
 have nd:=w.nd;rw[k6,X7]at nd;have cl:∀a∈xs.flatMap Sl.as,a∈j7 (xs.map some)\/a∈jW (xs.map some):=λa ha=>by
  obtain⟨x,hx,hax⟩:=List.mem_flatMap.mp ha;exact(Sl.as_of hax).imp (λz=>mem_owned.mpr ⟨x,Xg hx,z⟩) λz=>mem_frozen.mpr ⟨x,Xg hx,z⟩
 refine⟨⟨λx hx=>?_,by rw[k6,Ww];exact nd.2.1,λa ha hf=>?_⟩,λ_ _ h _=>h,λa ha=>?_,λa ha=>?_⟩
 ·rcases List.mem_append.mp hx with hx|hx
  ·obtain⟨y,hy,e⟩:=List.mem_map.mp hx;cases e;obtain⟨z,hz,rfl⟩:=List.mem_map.mp hy;exact Qq (w.ok z (ll9 _ (Xg hz)))
  ·exact w.ok x (lr9 _ hx)
 ·rw[k6,Ww]at ha;rw[qv,jwz]at hf;rcases List.mem_append.mp hf with z|z
  ·rcases cl a z with z|z
   ·exact nd.2.2 a z a ha rfl
   ·exact w.ds a (by rw[k6];exact lr9 _ ha) (by rw[qv];exact ll9 _ z)
  ·exact w.ds a (by rw[k6];exact lr9 _ ha) (by rw[qv];exact lr9 _ z)
 ·rw[k6,Ww]at ha;exact .inl (by rw[k6];exact lr9 _ ha)
 ·rw[qv,jwz]at ha;rw[qv,k6];rcases List.mem_append.mp ha with z|z
  ·rcases cl a z with z|z
   ·exact .inr (.inl (ll9 _ z))
   ·exact .inl (ll9 _ z)
  ·exact .inl (lr9 _ z)
theorem wj5(D:kW X.prog X.w X.K X.mg X.base k x ps (spF Z.K Z.mg n f))(hr:Room k X.A)(g:xv X Z.EX)(ha:QA X Z q cs (e::es))(hn:autoParam (cs.length=n) Ŕ)(hg:autoParam (Gl X x) Ŕ)(cj:autoParam ((x==("__debug__":Str))=false) ŕ)
  (he:autoParam (starEach (e::es) X.env=(false,eval e X.env)::starEach es X.env) Ŕ) (be:autoParam ((backTo pos (starEach es X.env)).any (·.1)=false) Ŕ):
  QE X Z q (jK f cs) (.Call (.Name x p) (e::es) [] pos):=qz (vq2 D hr g ha hg cj he be) fun σ H Q ay=>ex8 ay λE L r m w hc xc kk=>
 vkg m w (show bnd (v4 cs E) _=some r from hc) xc λE1 ys h1 hl xs L1 H1 e1 m1 w1 st sm=>by
  rw [Xr];have av:xs.length=n:=by rw[<-hn,<-hl,<-e1,X5]
  cases hf:f (letAll ys)with
  | none=>rw[hf]at h1;cases h1
  | some fr=>
   rw[hf]at h1;obtain⟨wl,sl⟩:=jw9 w1;have ev:xs.map Sl.v=(xs.map Sl.let).map Sl.v:=by rw[Y9];rfl
   rw[ev];refine⟨xs.map Sl.let,fr,rfl,by rw[X5];exact av,wl.left,by rw[<-e1]at hf;rw[kvd];exact hf,λE' c ee C H' hm s'=>?_,λE' a ee y H' e2 e3 w' s'=>?_⟩
   ·subst ee;cases oq9 h1;obtain⟨w2,s2⟩:=stay wl s' ⟨λ_ z=>(nomatch z),Xs,λ_ z=>(nomatch z)⟩;exact xc _ _ rfl C L1 H' hm m1 w2 ((st.trans sl).trans s2)
   ·subst ee;cases oq9 h1;obtain⟨w2,s2⟩:=stay wl s' w';refine kk _ _ rfl y L1 H' e2 e3 m1 w2 ((st.trans sl).trans s2) λhq=>?_
    obtain⟨a1,a2⟩:=sm hq;refine⟨λb ob hb=>s'.keep b ob (a1 b ob hb) λz=>?_,λb hb=>?_⟩
    ·rw[Ww]at z;exact nomatch z
    ·rcases s'.own b (by rw[jz];exact ll9 _ hb)with z|z
     ·rw[Ww]at z;exact nomatch z
     ·exact xZ a1 z
end
noncomputable def vzo(K:PySem.W.Frag):R2:=λx y H Q=>∃l k xs,x=.ref l/\y=.int k/\LsR K H l xs/\-(2 ^ 63)<=k/\k<2 ^ 63/\xs.length*k.toNat<=sizeLine /\
 ∀p,H p=none->Q (.ref p) (upd H p (.lst (List.replicate k.toNat xs).flatten))
theorem op_repR{X:Cx}:OpR X (binaryOp .Mult) (vzo X.K):=by
 intro pins s σ H x y v u Q I rx ry h;obtain⟨l,k,xs,rfl,rfl,hH,h1,h2,hz,q⟩:=h;cases rx;obtain⟨t,rfl⟩:=ry;obtain⟨z,ak,n,r,e⟩:=hH.is I;have hl:=r.length;have av:ak.toArray.size*k.toNat<=sizeLine:=by rw[X6,<-hl];exact hz
 have hcap:¬ak.toArray.size*k.toNat>(2 ^ 63 - 1) / 8:=by
  have:(sizeLine:Nat)<=(2 ^ 63 - 1) / 8:=by decide
  omega
 have dz:¬(!Builtin.List.listFitsIndex k)=true:=by
  rw[fitsIndex_both h1 h2];exact Bool.false_ne_true
 have rk:¬Builtin.List.listTooLong (ak.toArray.size*k.toNat)=true:=by
  rw[vji av];exact Bool.false_ne_true
 have jt:List.foldl (λx1 x2=>x1++x2) #[] (List.replicate (if ak.toArray.isEmpty=true then 0 else k.toNat) ak.toArray)=(List.replicate k.toNat ak).flatten.toArray:=by
  have f0:∀m:Nat,List.foldl (λx1 x2=>x1++x2) #[] (List.replicate m ak.toArray)=(List.replicate m ak).flatten.toArray:=λm=>by
   have:=kk3 ak m [];rw[List.nil_append]at this;exact this
  rw[f0];cases ak with
  |nil=>simp
  |cons a r'=>rw[Xe (by simp)]
 refine wpAny_binaryOp_repeat_ref (T:="list") (U:="int") (by decide) ⟨_,e,rfl⟩ (λs'=>typeIs_int s' k t) noFill_list_mul F.fills_int_mul F.slot_int_rmul repeat_list F.slot_int_index.lookup
  (call_meets F.slot_int_rmul (typeIs_int s k t) F.entry_int_rmul (F.args_int_rmul_2 _ _) (int___rmul___int_list k t l ak.toArray n)
   ⟨e,rfl,⟨_,e,rfl⟩,call_meets F.slot_list_mul ⟨_,e,rfl⟩ F.entry_list_mul (F.args_list_mul_2 _ _) (AutoListH.list___mul___list_int_3 l ak.toArray n k t dz hcap rk) ⟨e,?_⟩⟩)
 rw[jt];exact⟨.ref _,_,I.lnew (t':=s.toks) (r.rep k.toNat) (by rw[qwl,Nat.mul_comm];exact hz),rfl,q _ I.fresh⟩
noncomputable def vv5(K:PySem.W.Frag):R2:=λx y H Q=>rI IntMulOk (λi j=>.int (i*j)) x y H Q\/vzo K x y H Q\/vzn x y H Q
theorem wjy{X:Cx}{K:PySem.W.Frag}(hK:autoParam (X.K=K) Ŕ):OpR X (binaryOp .Mult) (vv5 K):=by subst hK;exact op_mulI.or (op_repR.or vw7)
theorem qjq{a:Int}(h:a.natAbs.log2<2000000):Builtin.Int.intBits a<=2000000:=by
 unfold Builtin.Int.intBits
 split
 ·exact Yf _
 ·omega
theorem mulOk_of{a b:Int}(h:Kw a b=true):IntMulOk a b:=by
 unfold Kw Zk at h;simp only[Bool.or_eq_true,Bool.and_eq_true,decide_eq_true_eq]at h;rcases h with(h|h)|h
 ·exact .of_left (intBits_le_64 h.1 h.2)
 ·exact .of_right (intBits_le_64 h.1 h.2)
 ·have h1:=qjq h.1;have h2:=qjq h.2;unfold IntMulOk Builtin.Int.intTooBig;have e:(2:Nat) ^ 27=134217728:=by decide
  have hb:bitsLine=134217728:=e;simp only[Bool.and_eq_true,decide_eq_true_eq,not_and];intro _ _;omega
theorem RepA.reps{K:PySem.W.Frag}{H:Hp}{ds:List D}{xs:List V}{bs:List Addr}(h:RepA K H true ds xs bs):∀k:Nat,∃cs,RepA K H true (List.replicate k ds).flatten (List.replicate k xs).flatten cs/\∀b∈cs,b∈bs
 |0=>⟨[],by simp only[List.replicate_zero,List.flatten_nil];unfold RepA;exact⟨rfl,rfl⟩,λ_ z=>(nomatch z)⟩
 |k+1=>by
  obtain⟨cs,r,hc⟩:=RepA.reps h k;rw[List.replicate_succ,List.replicate_succ,Yn,Yn];exact⟨bs++cs,r.app h,λb hb=>(List.mem_append.mp hb).elim id (hc b)⟩
theorem vql{K:PySem.W.Frag}:Ad2 K (vv5 K) J3:=by
 intro H x y s Q ox oy hf k;unfold J3 at hf;dsimp only at hf
 split at hf
 ·rename_i i j e1 e2
  split at hf
  ·rename_i hm;cases oq9 hf;exact .inl ⟨i,j,vx ox e1,vx oy e2,mulOk_of hm,k ⟨.dp,.int _,.int _,[]⟩ H rfl rfl Q4⟩
  ·cases hf
 ·rename_i a n e1 e2
  split at hf
  ·rename_i hc;cases oq9 hf;obtain⟨l,xs,bs,e3,q3,r3,h3⟩:=zk ox (.inl e1) hc.2.2.2;have q3:LsR K H l xs:=by rcases q3 with⟨_,z⟩|⟨z,_⟩;exact z;rw[e1]at z;cases z
   obtain⟨cs,r4,h4⟩:=r3.reps n.toNat;refine .inr (.inl ⟨l,n,xs,e3,vx oy e2,q3,hc.1,hc.2.1,by rw[<-r3.len];exact hc.2.2.1,λp hp=>?_⟩);exact k ⟨.rt,.lst _,.ref p,p::cs⟩ _ rfl rfl (JW hp r4 λb hb=>ll9 _ (h3 b (h4 b hb)))
  ·cases hf
 ·rename_i z n e1 e2
  split at hf
  ·rename_i hc;cases oq9 hf;exact .inr (.inr ⟨z,n,(z6 ox e1).1,vx oy e2,hc.1,k ⟨.dp,.str _,.str _,[]⟩ H rfl rfl (ww6 hc.2)⟩)
  ·cases hf
 ·cases hf
noncomputable def dec(h:Heap)(u:Value):D:=open Classical in if e:∃d,jv h d u then e.choose else .non
theorem kx9{h:Heap}{u:Value}{d:D}(r:jv h d u):dec h u=d:=by
 unfold dec;have e:∃d,jv h d u:=⟨d,r⟩;rw[dif_pos e];exact kj7 e.choose_spec r
theorem kkj{h:Heap}{d:D}:∀{ds:List D} {us:List Value},CReps h ds us->us.any (λu=>peq (dec h u) d)=ds.any λz=>peq z d
 |[],_,r=>by unfold CReps at r;rw[r];rfl
 |z::ds,_,r=>by
  unfold CReps at r;obtain⟨u,rr,rfl,h1,h2⟩:=r;rw[List.any_cons,List.any_cons,kx9 h1,kkj h2]
theorem kj4{h:Heap}:∀{ds:List D} {us:List Value} {u:Value},CReps h ds us->u∈us->∃d∈ds,jv h d u
 | [],_,_,r,hu=>by unfold CReps at r;rw[r]at hu;cases hu
 | z::ds,_,u,r,hu=>by
  unfold CReps at r;obtain⟨u',rr,rfl,h1,h2⟩:=r;rcases List.mem_cons.mp hu with rfl|hu
  ·exact⟨z,X2,h1⟩
  ·obtain⟨d,hd,c⟩:=kj4 h2 hu;exact⟨d,lc9 _ hd,c⟩
theorem jxg:∀{n:Nat} {ds:List D} {d:D},D.flats n ds=true->d∈ds->d.flat n=true
 |_,[],_,_,h=>by cases h
 |n,z::ds,d,f,h=>by
  unfold D.flats at f;rw[Bool.and_eq_true]at f;rcases List.mem_cons.mp h with rfl|h
  ·exact f.1
  ·exact jxg f.2 h
section
variable {X:Cx}{Z:Fx0}{K:PySem.W.Frag}{q qa qb:Bool}{a b c:Ex}{u v:Ts}{e ea eb:Expr}{es:List Expr}{pos p:Pos}{σ:L2.St}{H:Hp}{L:Ls}{E:En}
noncomputable def qvh(K:PySem.W.Frag)(kr:Bool):R2:=λx y H Q=>∃d ds as bs p xs,RepL K H true d x as/\y=.ref p/\(SqL K H p xs\/SqT K H p xs)/\RepA K H true ds xs bs/\d.flat 30=true/\D.flats 30 ds=true/\Q (.bl (if kr then !(ds.any λz=>peq z d)else ds.any λz=>peq z d)) H
theorem vw9(hu:X.A.units+64<cLine):OpR X (compareOp .In) (qvh X.K false):=by
 intro pins s σ H x y v u Q I rx ry h;obtain⟨d,ds,as,bs,p,xs,h1,rfl,hq,ra,f1,f2,q⟩:=h;cases ry;have c1:=Qx I h1 f1 rx;have he:∀{us:List Value},CReps s.heap ds us->∀w,w∈us.toArray->SeqAt.EqAt X.A.in1 s w v (peq (dec s.heap w) d):=fun {us} cr w hw=>by
  obtain⟨d',hd,c⟩:=kj4 cr (by simpa using hw);rw[kx9 c];exact W0 30 (jxg f2 hd) c c1 (by have:=L3.in1_units X.A;omega)
 rcases hq with hq|hq
 ·obtain⟨ak,r,pl,hz⟩:=I.list hq;have cr:=creps_of I ra f2 r;refine SeqAt.in_listAt _ pl.isList (he cr) ⟨.bl _,H,I,rfl,?_⟩;rw[List.any_toArray,kkj cr];exact q
 ·obtain⟨ak,r,pl,hz⟩:=I.tuple hq;have cr:=creps_of I ra f2 r;refine SeqAt.in_tupleAt _ pl (he cr) ⟨.bl _,H,I,rfl,?_⟩;rw[List.any_toArray,kkj cr];exact q
theorem qky(hu:X.A.units+64<cLine):OpR X (compareOp .NotIn) (qvh X.K true):=by
 intro pins s σ H x y v u Q I rx ry h;obtain⟨d,ds,as,bs,p,xs,h1,rfl,hq,ra,f1,f2,q⟩:=h;cases ry;have c1:=Qx I h1 f1 rx;have he:∀{us:List Value},CReps s.heap ds us->∀w,w∈us.toArray->SeqAt.EqAt X.A.in1 s w v (peq (dec s.heap w) d):=fun {us} cr w hw=>by
  obtain⟨d',hd,c⟩:=kj4 cr (by simpa using hw);rw[kx9 c];exact W0 30 (jxg f2 hd) c c1 (by have:=L3.in1_units X.A;omega)
 rcases hq with hq|hq
 ·obtain⟨ak,r,pl,hz⟩:=I.list hq;have cr:=creps_of I ra f2 r;refine SeqAt.notIn_listAt _ pl.isList (he cr) ⟨.bl _,H,I,rfl,?_⟩;rw[List.any_toArray,kkj cr];exact q
 ·obtain⟨ak,r,pl,hz⟩:=I.tuple hq;have cr:=creps_of I ra f2 r;refine SeqAt.notIn_tupleAt _ pl (he cr) ⟨.bl _,H,I,rfl,?_⟩;rw[List.any_toArray,kkj cr];exact q
noncomputable def qvg(kr:Bool):R2:=λx y H Q=>∃i j,x=.str i/\y=.str j/\Q (.bl (if kr then !wwt i j else wwt i j)) H
theorem opInStr:OpR X (compareOp .In) (qvg false):=λpins s σ H x y v u Q I rx ry ⟨i,j,e1,e2,q⟩=>qw3 pins s σ H x y v u Q I rx ry ⟨i,j,e1,e2,q⟩
theorem opNotInStr:OpR X (compareOp .NotIn) (qvg true):=λpins s σ H x y v u Q I rx ry ⟨i,j,e1,e2,q⟩=>kwe pins s σ H x y v u Q I rx ry ⟨i,j,e1,e2,q⟩
noncomputable def vzr(K:PySem.W.Frag)(kr:Bool):R2:=λx y H Q=>qvg kr x y H Q\/qvh K kr x y H Q
theorem vwa(hu:X.A.units+64<cLine)(hK:autoParam (X.K=K) Ŕ):OpR X (compareOp .In) (vzr K false):=by subst hK;exact opInStr.or (vw9 hu)
theorem kj2(hu:X.A.units+64<cLine)(hK:autoParam (X.K=K) Ŕ):OpR X (compareOp .NotIn) (vzr K true):=by subst hK;exact opNotInStr.or (qky hu)
theorem J7{H:Hp}{l:Addr}{xs:List V}(h:LsR K H l xs):SqL K H l xs:=h.sq
theorem kvf{x y:Sl}{ys:List D}{kr:Bool}{Q:VK}(ox:x.ok K H)(oy:y.ok K H)(hy:y.d=.lst ys\/y.d=.tup ys)(hc:(x.d.flat 30&&D.flats 30 ys)=true)
  (k:Q (.bl (if kr then !(ys.any λz=>peq z x.d)else ys.any λz=>peq z x.d)) H):vzr K kr x.v y.v H Q:=by
 rw[Bool.and_eq_true]at hc;obtain⟨l,xs,bs,e3,q3,r3,_⟩:=items oy hy;have r3':RepA K H true ys xs bs:=by
  cases ho:(y.o != .dp)with
  |true=>rw[ho]at r3;exact r3
  |false=>rw[ho]at r3;exact r3.wk
 refine .inr ⟨x.d,ys,x.as,bs,l,xs,RepO.wk ox,e3,?_,r3',hc.1,hc.2,k⟩;rcases q3 with⟨_,z⟩|⟨_,z⟩
 ·exact .inl (J7 z)
 ·exact .inr z
theorem vxl:Ad2 K (vzr K false) (pu2 KQ):=by
 intro H x y s Q ox oy hf k;unfold pu2 KQ fIn at hf;dsimp only at hf;cases hy:y.d with
 | lst ys=>
  rw[hy]at hf;dsimp only at hf
  split at hf
  ·rename_i hc;cases oq9 hf;exact kvf ox oy (.inl hy) hc (k ⟨.dp,.bl _,.bl _,[]⟩ H rfl rfl x8)
  ·cases hf
 | tup ys=>
  rw[hy]at hf;dsimp only at hf
  split at hf
  ·rename_i hc;cases oq9 hf;exact kvf ox oy (.inr hy) hc (k ⟨.dp,.bl _,.bl _,[]⟩ H rfl rfl x8)
  ·cases hf
 | str b=>
  rw[hy]at hf;dsimp only at hf
  split at hf
  ·rename_i a hx;cases oq9 hf;exact .inl ⟨a,b,(z6 ox hx).1,(z6 oy hy).1,k ⟨.dp,.bl _,.bl _,[]⟩ H rfl rfl x8⟩
  ·cases hf
 |_=>rw[hy]at hf;cases hf
theorem kja:Ad2 K (vzr K true) (pu2 z5):=by
 intro H x y s Q ox oy hf k;unfold pu2 z5 kx4 fIn at hf;dsimp only at hf;cases hy:y.d with
 | lst ys=>
  rw[hy]at hf;dsimp only at hf
  split at hf
  ·rename_i hc;cases oq9 hf;exact kvf ox oy (.inl hy) hc (k ⟨.dp,.bl _,.bl _,[]⟩ H rfl rfl x8)
  ·cases hf
 | tup ys=>
  rw[hy]at hf;dsimp only at hf
  split at hf
  ·rename_i hc;cases oq9 hf;exact kvf ox oy (.inr hy) hc (k ⟨.dp,.bl _,.bl _,[]⟩ H rfl rfl x8)
  ·cases hf
 | str b=>
  rw[hy]at hf;dsimp only at hf
  split at hf
  ·rename_i a hx;cases oq9 hf;exact .inl ⟨a,b,(z6 ox hx).1,(z6 oy hy).1,k ⟨.dp,.bl _,.bl _,[]⟩ H rfl rfl x8⟩
  ·cases hf
 |_=>rw[hy]at hf;cases hf
theorem jzw{g:Bool}{d:D}{v:V}{as:List Addr}(h:RepL K H g d v as):decide (v=.non)=isNon d:=by
 cases d with
 |non=>unfold RepL at h;rw[h.1];rfl
 |bl _=>unfold RepL at h;rw[h.1];rfl
 |int _=>unfold RepL at h;rw[h.1];rfl
 |str _=>unfold RepL at h;rw[h.1];rfl
 |tup _=>unfold RepL at h;obtain⟨a,xs,e,_⟩:=h;rw[e];rfl
 |lst _=>unfold RepL at h;obtain⟨a,xs,bs,e,_⟩:=h;rw[e];rfl
 |dct _=>unfold RepL at h;obtain⟨a,xs,bs,e,_⟩:=h;rw[e];rfl
 |obj _ _=>unfold RepL at h;obtain⟨_,x,o,C,e,_⟩:=h;rw[e];rfl
theorem kxn:Ad2 K (λx y H Q=>y=.non/\Q (.bl (decide (x=.non))) H) (f2First fIsNon):=by
 intro H x y s Q ox oy hf k;unfold f2First fIsNon at hf;dsimp only at hf
 split at hf
 ·rename_i hy;cases oq9 hf;have e:=jzw (RepO.wk oy);rw[hy]at e;refine⟨of_decide_eq_true e,?_⟩;rw[jzw (RepO.wk ox)];exact k ⟨.dp,.bl _,.bl _,[]⟩ H rfl rfl x8
 ·cases hf
theorem qza:Ad2 K (λx y H Q=>y=.non/\Q (.bl (!decide (x=.non))) H) (f2First fNotNon):=by
 intro H x y s Q ox oy hf k;unfold f2First fNotNon at hf;dsimp only at hf
 split at hf
 ·rename_i hy;cases oq9 hf;have e:=jzw (RepO.wk oy);rw[hy]at e;refine⟨of_decide_eq_true e,?_⟩;rw[jzw (RepO.wk ox)];exact k ⟨.dp,.bl _,.bl _,[]⟩ H rfl rfl x8
 ·cases hf
theorem vqa(n:Nat)(i:Int):_root_.Q.ixN n i=L2.ixN n i:=rfl
theorem vwo{x y:Sl}{d:D}{Q:VK}(ox:x.ok K H)(oy:y.ok K H)(hf:jY x.d y.d=some d)(k:∀z:Sl,z.o=sub x.o->z.d=d->z.ok K H->(∀b∈z.frz,b∈x.frz)->(∀b∈z.as,b∈x.as)->Q z.v H):rIx K x.v y.v H Q:=by
 have seq:∀ds:List D,(x.d=.lst ds\/x.d=.tup ds)->∀i:Int,y.d=.int i->((_root_.Q.ixN ds.length i).bind λj=>ds[j]?)=some d->rIx K x.v y.v H Q:=by
  intro ds hx i hy hd;obtain⟨l,xs,bs,e3,q3,r3,h3,h4⟩:=items ox hx;cases hj:_root_.Q.ixN ds.length i with
  | none=>rw[hj]at hd;cases hd
  | some j=>
   rw [hj]at hd;obtain⟨v,cs,e4,r4,h5⟩:=r3.get (show ds[j]?=some d from hd);have iq:atI xs i=some v:=by
    unfold atI;rw[<-r3.len,<-vqa,hj];exact e4
   have fin:Q v H:=by
    cases ho:x.o with
    | dp=>
     rw[ho]at r4;exact k ⟨.dp,d,v,cs⟩ (by rw[ho];rfl) rfl r4 (λb hb=>(nomatch hb)) λb hb=>h3 b (h5 b hb)
    | no=>
     rw[ho]at r4;exact k ⟨.no,d,v,cs⟩ (by rw[ho];rfl) rfl r4 (λb hb=>h4 (by rw[ho];exact(λz=>nomatch z)) b (h5 b hb)) λb hb=>h3 b (h5 b hb)
    | rt=>
     rw[ho]at r4;exact k ⟨.no,d,v,cs⟩ (by rw[ho];rfl) rfl r4 (λb hb=>h4 (by rw[ho];exact(λz=>nomatch z)) b (h5 b hb)) λb hb=>h3 b (h5 b hb)
   rcases q3 with⟨_,z⟩|⟨_,z⟩
   ·exact .inl ⟨l,xs,i,v,e3,vx oy hy,J7 z,iq,fin⟩
   ·exact .inr (.inl ⟨l,xs,i,v,e3,vx oy hy,z,iq,fin⟩)
 unfold jY at hf;cases hx:x.d with
 | lst ds=>
  rw [hx]at hf;cases hy:y.d with
  | int i=>rw[hy]at hf;exact seq ds (.inl hx) i hy hf
  | _=>rw[hy]at hf;cases hf
 | tup ds=>
  rw [hx]at hf;cases hy:y.d with
  | int i=>rw[hy]at hf;exact seq ds (.inr hx) i hy hf
  | _=>rw[hy]at hf;cases hf
 | str z=>
  rw [hx]at hf;cases hy:y.d with
  | int i=>
   rw [hy]at hf;have hf:((_root_.Q.ixN z.cps.size i).bind λj=>(z.cps.toList[j]?).map λc=>D.str ⟨#[c]⟩)=some d:=hf;cases hj:_root_.Q.ixN z.cps.size i with
   | none=>rw[hj]at hf;cases hf
   | some j=>
    rw[hj]at hf;cases hc:z.cps.toList[j]? with
    | none=>rw[Option.bind_some,hc]at hf;cases hf
    | some c=>
     rw[Option.bind_some,hc]at hf;cases oq9 hf;have iq:atI z.cps.toList i=some c:=by
      unfold atI;rw[Ya,<-vqa,hj];exact hc
     obtain⟨e1,hz⟩:=z6 ox hx;refine .inr (.inr ⟨z,i,c,e1,vx oy hy,hz,iq,?_⟩);have rp:∀g,RepL K H g (.str ⟨#[c]⟩) (.str ⟨#[c]⟩) []:=λg=>kjj (show(1:Nat)<=sizeLine by decide)
     cases ho:x.o with
     |dp=>exact k ⟨.dp,.str ⟨#[c]⟩,.str ⟨#[c]⟩,[]⟩ (by rw[ho];rfl) rfl (rp false) (λb hb=>(nomatch hb)) λb hb=>(nomatch hb)
     |no=>exact k ⟨.no,.str ⟨#[c]⟩,.str ⟨#[c]⟩,[]⟩ (by rw[ho];rfl) rfl (rp true) (λb hb=>(nomatch hb)) λb hb=>(nomatch hb)
     |rt=>exact k ⟨.no,.str ⟨#[c]⟩,.str ⟨#[c]⟩,[]⟩ (by rw[ho];rfl) rfl (rp true) (λb hb=>(nomatch hb)) λb hb=>(nomatch hb)
  |_=>rw[hy]at hf;cases hf
 |non=>rw[hx]at hf;cases hf
 |bl _=>rw[hx]at hf;cases hf
 |int _=>rw[hx]at hf;cases hf
 |dct _=>rw[hx]at hf;cases hf
 |obj _ _=>rw[hx]at hf;cases hf
theorem q_ix(ha:QV X Z qa a ea)(hb:QV X Z true b eb)(hs:Wz eb)(hK:autoParam (X.K=Z.K) Ŕ):QV X Z qa (j6 a b) (.Subscript ea eb pos):=
 qz (vjb (hK▸qjv) ha hb hs) fun σ H Q ay=>ex8 ay λE L r m w hc xc k=>by
  refine wK m w (show bnd (a E) _=some r from hc) xc λE1 s h1 x L1 H1 e1 e2 m1 w1 ok fr sr st sm=>?_
  refine wK m1 w1 h1 (xc.step st) λE2 s2 h2 y L2 H2 e3 e4 m2 w2 ir rj qc bn fj=>?_
  obtain⟨z,hz,rfl⟩:=Q6 h2;cases hf:jY s.2 s2.2 with
  |none=>rw[hf]at hz;cases hz
  |some d=>
   rw[hf]at hz;cases oq9 hz;have kx:=XW ok fr bn (fj rfl);refine vwo kx.1 ir (by rw[e2,e4];exact hf) λz zo zd so zf za=>?_
   exact k _ _ rfl z L2 H2 (by rw[zo,e1]) zd m2 w2 so (λb hb=>kx.2 b (zf b hb)) (jx5 sr za) (st.trans bn) λhq=>v3 (sm hq) (fj rfl)
theorem vvf(ht:QT X Z q u e)(ha:QE X Z q a ea)(hb:QE X Z q b eb):QE X Z q (cIf u a b) (.IfExp e ea eb pos):=qz (vjd ht ha hb) fun σ H Q ay=>ex8 ay λE L r m w hc xc k=>
 vqu m w (show bnd (u E) _=some r from hc) xc λE1 s h1 L1 H1 m1 w1 st sm=>by
  have fin:∀{c:Ex},c E1=some r->tQ Z q c σ H1 Q:=λhc=>⟨E1,L1,r,m1,w1,hc,xc.step st,λE' a z x L' H' e1 e2 m' w' cy i7=>k E' a z x L' H' e1 e2 m' w' (st.trans cy) λhq=>⟨v3 (sm hq) (i7 hq).1,λb hb=>xZ (sm hq) ((i7 hq).2 b hb)⟩⟩
  cases s with
  |true=>rw[Xa rfl]at h1 ⊢;exact fin h1
  |false=>rw[Xe (by decide)]at h1 ⊢;exact fin h1
theorem vkr{op}(h:QE X Z q a ea):QE X Z q a (.BoolOp op [ea] pos):=wjl h
theorem wvu(ha:QV X Z q a ea)(hb:QE X Z q b (.BoolOp .And (eb::es) pos)):QE X Z q (ZJ a b) (.BoolOp .And (ea::eb::es) pos):=qz (wjr ha hb) fun σ H Q ay=>ex8 ay λE L r m w hc xc k=>
 wK m w (show bnd (a E) _=some r from hc) xc λE1 s h1 x L1 H1 e1 e2 m1 w1 ok fr sr st sm=>by
  cases hs:s.2 with
  | bl kk=>
   rw[hs]at h1;refine⟨kk,XY ok (e2.trans hs),?_⟩;cases kk with
   |true=>
    rw[Xa rfl];exact⟨E1,L1,r,m1,w1,h1,xc.step st,λE' a z x L' H' e1 e2 m' w' cy i7=>k E' a z x L' H' e1 e2 m' w' (st.trans cy) λhq=>⟨v3 (sm hq) (i7 hq).1,λb hb=>xZ (sm hq) ((i7 hq).2 b hb)⟩⟩
   |false=>
    rw[Xe (by decide)];cases oq9 h1;obtain⟨w3,dj⟩:=Q8 w1 st (x8 (K:=Z.K) (H:=H1) (i:=false) (fr:=[])) (λ_ z=>(nomatch z)) (λ_ z=>(nomatch z)) (λ_ z=>(nomatch z));exact k _ _ rfl ⟨.dp,.bl false,.bl false,[]⟩ L1 H1 rfl rfl m1 w3 dj λhq=>⟨sm hq,λ_ z=>(nomatch z)⟩
  |_=>rw[hs]at h1;cases h1
theorem q_or(ha:QV X Z q a ea)(hb:QE X Z q b (.BoolOp .Or (eb::es) pos)):QE X Z q (cOr a b) (.BoolOp .Or (ea::eb::es) pos):=qz (ww2 ha hb) fun σ H Q ay=>ex8 ay λE L r m w hc xc k=>
 wK m w (show bnd (a E) _=some r from hc) xc λE1 s h1 x L1 H1 e1 e2 m1 w1 ok fr sr st sm=>by
  cases hs:s.2 with
  | bl kk=>
   rw[hs]at h1;refine⟨kk,XY ok (e2.trans hs),?_⟩;cases kk with
   |false=>
    rw[Xe (by decide)];exact⟨E1,L1,r,m1,w1,h1,xc.step st,λE' a z x L' H' e1 e2 m' w' cy i7=>k E' a z x L' H' e1 e2 m' w' (st.trans cy) λhq=>⟨v3 (sm hq) (i7 hq).1,λb hb=>xZ (sm hq) ((i7 hq).2 b hb)⟩⟩
   |true=>
    rw[Xa rfl];cases oq9 h1;obtain⟨w3,dj⟩:=Q8 w1 st (x8 (K:=Z.K) (H:=H1) (i:=true) (fr:=[])) (λ_ z=>(nomatch z)) (λ_ z=>(nomatch z)) (λ_ z=>(nomatch z));exact k _ _ rfl ⟨.dp,.bl true,.bl true,[]⟩ L1 H1 rfl rfl m1 w3 dj λhq=>⟨sm hq,λ_ z=>(nomatch z)⟩
  |_=>rw[hs]at h1;cases h1
theorem truV{x:Sl}{k:Bool}(ok:x.ok K H)(h:truth x.d=some k)(hd:∀kvs,x.d≠.dct kvs):wx5 K x.v H k:=by
 cases hx:x.d with
 |non=>rw[hx]at h;rw[wk4 ok hx];exact(oq9 h).symm
 |bl b=>rw[hx]at h;rw[XY ok hx];exact(oq9 h).symm
 |int i=>rw[hx]at h;rw[vx ok hx];exact(oq9 h).symm
 |str z=>
  rw[hx]at h;obtain⟨e,hz⟩:=z6 ok hx;rw[e];refine⟨hz,?_⟩;rw[<-oq9 h];show(z.cps.size != 0)=(((z.cps.size:Nat):Int) != 0);rw[Bool.eq_iff_iff];simp
 |lst ds=>
  rw[hx]at h;obtain⟨a,xs,bs,e,q,r,_⟩:=items ok (.inl hx);rw[e];have q':LsR K H a xs:=by rcases q with⟨_,z⟩|⟨z,_⟩;exact z;rw[hx]at z;cases z
  refine .inl ⟨xs,J7 q',?_⟩;rw[<-oq9 h];have:=r.len;cases ds<;>cases xs<;>simp_all
 |tup ds=>
  rw[hx]at h;obtain⟨a,xs,bs,e,q,r,_⟩:=items ok (.inr hx);rw[e];have q':SqT K H a xs:=by rcases q with⟨z,_⟩|⟨_,z⟩;rw[hx]at z;cases z;exact z
  refine .inr (.inl ⟨xs,q',?_⟩);rw[<-oq9 h];have:=r.len;cases ds<;>cases xs<;>simp_all
 |dct kvs=>exact absurd hx (hd kvs)
 |obj c f=>rw[hx]at h;cases h
theorem qqq{d:D}{k:Bool}(h:truthQ d=some k):truth d=some k/\∀kvs,d≠.dct kvs:=by
 cases d<;>first|exact⟨h,λ_ z=>nomatch z⟩|cases h
theorem YJ(h:QV X Z q a ea)(he:autoParam (∀fi,isTrue ea X.env fi=(do let v <-fi;standAt ea.pos;holding [v] (truthy v))) Ŗ)(hK:autoParam (X.K=Z.K) Ŕ):QT X Z q (tEQ a) ea:=vkv (vj3 h he) fun σ H Q ay=>ex8 ay λE L r m w hc xc k=>
 wK m w (show bnd (a E) _=some r from hc) xc λE1 s h1 x L1 H1 e1 e2 m1 w1 ok fr sr st sm=>by
  obtain⟨kk,hk,rfl⟩:=Q6 h1;obtain⟨h2,h3⟩:=qqq hk;exact⟨kk,hK▸truV ok (by rw[e2];exact h2) (by rw[e2];exact h3),k _ _ rfl L1 H1 m1 w1 st sm⟩
end
theorem kj9{α:Type}:∀{L:List α} {i:Nat} {q:α},L[i]?=some q->∃A B,L=A++q::B/\∀q',L.set i q'=A++q'::B
 |[],_,_,h=>by simp at h
 |a::L,0,q,h=>by
  have e:a=q:=by simpa using h
  subst e;exact⟨[],L,rfl,λ_=>rfl⟩
 |a::L,i+1,q,h=>by
  obtain⟨A,B,e,f⟩:=kj9 (L:=L) (i:=i) (by simpa using h);exact⟨a::A,B,by rw[e];rfl,λq'=>by rw[List.set_cons_succ,f];rfl⟩
section
variable {K:PySem.W.Frag}{H:Hp}{M T L:Ls}{y y':Sl}{l:Addr}{ob:HO}
theorem World.write(w:World K H (some y::(T++M)))(hl:l∈y.own)(ok':y'.ok K (upd H l ob))(nd:y'.own.Nodup)(h1:∀a∈y'.own,a∈y.own\/a∈j7 T)(h2:∀a∈y'.frz,a∈y.as\/a∈j7 T\/a∈jW T)(h3:∀a∈y'.own,a∉y'.frz):
  World K (upd H l ob) (some y'::M)/\Step H (some y::(T++M)) (upd H l ob) (some y'::M):=by
 have wn:=w.nd;rw [jz,k6,X7,X7]at wn;obtain⟨n1,⟨n2,n3,n4⟩,n5⟩:=wn;have oy:l∈j7 (some y::(T++M)):=by rw[jz];exact ll9 _ hl
 have mw:=w.own_al oy;have ds:∀a,(a∈y.own\/a∈j7 T\/a∈j7 M)->¬(a∈y.frz\/a∈jW T\/a∈jW M):=λa ha hf=>by
  refine w.ds a ?_ ?_
  ·rw[jz,k6];rcases ha with z|z|z
   ·exact ll9 _ z
   ·exact lr9 _ (ll9 _ z)
   ·exact lr9 _ (lr9 _ z)
  ·rw[qk,qv];rcases hf with z|z|z
   ·exact ll9 _ z
   ·exact lr9 _ (ll9 _ z)
   ·exact lr9 _ (lr9 _ z)
 have noM:∀z,some z∈M->l∉z.as:=λz hz ha=>by
  rcases Sl.as_of ha with q|q
  ·exact n5 l hl l (lr9 _ (mem_owned.mpr ⟨z,hz,q⟩)) rfl
  ·exact ds l (.inl hl) (.inr (.inr (mem_frozen.mpr ⟨z,hz,q⟩)))
 have ke:∀a o,H a=some o->a≠l->upd H l ob a=some o:=λa o e ne=>by rw[kJ ne];exact e
 have kp:∀as:List Addr,l∉as->Kp H (upd H l ob) as:=λas hn=>by
  refine⟨λa xs e=>ke a _ e λz=>?_,λa o u e=>ke a _ e λz=>?_,λa ha o e=>ke a o e λz=>hn (z▸ha)⟩
  ·subst z;rcases mw with⟨_,q⟩|⟨_,q⟩|⟨_,q⟩<;>(rw[e]at q;cases q)
  ·subst z;rcases mw with⟨_,q⟩|⟨_,q⟩|⟨_,q⟩<;>(rw[e]at q;cases q)
 have wM:World K (upd H l ob) M:=by
  have w1:World K H M:=w.tail.right;exact⟨λz hz=>RepO.kp (w1.ok z hz) (kp _ (noM z hz)),w1.nd,w1.ds⟩
 refine⟨wM.cons ok' nd (λa ha hM=>?_) (λa ha hM=>?_) (λa ha hM=>?_) h3,λa o e hn=>ke a o e λz=>hn (z▸oy),λa ha=>?_,λa ha=>?_⟩
 ·rcases h1 a ha with z|z
  ·exact n5 a z a (lr9 _ hM) rfl
  ·exact n4 a z a hM rfl
 ·rcases h1 a ha with z|z
  ·exact ds a (.inl z) (.inr (.inr hM))
  ·exact ds a (.inr (.inl z)) (.inr (.inr hM))
 ·rcases h2 a ha with z|z|z
  ·rcases Sl.as_of z with z|z
   ·exact n5 a z a (lr9 _ hM) rfl
   ·exact ds a (.inr (.inr hM)) (.inl z)
  ·exact n4 a z a hM rfl
  ·exact ds a (.inr (.inr hM)) (.inr (.inl z))
 ·rw[jz]at ha;rw[jz,k6];rcases List.mem_append.mp ha with z|z
  ·rcases h1 a z with z|z
   ·exact .inl (ll9 _ z)
   ·exact .inl (lr9 _ (ll9 _ z))
  ·exact .inl (lr9 _ (lr9 _ z))
 ·rw[qk]at ha;rw[jz,k6,qk,qv];rcases List.mem_append.mp ha with z|z
  ·rcases h2 a z with z|z|z
   ·rcases Sl.as_of z with z|z
    ·exact .inr (.inl (ll9 _ z))
    ·exact .inl (ll9 _ z)
   ·exact .inr (.inl (lr9 _ (ll9 _ z)))
   ·exact .inl (lr9 _ (ll9 _ z))
  ·exact .inl (lr9 _ (lr9 _ z))
theorem World.writeAt{i:Nat}(w:World K H (T++L))(hy:L[i]?=some (some y))(hl:l∈y.own)(ok':y'.ok K (upd H l ob))(nd:y'.own.Nodup)(h1:∀a∈y'.own,a∈y.own\/a∈j7 T)(h2:∀a∈y'.frz,a∈y.as\/a∈j7 T\/a∈jW T)(h3:∀a∈y'.own,a∉y'.frz):
  World K (upd H l ob) (L.set i (some y'))/\Step H (T++L) (upd H l ob) (L.set i (some y')):=by
 obtain⟨A,B,e,f⟩:=kj9 hy;rw[f];subst e;have p:(T++(A++some y::B)).Perm (some y::(T++(A++B))):=by
  refine(List.Perm.append_left T (List.perm_middle (a:=some y) (l₁:=A) (l₂:=B))).trans List.perm_middle
 obtain⟨w2,s2⟩:=World.write (M:=A++B) (w.perm p) hl ok' nd h1 h2 h3;exact⟨w2.perm List.perm_middle.symm,s2.perm p.symm List.perm_middle.symm⟩
end
theorem RepA.snoc{K:PySem.W.Frag}{H:Hp}{g:Bool}{d:D}{x:V}{cs:List Addr}(h:RepL K H g d x cs){ds:List D}{xs:List V}{bs:List Addr}(r:RepA K H g ds xs bs):RepA K H g (ds++[d]) (xs++[x]) (bs++cs):=by
 refine RepA.app ?_ r;unfold RepA;exact⟨x,[],cs,[],rfl,by simp,h,by unfold RepA;exact⟨rfl,rfl⟩⟩
theorem vw6{K:PySem.W.Frag}{H:Hp}{y:Sl}{ds:List D}(ok:y.ok K H)(hd:y.d=.lst ds)(ho:y.o≠.no):∃l xs bs,y.v=.ref l/\H l=some (.lst xs)/\y.as=l::bs/\l∈y.own/\RepA K H (y.o != .dp) ds xs bs:=by
 obtain⟨o,d,v,as⟩:=y;dsimp only at hd ho;subst hd;cases o with
 |no=>exact absurd rfl ho
 |rt=>
  obtain⟨a,xs,bs,rfl,r,q,rfl⟩:=(show RepR K H (.lst ds) v as from ok);exact⟨a,xs,bs,rfl,q,rfl,by simp[Sl.own],r⟩
 |dp=>
  have ok:RepL K H false (.lst ds) v as:=ok;unfold RepL at ok;obtain⟨a,xs,bs,rfl,r,q⟩:=ok;rcases q with⟨q,rfl⟩|⟨z,_⟩
  ·exact⟨a,xs,bs,rfl,q,rfl,by simp[Sl.own],r⟩
  ·cases z
theorem kz1{K:PySem.W.Frag}{H:Hp}{T L:Ls}{i:Nat}{y:Sl}{l:Addr}{xs xs':List V}{bs cs:List Addr}{o':Own}{ds':List D}(w:World K H (T++L))(hy:L[i]?=some (some y))(hH:H l=some (.lst xs))(ha:y.as=l::bs)(hl:l∈y.own)(hv:y.v=.ref l)
  (r:RepA K H (o' != .dp) ds' xs' cs) (hc:(o'=.rt/\∀a∈cs,a∈bs\/a∈j7 T\/a∈jW T)\/(o'=.dp/\y.o=.dp/\cs.Nodup/\∀a∈cs,a∈bs\/a∈j7 T)):
  World K (upd H l (.lst xs')) (L.set i (some ⟨o',.lst ds',y.v,l::cs⟩))/\Step H (T++L) (upd H l (.lst xs')) (L.set i (some ⟨o',.lst ds',y.v,l::cs⟩)):=by
 have oL:l∈j7 L:=mem_owned.mpr ⟨y,wQ hy,hl⟩;have oy:l∈j7 (T++L):=by rw[k6];exact lr9 _ oL
 have nd:=w.nd;rw [k6,X7]at nd;have nT:l∉j7 T:=λz=>nd.2.2 l z l oL rfl
 have nF:l∉jW T:=λz=>w.ds l oy (by rw[qv];exact ll9 _ z)
 have yn:y.own.Nodup:=by
  obtain⟨A,B,e,_⟩:=kj9 hy;have:=nd.2.1;rw[e,k6,jz,X7]at this;exact(List.nodup_append.mp this.2.1).1
 have nb:l∉bs:=λz=>by
  cases ho:y.o with
  | no=>unfold Sl.own at hl;rw[ho]at hl;exact nomatch hl
  | rt=>
   have:l∈y.frz:=by unfold Sl.frz;rw[ho,ha];exact z
   exact w.ds l oy (by rw[qv];exact lr9 _ (mem_frozen.mpr ⟨y,wQ hy,this⟩))
  | dp=>
   unfold Sl.own at yn;rw[ho,ha]at yn;exact(List.nodup_cons.mp yn).1 z
 have nc:l∉cs:=λz=>by
  rcases hc with⟨_,hc⟩|⟨_,_,_,hc⟩
  ·rcases hc l z with q|q|q
   ·exact nb q
   ·exact nT q
   ·exact nF q
  ·rcases hc l z with q|q
   ·exact nb q
   ·exact nT q
 have kp:Kp H (upd H l (.lst xs')) cs:=by
  have k2:∀a o,H a=some o->a≠l->upd H l (.lst xs') a=some o:=λa o e ne=>by rw[kJ ne];exact e
  refine⟨λa zs e=>k2 a _ e λz=>?_,λa o u e=>k2 a _ e λz=>?_,λa ha o e=>k2 a o e λz=>nc (z▸ha)⟩
  ·subst z;rw[hH]at e;cases e
  ·subst z;rw[hH]at e;cases e
 have r':=r.kp kp;rcases hc with⟨rfl,hc⟩|⟨rfl,hdp,mr,hc⟩
 ·refine World.writeAt w hy hl (y':=⟨.rt,.lst ds',y.v,l::cs⟩) ⟨l,xs',cs,hv,r',wV,rfl⟩ (by simp[Sl.own]) (λa h=>?_) (λa h=>?_) (λa h z=>?_)
  ·have:a=l:=by simpa [Sl.own]using h
   subst this;exact .inl hl
  ·rcases hc a (by simpa [Sl.frz]using h)with q|q
   ·exact .inl (by rw[ha];exact lc9 _ q)
   ·exact .inr q
  ·have:a=l:=by simpa [Sl.own]using h
   subst this;exact nc (by simpa [Sl.frz]using z)
 ·have oa:y.own=y.as:=by unfold Sl.own;rw[hdp]
  refine World.writeAt w hy hl (y':=⟨.dp,.lst ds',y.v,l::cs⟩) ?_ (List.nodup_cons.mpr ⟨nc,mr⟩) (λa h=>?_) (λa h=>(nomatch h)) (λa h z=>(nomatch z))
  ·show RepL K _ false (.lst ds') y.v (l::cs);unfold RepL;exact⟨l,xs',cs,hv,r',.inl ⟨wV,rfl⟩⟩
  ·rcases List.mem_cons.mp (show a∈l::cs from h)with q|q
   ·subst q;exact .inl hl
   ·rcases hc a q with q|q
    ·exact .inl (by rw[oa,ha];exact lc9 _ q)
    ·exact .inr q
section
variable {X:Cx}{Z:Fx0}{pn:List Nat}{q:Bool}{c:Ex}{e:Expr}{σ:L2.St}{H:Hp}{L:Ls}{E:En}
theorem vq8{K:PySem.W.Frag}{x:Sl}{ds:List D}(ok:x.ok K H)(hd:x.d=.lst ds):tyV K "list" x.v H:=by
 obtain⟨a,xs,bs,e1,q1,_⟩:=items ok (.inl hd);rw[e1];rcases q1 with⟨_,z⟩|⟨z,_⟩
 ·exact .inl ⟨rfl,xs,z.sq⟩
 ·rw[hd]at z;cases z
theorem wwk{K:PySem.W.Frag}{x:Sl}(ok:x.ok K H)(b:Bool)(hb:b=false->vK x.sd=true):∃cs,RepL K H b x.d x.v cs/\(∀a∈cs,a∈x.as)/\(b=false->∀a∈cs,a∈x.own)/\(b=false->x.own.Nodup->cs.Nodup):=by
 cases b with
 | true=>exact⟨x.as,RepO.wk ok,λ_ h=>h,(λz=>by cases z),(λz=>by cases z)⟩
 | false=>
  have t:=hb rfl;unfold vK at t
  by_cases ho:x.o=.dp
  ·have e:x.own=x.as:=by unfold Sl.own;rw[ho]
   refine⟨x.as,?_,λ_ h=>h,λ_ a h=>by rw[e];exact h,λ_ n=>by rw[e]at n;exact n⟩;have:=ok;unfold Sl.ok at this;rw[ho]at this;exact this
  ·have hp:x.d.pure=true:=by
    rcases Bool.or_eq_true_iff.mp t with z|z
    ·exact absurd (by simpa using z) ho
    ·exact z
   obtain⟨z,rp⟩:=RepL.pu (g':=false) (RepO.wk ok) hp;exact⟨[],rp,λ_ h=>(nomatch h),λ_ _ h=>(nomatch h),λ_ _=>Xs⟩
theorem Vj{α:Type}{l:List α}{i:Nat}{x:α}(h:l[i]?=some x):l.set i x=l:=by
 obtain⟨h1,h2⟩:=List.getElem?_eq_some_iff.mp h;rw[<-h2];simp
theorem wxr {D':Ends} {f:List D->D->Option (List D)} {i:Nat} {r:Fl} {G:V->V->Hp->Prop} (m:Mt E σ L) (w:World Z.K H L) (hc:qw f i c E=some r) (k:FlP Z pn D' σ H L r)
  (g:∀ (l:Addr) (x:V) (xs:List V) (ds ds':List D) (d:D) (bs cs:List Addr) (H1:Hp) (gg:Bool),f ds d=some ds'->H1 l=some (.lst xs)->RepA Z.K H1 gg ds xs bs->RepL Z.K H1 gg d x cs ->
   (∀ xs' es,RepA Z.K H1 gg ds' xs' es->(∀a∈es,a∈bs\/a∈cs)->((bs++cs).Nodup->es.Nodup)->D'.nx σ (upd H1 l (.lst xs')))->G (.ref l) x H1):
  ∃ v,σ[i]?=some (some v)/\tyV Z.K "list" v H/\tQ Z q c σ H (G v):=by
 unfold qw at hc;cases h0:E[i]? with
 | none=>rw[h0]at hc;cases hc
 | some s0 =>
  cases s0 with
  | none=>rw[h0]at hc;cases hc
  | some s0=>
   obtain ⟨o0,d0⟩:=s0;cases d0 with
   | lst on=>
    rw [h0,Xa (show Kj (some (some (o0,D.lst on)))=true from rfl)]at hc;obtain ⟨x0,a1,a2,a3,a4⟩:=m.get h0;refine ⟨x0.v,a4,vq8 (w.ok x0 (wQ a1)) a3,?_⟩;refine W5 m w hc k λE1 s h1 x L1 H1 e1 e2 m1 w1 st _=>?_
    cases hE:E1[i]? with
    | none=>rw[hE]at h1;cases h1
    | some s1=>
     cases s1 with
     | none=>rw[hE]at h1;cases h1
     | some s1=>
      obtain⟨oo,dd⟩:=s1;rw [hE]at h1;cases dd with
      | lst ds=>
       dsimp only at h1
       by_cases ig:oo=.no
       ·rw [Xa ig]at h1;cases h1
       ·rw [Xe ig]at h1;cases hfd:f ds s.2 with
        | none=>rw[hfd]at h1;cases h1
        | some ds'=>
         rw[hfd]at h1;obtain⟨y,b1,b2,b3,b4⟩:=m1.get hE;have hv:y.v=x0.v:=by rw[a4]at b4;exact(oq9 (oq9 b4)).symm
         obtain⟨l,xs,bs,c1,c2,c3,c4,c5⟩:=vw6 (w1.ok y (lc9 _ (wQ b1))) b3 (by rw[b2];exact ig);have ex0:x0.v=.ref l:=hv▸c1;rw[ex0];have wT:World Z.K H1 ([some x]++L1):=w1;have okx:=w1.head;have nd:=w1.nd;rw[jz,X7]at nd;have oT:j7 [some x]=x.own:=by simp
         have fT:jW [some x]=x.frz:=by simp
         by_cases hd:oo=.dp/\vK s=true
         ·rw[Xa hd]at h1;cases oq9 h1;have hyo:y.o=.dp:=b2.trans hd.1;rw[hyo]at c5;obtain⟨cs,r1,h3,h4,h5⟩:=wwk okx false λ_=>by rw[show x.sd=s from by simp[Sl.sd,e1,e2]];exact hd.2
          refine g l x.v xs ds ds' s.2 bs cs H1 false hfd c2 c5 (by rw[<-e2];exact r1) λxs' es re he hn=>?_
          have ynd:(bs++cs).Nodup:=by
           have yo:y.own=l::bs:=by unfold Sl.own;rw[hyo,c3]
           obtain⟨A,B,e,_⟩:=kj9 b1;have q:=nd.2.1;rw[e,k6,jz,X7]at q;have q2:=(List.nodup_append.mp q.2.1).1;rw[yo]at q2;rw[X7];refine⟨(List.nodup_cons.mp q2).2,h5 rfl nd.1,λa ha b hb lp=>?_⟩;subst lp;exact nd.2.2 a (h4 rfl a hb) a (mem_owned.mpr ⟨y,wQ b1,by rw[yo];exact lc9 _ ha⟩) rfl
          obtain⟨w3,s3⟩:=kz1 (o':=.dp) (ds':=ds') (xs':=xs') wT b1 c2 c3 c4 c1 re (.inr ⟨rfl,hyo,hn ynd,λa ha=>(he a ha).imp id λz=>by rw[oT];exact h4 rfl a z⟩);refine k σ _ _ Pn.refl ?_ w3 (st.trans s3);have:=m1.set (x:=⟨.dp,.lst ds',y.v,l::es⟩) i;rw[Vj b4]at this;exact this
         ·rw[Xe hd]at h1;cases oq9 h1;have c6:RepA Z.K H1 true ds xs bs:=by
           cases hb:(y.o != .dp)with
           |true=>rw[hb]at c5;exact c5
           |false=>rw[hb]at c5;exact c5.wk
          refine g l x.v xs ds ds' s.2 bs x.as H1 true hfd c2 c6 (by rw[<-e2];exact RepO.wk okx) λxs' es re he hn=>?_
          obtain⟨w3,s3⟩:=kz1 (o':=.rt) (ds':=ds') (xs':=xs') wT b1 c2 c3 c4 c1 re (.inl ⟨rfl,λa ha=>(he a ha).imp id λz=>by rw[oT,fT];exact Sl.as_of z⟩);refine k σ _ _ Pn.refl ?_ w3 (st.trans s3);have:=m1.set (x:=⟨.rt,.lst ds',y.v,l::es⟩) i;rw[Vj b4]at this;exact this
      |_=>cases h1
   |_=>rw[h0]at hc;cases hc
theorem wvt{i:Nat}{o:Expr}{apos aq pos:Pos}(hb:PE X (.Call (.Attribute o "append" apos) [e] [] aq) (tBM Z.K "list" kxz (zV i) (vz7 (tQ Z q c) wx9)))(hs:autoParam (swapsWith (.Call (.Attribute o "append" apos) [e] [] aq) none pos.line X.env=pure false) Ŕ):
  QS X Z pn (qw qZ i c) (.Expr (.Call (.Attribute o "append" apos) [e] [] aq) pos):=xX (kz3 hb hs) λD σ H ay=>ex7 ay λE L r m w hc k=>
 wxr (G:=λv x H1=>kxz v [x] H1 λ_ H2=>D.nx σ H2) m w hc k λl x xs ds ds' d bs cs H1 gg hf hH ra rx fin=>by
  unfold qZ at hf
  by_cases hl:ds.length<big
  ·rw[Xa hl]at hf;cases oq9 hf;exact⟨l,xs,x,rfl,rfl,hH,by rw[<-ra.len];exact hl,fin (xs++[x]) (bs++cs) (RepA.snoc rx ra) (λa ha=>List.mem_append.mp ha) λh=>h⟩
  ·rw[Xe hl]at hf;cases hf
end
section
variable {X:Cx}{Z:Fx0}{pn:List Nat}{q:Bool}{a b c:Ex}{tg e ea eb:Expr}{σ:L2.St}{H:Hp}{L:Ls}{E:En}{pos p:Pos}
theorem vz9{pins:List (Addr×Obj)}{H1:Hp}{s1:Shared}{x:Str}{t:Tok}{R:It->Hp->Prop}(I1:L2.Inv X pins σ H1 s1)(q:R (Its x) H1):wpAny (model X.prog X.w) X.A (pyIter (.str x t)) (PIE X pins σ tg R) X.xe s1:=by
 have fp:∀b∈[s1.heap.objs.size],ww X pins H1 b:=λb hb=>by
  have e:b=s1.heap.objs.size:=by simpa using hb
  subst e;exact I1.fpOk (X9 _) (I1.hok.fresh (X9 _))
 cases ha:x.cps.all (· < 128)
 ·exact wpAny_pyIter_wide ha ⟨s1.heap.objs.size,[s1.heap.objs.size],_,_,H1,rfl,I1.kept (t':=s1.toks) λb o e=>X8 _ e,kzx (λA' hA=>PySem.Walks.strWide hA _ x t) (λ_ _ _ _ _ st h=>wpAny_pyIter_striter_wide st h) (by decide),⟨_,Xl _ rfl,rfl,rfl⟩,fp,q⟩
 ·exact wpAny_pyIter_ascii ha ⟨s1.heap.objs.size,[s1.heap.objs.size],_,_,H1,rfl,I1.kept (t':=s1.toks) λb o e=>X8 _ e,kzx (λA' hA=>PySem.Walks.strAscii hA _ x t) (λ_ _ _ _ _ st h=>wpAny_pyIter_striter_ascii st h) (by decide),⟨_,Xl _ rfl,rfl,rfl⟩,fp,q⟩
theorem wk3{K:PySem.W.Frag}{H:Hp}(c:Nat):Sl.ok K H ⟨.no,.str ⟨#[c]⟩,.str ⟨#[c]⟩,[]⟩:=by
 show RepL K H true _ _ _;exact kjj (show(1:Nat)<=sizeLine by decide)
theorem wk2{K:PySem.W.Frag}{H:Hp}(i:Int):Sl.ok K H ⟨.no,.int i,.int i,[]⟩:=by
 show RepL K H true _ _ _;exact KJ
noncomputable def iAny(K:PySem.W.Frag)(tl:TE):TI:=fun σ H R=>tl σ H λx H1=>(∃a xs,x=.ref a/\SqL K H1 a xs/\(xs.length<=sizeLine->R (Itl K a) H1))\/(∃a xs,x=.ref a/\SqT K H1 a xs/\(xs.length<=sizeLine->R (Itt K a) H1))\/∃z,x=.str z/\R (Its z) H1
theorem wji{l:Expr}{tl:TE}(hl:PE X l tl):PI X tg l (iAny X.K tl):=by
 intro pins s σ H R I h;have h':tl σ H λx H1=>(∃a xs,x=.ref a/\SqL X.K H1 a xs/\(xs.length<=sizeLine->R (Itl X.K a) H1))\/(∃a xs,x=.ref a/\SqT X.K H1 a xs/\(xs.length<=sizeLine->R (Itt X.K a) H1))\/∃z,x=.str z/\R (Its z) H1:=h
 refine thn (hl pins s σ H _ I h') λv s1 ⟨x,H1,I1,r1,q1⟩=>?_
 rcases q1 with⟨a,xs,rfl,hq,q⟩|⟨a,xs,rfl,hq,q⟩|⟨z,rfl,q⟩
 ·cases r1;obtain⟨ak,rv,p,hz⟩:=I1.list hq;refine wpAny_pyIter_list p.isList ?_;refine⟨s1.heap.objs.size,[s1.heap.objs.size],_,_,H1,rfl,I1.kept (t':=s1.toks) λb o e=>X8 _ e,qqn a _,⟨_,Xl _ rfl,rfl,rfl⟩,λb hb=>?_,q hz⟩;have e:b=s1.heap.objs.size:=by simpa using hb
  subst e;exact I1.fpOk (X9 _) (I1.hok.fresh (X9 _))
 ·cases r1;obtain⟨ak,rv,p,hz⟩:=I1.tuple hq;refine wpAny_pyIter_tuple (show s1.heap.IsTuple a ak.toArray from p) ?_;refine⟨s1.heap.objs.size,[s1.heap.objs.size],_,_,H1,rfl,I1.kept (t':=s1.toks) λb o e=>X8 _ e,qkk a _,⟨_,Xl _ rfl,rfl,rfl⟩,λb hb=>?_,q hz⟩;have e:b=s1.heap.objs.size:=by simpa using hb
  subst e;exact I1.fpOk (X9 _) (I1.hok.fresh (X9 _))
 ·obtain⟨t,rfl⟩:=r1;exact vz9 I1 q
theorem JY(h:QE X Z q c e)(hK:autoParam (X.K=Z.K) Ŕ):QI X Z q tg (itS c) e:=λpins s σ H R I ay=>ex8 ay λE L r m w hc xc k=>by
 refine(hK▸wji h) pins s σ H R I ?_;refine VX m w (show bnd (c E) _=some r from hc) xc λE1 s h1 x L1 H1 e1 e2 m1 w1 st sm=>?_
 obtain⟨ds,hd,rfl⟩:=Q6 h1;have ok:=w1.head;have wT:World Z.K H1 (L1++[x.let].map some):=by
  refine World.comm (L:=[some x.let]) ?_;exact w1.tail.consNo (Qq ok) rfl λb hb=>w1.apart b hb
 have sT:Step H L H1 (L1++[x.let].map some):=by
  refine⟨st.keep,λb hb=>?_,λb hb=>?_⟩
  ·have:b∈j7 L1:=by simpa [V7]using hb
   exact st.own b (by rw[jz];exact lr9 _ this)
  ·have:b∈jW L1\/b∈x.as:=by simpa [V7]using hb
   rcases this with z|z
   ·exact st.frz b (by rw[qk];exact lr9 _ z)
   ·exact jzv st b z
 cases hx:x.d with
 | lst es=>
  rw[<-e2,hx]at hd;have lz:es=ds:=oq9 hd;subst lz;obtain⟨a,xs,bs,ev,q3,r3,h3,_⟩:=items ok (.inl hx);have q3:LsR Z.K H1 a xs:=by rcases q3 with⟨_,z⟩|⟨z,_⟩;exact z;rw[hx]at z;cases z
  have bz:∀H2:Hp,(∀t∈[x.let],t.ok Z.K H2)->∃ys cs,SqL Z.K H2 a ys/\RepA Z.K H2 true es ys cs/\∀b∈cs,b∈x.as:=λH2 hok=>by
   obtain⟨a',ys,cs,su,q4,r4,h4,_⟩:=items (hok x.let (List.mem_singleton.mpr rfl)) (.inl hx);have:a'=a:=by have:=su.symm.trans ev;exact V.ref.inj this
   subst this;rcases q4 with⟨_,z⟩|⟨z,_⟩
   ·exact⟨ys,cs,z.sq,r4,h4⟩
   ·rw[show x.let.d=D.lst es from hx]at z;cases z
  refine .inl ⟨a,xs,ev,q3.sq,λav=>k _ _ rfl (Itl Z.K a) [x.let] L1 H1 m1 wT sT (by rw[r3.len];exact av) (λhq=>(sm hq).1) ⟨λt ht=>by rw[List.mem_singleton.mp ht];rfl,λi H2 hok hi=>?_,λH2 hok=>?_,λi H2 v H3 d hok hy ix=>?_⟩⟩
  ·obtain⟨ys,cs,s1,s2,_⟩:=bz H2 hok;have hl:=s2.len;exact⟨ys,ys[i]'(by omega),s1,X1 (by omega)⟩
  ·obtain⟨ys,cs,s1,s2,_⟩:=bz H2 hok;exact⟨ys,s1,by rw[s2.len];exact X9 _⟩
  ·obtain⟨ys,cs,s1,s2,s3⟩:=bz H2 hok;obtain⟨e3,hy⟩:=hy;subst e3;obtain⟨v',df,f1,f2,f3⟩:=s2.get ix;have:v'=v:=by have:=hy ys s1;rw[f1]at this;exact oq9 this
   subst this;exact⟨⟨.no,d,v',df⟩,rfl,rfl,rfl,xV,f2,λb hb=>⟨x.let,List.mem_singleton.mpr rfl,s3 b (f3 b hb)⟩⟩
 | tup es=>
  rw[<-e2,hx]at hd;have lz:es=ds:=oq9 hd;subst lz;obtain⟨a,xs,bs,ev,q3,r3,h3,_⟩:=items ok (.inr hx);have q3:SqT Z.K H1 a xs:=by rcases q3 with⟨z,_⟩|⟨_,z⟩;rw[hx]at z;cases z;exact z
  have bz:∀H2:Hp,(∀t∈[x.let],t.ok Z.K H2)->∃ys cs,SqT Z.K H2 a ys/\RepA Z.K H2 true es ys cs/\∀b∈cs,b∈x.as:=λH2 hok=>by
   obtain⟨a',ys,cs,su,q4,r4,h4,_⟩:=items (hok x.let (List.mem_singleton.mpr rfl)) (.inr hx);have:a'=a:=by have:=su.symm.trans ev;exact V.ref.inj this
   subst this;rcases q4 with⟨z,_⟩|⟨_,z⟩
   ·rw[show x.let.d=D.tup es from hx]at z;cases z
   ·exact⟨ys,cs,z,r4,h4⟩
  refine .inr (.inl ⟨a,xs,ev,q3,λav=>k _ _ rfl (Itt Z.K a) [x.let] L1 H1 m1 wT sT (by rw[r3.len];exact av) (λhq=>(sm hq).1) ⟨λt ht=>by rw[List.mem_singleton.mp ht];rfl,λi H2 hok hi=>?_,λH2 hok=>?_,λi H2 v H3 d hok hy ix=>?_⟩⟩)
  ·obtain⟨ys,cs,s1,s2,_⟩:=bz H2 hok;have hl:=s2.len;exact⟨ys,ys[i]'(by omega),s1,X1 (by omega)⟩
  ·obtain⟨ys,cs,s1,s2,_⟩:=bz H2 hok;exact⟨ys,s1,by rw[s2.len];exact X9 _⟩
  ·obtain⟨ys,cs,s1,s2,s3⟩:=bz H2 hok;obtain⟨e3,hy⟩:=hy;subst e3;obtain⟨v',df,f1,f2,f3⟩:=s2.get ix;have:v'=v:=by have:=hy ys s1;rw[f1]at this;exact oq9 this
   subst this;exact⟨⟨.no,d,v',df⟩,rfl,rfl,rfl,xV,f2,λb hb=>⟨x.let,List.mem_singleton.mpr rfl,s3 b (f3 b hb)⟩⟩
 | str z=>
  rw[<-e2,hx]at hd;have hd:(if z.cps.size<=big then some (z.cps.toList.map λc=>D.str ⟨#[c]⟩)else none)=some ds:=hd
  split at hd
  ·rename_i hz;cases oq9 hd;refine .inr (.inr ⟨z,(z6 ok hx).1,k _ _ rfl (Its z) [] L1 H1 m1 (by simpa using w1.tail) (by simpa using (st.trans Step.drop)) (by rw[X5,Ya];exact hz) (λhq=>(sm hq).1) ⟨λt ht=>(nomatch ht),λi H2 _ hi=>?_,λH2 _=>?_,λi H2 v H3 d _ hy ix=>?_⟩⟩)
   ·show i<z.cps.size
    simpa using hi
   ·show(z.cps.toList.map λc=>D.str ⟨#[c]⟩).length=z.cps.size;simp
   ·obtain⟨e3,cc,hc,rfl⟩:=hy;subst e3;rw[Xw,Yv,hc]at ix;cases oq9 ix;exact⟨⟨.no,.str ⟨#[cc]⟩,.str ⟨#[cc]⟩,[]⟩,rfl,rfl,rfl,xV,wk3 cc,λb hb=>(nomatch hb)⟩
  ·cases hd
 |non=>rw[<-e2,hx]at hd;cases hd
 |bl _=>rw[<-e2,hx]at hd;cases hd
 |int _=>rw[<-e2,hx]at hd;cases hd
 |dct _=>rw[<-e2,hx]at hd;cases hd
 |obj _ _=>rw[<-e2,hx]at hd;cases hd
theorem kq8{K:PySem.W.Frag}(lo hi:Int):Walks K (Itr lo (hi - lo).toNat) [] (jV lo hi):=by
 have hl:(jV lo hi).length=(hi - lo).toNat:=by simp[jV]
 refine⟨λt ht=>(nomatch ht),λi H _ hi'=>by rw[hl]at hi';exact hi',λH _=>by rw[hl];exact X9 _,λi H v H' d _ hy hd=>?_⟩;obtain⟨e,rfl⟩:=hy;subst e;unfold jV at hd;rw[Xw]at hd;cases hr:(List.range (hi - lo).toNat)[i]? with
 | none=>rw[hr]at hd;cases hd
 | some j=>
  rw[hr]at hd;have:j=i:=by
   obtain⟨_,h2⟩:=List.getElem?_eq_some_iff.mp hr
   simpa using h2.symm
  subst this;cases oq9 hd;exact⟨⟨.no,.int (lo+(j:Int)),.int (lo+(j:Int)),[]⟩,rfl,rfl,rfl,xV,wk2 _,λb hb=>(nomatch hb)⟩
theorem jwa{i:Int}(h:vX i=true):-(2 ^ 62)<=i/\i<2 ^ 62:=by
 unfold vX at h
 simpa using h
theorem Kv(ha:QV X Z q a ea)(hg:Gl X "range")(hm:X.mg "range"=none)(b8:autoParam (starEach [ea] X.env=[(false,eval ea X.env)]) Ŕ):QI X Z q tg (wj a) (.Call (.Name "range" p) [ea] [] pos):=λpins s σ H R I ay=>ex8 ay λE L r m w hc xc k=>by
 refine(qvw hg hm (wv ha xj b8) b8) pins s σ H R I ?_;refine wK m w (show bnd (a E) _=some r from hc) xc λE1 s h1 x L1 H1 e1 e2 m1 w1 ok fr sr st sm=>?_
 cases hx:s.2 with
 | int j=>
  rw[hx]at h1;dsimp only at h1
  split at h1
  ·rename_i hj;cases oq9 h1;obtain⟨j1,j2⟩:=jwa hj.1;have hv:=vx ok (e2.trans hx);refine⟨j,by rw[hv],j1,j2,?_⟩;have wk:=kq8 (K:=Z.K) 0 j;rw[Int.sub_zero]at wk;exact k _ _ rfl (Itr 0 j.toNat) [] L1 H1 m1 (by simpa using w1) (by simpa using st) (by simp only[jV,X5,List.length_range,Int.sub_zero];exact hj.2) sm wk
  ·cases h1
 |_=>rw[hx]at h1;cases h1
theorem wj2(ha:QV X Z q a ea)(hb:QV X Z true b eb)(hg:Gl X "range")(hm:X.mg "range"=none)(hs:autoParam (starEach [ea,eb] X.env=[(false,eval ea X.env),(false,eval eb X.env)]) Ŕ)(fk:autoParam (starEach [eb] X.env=[(false,eval eb X.env)]) Ŕ)
  (hs3:autoParam (starEach [ea,eb] X.env=(false,eval ea X.env)::starEach [eb] X.env) Ŕ):QI X Z q tg (wqx a b) (.Call (.Name "range" p) [ea,eb] [] pos):=λpins s σ H R I ay=>ex8 ay λE L r m w hc xc k=>by
 refine(qvv hg hm (wv ha (wv hb xj fk) hs3) hs fk) pins s σ H R I ?_;refine wK m w (show bnd (a E) _=some r from hc) xc λE1 s h1 x L1 H1 e1 e2 m1 w1 ok fr sr st sm=>?_
 refine wK m1 w1 h1 (xc.step st) λE2 s2 h2 y L2 H2 e3 e4 m2 w2 ir rj qc bn fj=>?_
 have kx:=XW ok fr bn (fj rfl);cases hx:s.2 with
 | int i=>
  cases hy:s2.2 with
  | int j=>
   rw[hx,hy]at h2;dsimp only at h2
   split at h2
   ·rename_i hj;cases oq9 h2;obtain⟨i1,i2⟩:=jwa hj.1;obtain⟨j1,j2⟩:=jwa hj.2.1;refine⟨i,j,by rw[vx kx.1 (e2.trans hx),vx ir (e4.trans hy)],⟨i1,i2,j1,j2⟩,?_⟩;exact k _ _ rfl (Itr i (j - i).toNat) [] L2 H2 m2 (by simpa using w2) (by simpa using st.trans bn) (by simp only[jV,X5,List.length_range];exact hj.2.2) (λhq=>v3 (sm hq) (fj rfl)) (kq8 i j)
   ·cases h2
  |_=>rw[hx,hy]at h2;cases h2
 |_=>rw[hx]at h2;cases h2
theorem Mt.clr:∀{R:List Nat} {E:En} {L:Ls},Mt E σ L->Mt (Q.clr R E) σ (Q.clr R L)
 | [],_,_,m=>m
 | j::R,E,L,m=>by
  have un:∀{E:En} {σ:L2.St} {L:Ls} (j:Nat),Mt E σ L->Mt (E.set j none) σ (L.set j none):=by
   intro E σ L j m
   induction m generalizing j with
   |nil=>exact .nil
   |un m ih=>cases j with
    |zero=>exact .un m
    |succ j=>exact .un (ih j)
   |cons m ih=>cases j with
    |zero=>exact .un m
    |succ j=>exact .cons (ih j)
  show Mt (Q.clr R (E.set j none)) σ (Q.clr R (L.set j none));exact Mt.clr (un j m)
theorem Mt.drop:∀{E:En} {σ:L2.St} {L:Ls} (k:Nat),Mt E σ L->Mt (E.drop k) (σ.drop k) (L.drop k)
 |_,_,_,0,m=>m
 |_,_,_,k+1,.nil=>.nil
 |_,_,_,k+1,.un m=>m.drop k
 |_,_,_,k+1,.cons m=>m.drop k
theorem Mt.none_at:∀{E:En} {σ:L2.St} {L:Ls} {j:Nat},Mt E σ L->E[j]?=some none->L[j]?=some none
 |_,_,_,_,.nil,h=>by simp at h
 |_,_,_,0,.un _,_=>by simp
 |_,_,_,j+1,.un m,h=>by simpa using m.none_at (j:=j) (by simpa using h)
 |_,_,_,0,.cons _,h=>by simp at h
 |_,_,_,j+1,.cons m,h=>by simpa using m.none_at (j:=j) (by simpa using h)
theorem Mt.pick:∀{R:List Nat},Mt E σ L->Mt (R.map (at' E)) (R.map (at' σ)) (R.map (at' L))
 | [],_=>.nil
 | j::R,m=>by
  rw[List.map_cons,List.map_cons,List.map_cons];cases hE:E[j]? with
  | none=>
   have hl:=m.len;have:L[j]?=none:=by rw[List.getElem?_eq_none_iff]at hE ⊢;omega
   rw[show at' E j=none from by unfold at';rw[hE];rfl,show at' L j=none from by unfold at';rw[this];rfl];exact .un m.pick
  | some s=>
   cases s with
   |none=>
    have:L[j]?=some none:=m.none_at hE;rw[show at' E j=none from by unfold at';rw[hE];rfl,show at' L j=none from by unfold at';rw[this];rfl];exact .un m.pick
   |some s=>
    obtain⟨o,d⟩:=s;obtain⟨x,h1,h2,h3,h4⟩:=m.get hE;rw[show at' E j=some (x.o,x.d)from by unfold at';rw[hE,h2,h3];rfl,show at' L j=some x from by unfold at';rw[h1];rfl,show at' σ j=some x.v from by unfold at';rw[h4];rfl];exact .cons m.pick
theorem Mt.rep:∀{k:Nat},Mt E σ L->Mt (List.replicate k none++E) (List.replicate k none++σ) (List.replicate k none++L)
 |0,m=>by simpa using m
 |k+1,m=>by
  rw[List.replicate_succ,List.replicate_succ,List.replicate_succ];exact .un m.rep
theorem Mt.back:∀{R:List Nat} {B:En} {τ:L2.St} {M:Ls} {E:En} {L:Ls},Mt E σ L->Mt B τ M->(∀(i j:Nat) (v:V),R[i]?=some j->τ[i]?=some (some v)->σ[j]?=some (some v))->Mt (Q.back R B E) σ (Q.back R M L)
 | [],B,τ,M,E,L,m,_,_=>by simpa [Q.back]using m
 | j::R,_,_,_,E,L,m,.nil,_=>by simpa [Q.back]using m
 | j::R,_,_,_,E,L,m,.un mB,h=>by
  have un:∀{E:En} {σ:L2.St} {L:Ls} (j:Nat),Mt E σ L->Mt (E.set j none) σ (L.set j none):=by
   intro E σ L j m
   induction m generalizing j with
   |nil=>exact .nil
   |un m ih=>cases j with
    |zero=>exact .un m
    |succ j=>exact .un (ih j)
   |cons m ih=>cases j with
    |zero=>exact .un m
    |succ j=>exact .cons (ih j)
  show Mt (Q.back R _ (E.set j none)) σ (Q.back R _ (L.set j none));exact Mt.back (un j m) mB λi jj v e1 e2=>h (i+1) jj v (by simpa using e1) (by simpa using e2)
 |j::R,_,_,_,E,L,m,.cons (x:=x) mB,h=>by
  have h0:=h 0 j x.v (by simp) (by simp);have m1:=m.set (x:=x) j;rw[Vj h0]at m1;show Mt (Q.back R _ (E.set j _)) σ (Q.back R _ (L.set j _));exact Mt.back m1 mB λi jj v e1 e2=>h (i+1) jj v (by simpa using e1) (by simpa using e2)
section
variable {iter eg:Expr}{dw:List Expr}{scope:Scope}{N:List Str}{k:Nat}{R:List Nat}{it:Ev (List D)}{tt:Tg}{u:Ts}{o:Own}{q1 q2:Bool}
theorem vwk:zZ k R σ=List.replicate k none++R.map (at' σ):=rfl
theorem wwd{K:PySem.W.Frag}{M:Ls}(hR:R.Nodup)(w:World K H (L++M)):World K H ((List.replicate k none++R.map (at' L))++(Q.clr R L++M))/\Step H (L++M) H ((List.replicate k none++R.map (at' L))++(Q.clr R L++M)):=by
 have p:(sls (L++M)).Perm (sls ((List.replicate k none++R.map (at' L))++(Q.clr R L++M))):=by
  have:=qk6 (R:=R) (L:=L) hR;rw[QJ]at this;simp only[QJ,vqw,List.nil_append];rw[<-Xp];exact(this.append_right _).symm
 exact⟨w.same p,Step.refl.same (List.Perm.refl _) p⟩
theorem wkf{K:PySem.W.Frag}{B:Ls}{M:Ls}{H2:Hp}(hR:R.Nodup)(hr:∀j∈R,j<L.length)(hB:B.length=k+R.length)(w:World K H2 (B++(Q.clr R L++M))):World K H2 (Q.back R (B.drop k) (Q.clr R L)++M)/\Step H2 (B++(Q.clr R L++M)) H2 (Q.back R (B.drop k) (Q.clr R L)++M):=by
 have p:=kxm (R:=R) (B:=B.drop k) (L:=Q.clr R L) hR (λj hj=>qxr hj) (λj hj=>by rw[qxq];exact hr j hj) (by rw[Z1,hB];omega);have p2:(sls (Q.back R (B.drop k) (Q.clr R L)++M)).Perm (sls (B.drop k++(Q.clr R L++M))):=by
  rw[QJ,<-Xp,QJ (B.drop k++Q.clr R L)];exact p.append_right _
 have sub:(sls (B.drop k++(Q.clr R L++M))).Sublist (sls (B++(Q.clr R L++M))):=by
  rw[QJ,QJ B];refine List.Sublist.append ?_ (Yy _);unfold sls;exact(List.drop_sublist k B).filterMap _
 exact⟨(w.sub sub).same p2.symm,(Step.refl.sub sub).same (List.Perm.refl _) p2.symm⟩
theorem kjf:∀{is:List Nat} {es:List D} {E E':En},setAll is es E=some E'->E'.length=E.length
 |[],[],_,_,h=>by cases oq9 h;rfl
 |[],_::_,_,_,h=>by cases h
 |_::_,[],_,_,h=>by cases h
 |i::is,d::es,E,E',h=>by rw[kjf (E:=E.set i (some (.no,d))) h,Yp]
theorem vvh{t:Tg}{d:D}{E E':En}(h:t.put d E=some E'):E'.length=E.length:=by
 cases t with
 |n i=>cases oq9 h;rw[Yp]
 |t is=>
  cases d with
  |tup es=>exact kjf (show setAll is es E=some E' from h)
  |lst es=>exact kjf (show setAll is es E=some E' from h)
  |_=>cases h
theorem qwp{nN:Nat}{Q:VK}(hσ:σ.length=nN)(hR:R.Nodup)(hr:∀j∈R,j<nN)(h:tQ Z q (cLC o k R it tt u c) σ H Q):tLC (tIS Z q it) (tG Z ((List.range R.length).map (k + ·)) tt) (tT Z q u) (tQ Z q c) k R σ H Q:=by
 obtain⟨E,L,r,m,w,cu,xc,kk⟩:=h;have cu:bnd (it E) (λE ds=>match lcL tt u c ds (V5 k R E) []with
  | some (.ok B xs)=>mkL o (Jk k R B E) xs
  | some (.exc B e)=>some (.exc (Jk k R B E) e)
  | none=>none)=some r:=cu
 rcases x9 cu with⟨E1,ds,h1,h2⟩|⟨E1,cc,h1,h2⟩
 rotate_left
 ·exact⟨E,L,_,m,w,h1,xc.map h2,λE' s' z=>by cases z⟩
 refine⟨E,L,_,m,w,h1,(λ_ _ z=>by cases z),λE' ds' z J T L1 H1 m1 w1 st hz sm wk=>?_⟩;injection z with z1 z2;subst z1 z2;have hL1:∀j∈R,j<L1.length:=λj hj=>by have:=m1.len;have:=hr j hj;omega
 obtain⟨wB,sB⟩:=wwd (k:=k) hR w1;cases hrB:lcL tt u c ds (V5 k R E1) []with
 | none=>rw[hrB]at h2;cases h2
 | some rB=>
  rw [hrB]at h2;have ji:∀{H2:Hp} {A B:Ls},World Z.K H2 (A++(B++(_root_.Q.clr R L1++T.map some)))->∀t∈T,t.ok Z.K H2:=λw2 t ht=>w2.ok t (lr9 _ (lr9 _ (lr9 _ (Xg ht))))
  have mB0:Mt (V5 k R E1) (zZ k R σ) (List.replicate k none++R.map (at' L1)):=(m1.pick (R:=R)).rep;have pd:∀{B:En} {LB:Ls} {τ:L2.St} {H2:Hp} {A:Ls},Mt B τ LB->τ.length=k+R.length->Pn ((List.range R.length).map (k + ·)) (zZ k R σ) τ->World Z.K H2 (LB++(A++(_root_.Q.clr R L1++T.map some))) ->
    Mt (Jk k R B E1) σ (_root_.Q.back R (LB.drop k) (_root_.Q.clr R L1))/\World Z.K H2 (A++_root_.Q.back R (LB.drop k) (_root_.Q.clr R L1))/\Step H2 (LB++(A++(_root_.Q.clr R L1++T.map some))) H2 (A++_root_.Q.back R (LB.drop k) (_root_.Q.clr R L1)):=fun {B LB τ H2 A} mB lB pB wB2=>by
   have hl:LB.length=k+R.length:=by rw[mB.len.2];exact lB
   have pm:(LB++(A++(_root_.Q.clr R L1++T.map some))).Perm (LB++(_root_.Q.clr R L1++(A++T.map some))):=by
    refine List.Perm.append_left _ ?_;rw [<-Xp,<-Xp];exact List.Perm.append_right _ Yk
   obtain⟨w3,s3⟩:=wkf (k:=k) hR hL1 hl (wB2.perm pm);have mn:(_root_.Q.back R (LB.drop k) (_root_.Q.clr R L1)++(A++T.map some)).Perm ((A++_root_.Q.back R (LB.drop k) (_root_.Q.clr R L1))++T.map some):=by
    rw [<-Xp];exact List.Perm.append_right _ Yk
   refine⟨?_,(w3.perm mn).left,(s3.perm pm.symm mn).trans Step.dropT⟩;refine Mt.back (m1.clr) (mB.drop k) λi j v e1 e2=>?_
   have hi:i<R.length:=(List.getElem?_eq_some_iff.mp e1).1;have e3:=pB (k+i) (List.mem_map.mpr ⟨i,List.mem_range.mpr hi,rfl⟩);rw [List.getElem?_drop,e3,vwk,Xy (by simp),Xz,show k+i - k=i from by omega,Xw,e1]at e2;have e4:at' σ j=some v:=by simpa using e2
   unfold at' at e4;cases hh:σ[j]? with
   | none=>rw[hh]at e4;cases e4
   | some s=>rw[hh]at e4;rw[show s=some v from e4]
  refine⟨λi n ys τ H2=>∃(B:En) (LB:Ls) (acc:List Sl),Mt B τ LB/\τ.length=k+R.length/\Pn ((List.range R.length).map (k + ·)) (zZ k R σ) τ/\World Z.K H2 (LB++(acc.map some++(_root_.Q.clr R L1++T.map some)))/\Step H L H2 (LB++(acc.map some++(_root_.Q.clr R L1++T.map some))) /\
   ys=acc.map Sl.v/\lcL tt u c (ds.drop i) B (acc.map Sl.sd)=some rB/\i<=ds.length/\acc.length<=i/\n=ds.length - i/\(q=true->kj H H2/\∀b∈j7 (acc.map some),H b=none),⟨_,V5 k R E1,_,[],mB0,by simp[zZ],Pn.refl,wB,st.trans sB,rfl,hrB,Yf _,Yf _,rfl,λhq=>⟨sm hq,λ_ z=>(nomatch z)⟩⟩,?_⟩
  rintro i n ys τ H2 ⟨B,LB,acc,mB,lB,pB,wB2,sB2,rfl,f1,hi,bc,rfl,smB⟩
  by_cases bj:i<ds.length
  rotate_left
  ·have e:i=ds.length:=by omega
   subst e;rw [List.drop_length]at f1;cases oq9 f1;obtain⟨m3,w3,s3⟩:=pd mB lB pB wB2;refine .inl ⟨wk.stop H2 (ji wB2) (λhq=>(smB hq).1),by rw[X5];omega,?_⟩;exact qjp (σ:=σ) (Q:=Q) (o:=o) (xs:=acc) h2 rfl w3 (sB2.trans s3) smB kk m3
  ·have hd:ds.drop i=ds[i]::ds.drop (i+1):=Yi bj;rw [hd]at f1;unfold lcL at f1;cases bv:tt.put ds[i] B with
   | none=>rw[bv]at f1;cases f1
   | some B2=>
    rw [bv]at f1;dsimp only at f1;refine .inr ⟨wk.go i H2 (ji wB2) (λhq=>(smB hq).1) bj,λv H3 hy=>?_⟩;obtain⟨z,zo,zd,zv,smz,so,zas⟩:=wk.yld i H2 v H3 ds[i] (ji wB2) (λhq=>(smB hq).1) hy (X1 bj);have pm:(LB++(acc.map some++(_root_.Q.clr R L1++T.map some))).Perm ((LB++(acc.map some++_root_.Q.clr R L1))++T.map some):=by
     rw[<-Xp (acc.map some),<-Xp]
    obtain⟨wz,sz⟩:=kqg (wB2.perm pm) wk.no smz so zo zas;have wz':World Z.K H3 ((some z::LB)++(acc.map some++(_root_.Q.clr R L1++T.map some))):=wz.perm (by
     rw[List.cons_append,List.cons_append];exact List.Perm.cons _ pm.symm)
    have sz':Step H2 (LB++(acc.map some++(_root_.Q.clr R L1++T.map some))) H3 ((some z::LB)++(acc.map some++(_root_.Q.clr R L1++T.map some))):=sz.perm pm.symm (by
     rw[List.cons_append,List.cons_append];exact List.Perm.cons _ pm.symm)
    refine⟨B,LB,z,B2,mB,wz'.left,zo,zv,by rw[zd];exact bv,fun τ2 LB2 p2 mB2 wB3 sB3=>?_⟩;obtain⟨w4,s4⟩:=stay wz' sB3 wB3;have lB2:τ2.length=k+R.length:=by
     have h1:=mB2.len.1;have h2:=mB.len.1;have h3:=vvh bv;omega
    have p3:=pB.trans p2;have ov:Step H L H3 (LB2++(acc.map some++(_root_.Q.clr R L1++T.map some))):=sB2.trans (sz'.trans s4);have i8:q=true->kj H H3/\∀b∈j7 (acc.map some),H b=none:=λhq=>⟨v3 (smB hq).1 smz,(smB hq).2⟩
    refine⟨λy H5=>∃(B:En) (LB:Ls) (gp:List Sl),Mt B τ2 LB/\World Z.K H5 (LB++(gp.map some++(_root_.Q.clr R L1++T.map some)))/\Step H L H5 (LB++(gp.map some++(_root_.Q.clr R L1++T.map some)))/\acc.map Sl.v++[y]=gp.map Sl.v/\gp.length=acc.length+1/\lcL tt u c (ds.drop (i+1)) B (gp.map Sl.sd)=some rB/\(q=true->kj H H5/\∀b∈j7 (gp.map some),H b=none),
     λH5=>∃B LB,Mt B τ2 LB/\World Z.K H5 (LB++(acc.map some++(_root_.Q.clr R L1++T.map some)))/\Step H L H5 (LB++(acc.map some++(_root_.Q.clr R L1++T.map some)))/\lcL tt u c (ds.drop (i+1)) B (acc.map Sl.sd)=some rB/\(q=true->kj H H5/\∀b∈j7 (acc.map some),H b=none),
     λy H5 ⟨B5,LB5,acc5,c1,c2,c3,c4,c5,c6,c7⟩=>⟨by rw[X5];omega,ds.length - (i+1),by omega,B5,LB5,acc5,c1,lB2,p3,c2,c3,c4,c6,bj,by omega,rfl,c7⟩,
     λH5 ⟨B5,LB5,c1,c2,c3,c6,c7⟩=>⟨ds.length - (i+1),by omega,B5,LB5,acc,c1,lB2,p3,c2,c3,rfl,c6,bj,by omega,rfl,c7⟩,?_⟩
    have xcB:∀{α:Type} {H6:Hp} {L6:Ls} {B6:En} {cc:Str} {A:Ls},rB=.exc B6 cc->World Z.K H6 (L6++(A++(_root_.Q.clr R L1++T.map some)))->Step H L H6 (L6++(A++(_root_.Q.clr R L1++T.map some)))->Xc Z τ2 H6 L6 (.exc B6 cc:Res α):=fun {α H6 L6 B6 cc A} er w6 s6 E7 c7 e7 C L7 H7 hm m7 w7 s7=>by
     injection e7 with e8 e9;subst e8 e9;subst er;cases oq9 h2;obtain⟨w8,s8⟩:=stay w6 s7 w7;obtain⟨m9,w9,s9⟩:=pd m7 lB2 p3 w8;exact xc _ _ rfl C _ H7 hm m9 w9.right ((s6.trans (s8.trans s9)).trans ⟨λ_ _ h _=>h,λa ha=>.inl (by rw[k6];exact lr9 _ ha),λa ha=>.inl (by rw[qv];exact lr9 _ ha)⟩)
    rcases x9 f1 with⟨B4,kb,g1,g2⟩|⟨B4,cc,g1,g2⟩
    rotate_left
    ·exact⟨B2,LB2,_,mB2,wB3,g1,xcB g2 w4 ov,λE' s' z=>by cases z⟩
    refine⟨B2,LB2,_,mB2,wB3,g1,(λ_ _ z=>by cases z),λE' s' z LB4 H4 mB4 wB4 sB4 sm4=>?_⟩;injection z with z1 z2;subst z1 z2;obtain⟨w5,s5⟩:=stay w4 sB4 wB4;have jp:=ov.trans s5;cases kb with
    | false=>
     rw[Xe (by decide)]at g2 ⊢;exact⟨B4,LB4,mB4,w5,jp,g2,λhq=>⟨v3 (i8 hq).1 (sm4 hq),(i8 hq).2⟩⟩
    | true=>
     rw[Xa rfl]at g2 ⊢;rcases x9 g2 with⟨B6,y,g3,g4⟩|⟨B6,cc,g3,g4⟩
     rotate_left
     ·exact⟨B4,LB4,_,mB4,wB4,g3,xcB g4 w5 jp,λE' s' z=>by cases z⟩
     refine⟨B4,LB4,_,mB4,wB4,g3,(λ_ _ z=>by cases z),λE' s' z x LB6 H6 ex ey mB6 wB6 sB6 sm6=>?_⟩;injection z with z1 z2;subst z1 z2;obtain⟨w7,s7⟩:=stay w5 sB6 wB6;have pm3:((some x::LB6)++(acc.map some++(_root_.Q.clr R L1++T.map some))).Perm (LB6++((acc++[x]).map some++(_root_.Q.clr R L1++T.map some))):=by
      rw[Y0,List.cons_append];have:(LB6++(acc.map some++[x].map some++(_root_.Q.clr R L1++T.map some)))=(LB6++acc.map some)++some x::(_root_.Q.clr R L1++T.map some):=by simp
      rw[this];refine List.Perm.trans ?_ List.perm_middle.symm;rw[Xp]
     refine⟨B6,LB6,acc++[x],mB6,w7.perm pm3,(jp.trans s7).perm (List.Perm.refl _) pm3,by simp,by simp,?_,λhq=>⟨v3 (i8 hq).1 (v3 (sm4 hq) (sm6 hq).1),λb hb=>?_⟩⟩
     ·rw[Y0,show[x].map Sl.sd=[y]from by simp[Sl.sd,ex,ey]];exact g4
     ·rw[Y0,k6]at hb;rcases List.mem_append.mp hb with hb|hb
      ·exact(i8 hq).2 b hb
      ·have hb:b∈x.own:=by simpa using hb
       exact xZ (v3 (i8 hq).1 (sm4 hq)) ((sm6 hq).2 b hb)
theorem wxn(N:List Str)(hi:QI X Z q tg it iter)
  (hg:∀cl C s0 H0 fp,QG (lcE X scope N cl C s0 H0 fp Z.EX) Z ((List.range R.length).map (k + ·)) tt tg) (ht:∀cl C s0 H0 fp,PTs (lcE X scope N cl C s0 H0 fp Z.EX) dw (tT Z q u)) (he:∀cl C s0 H0 fp,QE (lcE X scope N cl C s0 H0 fp Z.EX) Z q c eg)
  (gx:xv X Z.EX) (top:xw X) (hR:R.Nodup) (hr:∀j∈R,j<X.N.length) (hc:autoParam (X.calm=true) Ŕ) (hk:autoParam (scope.kind=.function) Ŕ) (l5:autoParam (QQ X.N X.env.scope scope N k R=true) Ŕ) (hs:autoParam (∀x,foldedSetIterable iter X.env x=pure x) Ŗ):
  QE X Z q (cLC o k R it tt u c) (.ListComp eg [⟨tg,iter,dw,0⟩] scope pos):=λpins s σ H Q I hw=>
 wjo (EX:=Z.EX) N k R (wxk hi) hg ht he gx top hc hk l5 hs pins s σ H Q I (qwp I.len hR hr hw)
theorem qvp{EX:XK}{wi:TI}{g:TG}{tte:TT}{te:TE}{i:Nat}{y:Str}{py f7:Pos}(N:List Str)(k:Nat)(R:List Nat)(hN:X.N.Nodup)(hy:X.N[i]?=some y)(hx:Loc X.env.scope y)(hi:PI X tg iter wi)
  (hg:∀cl C s0 H0 fp,PG (lcE X scope N cl C s0 H0 fp EX) tg g) (ht:∀cl C s0 H0 fp,PTs (lcE X scope N cl C s0 H0 fp EX) dw tte) (he:∀cl C s0 H0 fp,PE (lcE X scope N cl C s0 H0 fp EX) eg te) (gx:xv X EX) (top:xw X)
  (jc:autoParam (swapsWith (.ListComp eg [⟨tg,iter,dw,0⟩] scope pos) (some (.Name y py)) f7.line X.env=pure true) Ŕ)
  (hc:autoParam (X.calm=true) Ŕ) (hk:autoParam (scope.kind=.function) Ŕ) (l5:autoParam (QQ X.N X.env.scope scope N k R=true) Ŕ) (hs:autoParam (∀x,foldedSetIterable iter X.env x=pure x) Ŗ)
  (hf:autoParam (X.fn y=true\/X.env.scope.names.lookup y=some .local) ś):
  PS X (.Assign [.Name y py] (.ListComp eg [⟨tg,iter,dw,0⟩] scope pos) f7) (λD σ H=>tLC wi g tte te k R σ H λv H1=>D.nx (σ.set i (some v)) H1):=by
 intro pins s σ H D I h;have sc:=qjr hk l5;obtain⟨cl,js,gv,bo⟩:=kql (scope:=scope) (env:=X.env) λy hy e=>I.ok.has y.1 (sc.caps y hy e)
 rw[exec_Assign_Name_used _ _ _ _ jc];refine X0 (wpAny_standAt (X0 ?_));show wpAny _ X.A (do let _ <-comprehension (.ListComp eg [⟨tg,iter,dw,0⟩] scope pos) scope X.env _ (newList []) false (eval iter X.env) (some (assign (.Name y py) X.env))) _ _ s;refine X0 (thn (wpAny_comprehension_free (use:=some (assign (.Name y py) X.env)) (Q:=λ_ s'=>SP X pins D .next s') rfl hs js sc.kind sc.names
  (thn (hi pins s σ H _ I h) λv s1 h1=>thn h1 λitv s2 h2=>?_)) λ_ s' hq=>X4 (X4 hq))
 obtain⟨it,fp,tn,J,H2,e,I2,T,bn,f2,W,w0,fb⟩:=h2;subst e;refine kwu (EX:=EX) (RR:=λacc C=>compPost (model X.prog X.w) X.A X.xe (some (assign (.Name y py) X.env)) (λ_ s'=>SP X pins D .next s') acc C) hc top sc gv bo (hg cl) (ht cl) (he cl) I2 T bn f2 w0 fb ?_ ?_
 rotate_left
 ·intro D' C s' de σ' H' x T Cc fl hC t q;exact vq9 gx I2 f2 hC t q
 intro L C oC m ys H' s' I' eC nC fC q;show wpAny _ X.A (assign (.Name y py) X.env (.ref L)) _ _ s';refine wpAny_assign_Name (ZY I' hN hy hx (v:=.ref L) rfl (λn9 I''=>?_) hf);have pC:=I''.pin (C,oC) (lr9 _ (lr9 _ (List.mem_singleton.mpr rfl)));refine⟨m,nC.at' λo e=>?_,λh' sb=>⟨_,_,I''.unpinned.turned (it:=C) (t':=n9.toks) (λb o hb e=>(sb.2 b hb).trans e) fC.1 fC.2.1 fC.2.2.2.1 fC.2.2.2.2.1 fC.2.2.2.2.2,q⟩⟩;rw[eC]at e;cases e;exact pC.1
theorem qvj{i:Nat}{y:Str}{py f7:Pos}(N:List Str)(hN:X.N.Nodup)(hy:X.N[i]?=some y)(hx:Loc X.env.scope y)(hi:QI X Z q tg it iter)
  (hg:∀cl C s0 H0 fp,QG (lcE X scope N cl C s0 H0 fp Z.EX) Z ((List.range R.length).map (k + ·)) tt tg) (ht:∀cl C s0 H0 fp,PTs (lcE X scope N cl C s0 H0 fp Z.EX) dw (tT Z q u)) (he:∀cl C s0 H0 fp,QE (lcE X scope N cl C s0 H0 fp Z.EX) Z q c eg)
  (gx:xv X Z.EX) (top:xw X) (hR:R.Nodup) (hr:∀j∈R,j<X.N.length) (hp:autoParam (i∉pn) ŕ)
  (jc:autoParam (swapsWith (.ListComp eg [⟨tg,iter,dw,0⟩] scope pos) (some (.Name y py)) f7.line X.env=pure true) Ŕ)
  (hc:autoParam (X.calm=true) Ŕ) (hk:autoParam (scope.kind=.function) Ŕ) (l5:autoParam (QQ X.N X.env.scope scope N k R=true) Ŕ) (hs:autoParam (∀x,foldedSetIterable iter X.env x=pure x) Ŗ)
  (hf:autoParam (X.fn y=true\/X.env.scope.names.lookup y=some .local) ś):
  QS X Z pn (jk i (cLC o k R it tt u c)) (.Assign [.Name y py] (.ListComp eg [⟨tg,iter,dw,0⟩] scope pos) f7):=
 wj6 (q:=q) hp λpins s σ H D I hw=>qvp N k R hN hy hx (wxk hi) hg ht he gx top jc hc hk l5 hs hf pins s σ H D I (qwp I.len hR hr hw)
end
end
section
variable {X:Cx}{Z:Fx0}{K:PySem.W.Frag}{pn:List Nat}{q qa qb:Bool}{a b c:Ex}{u:Ts}{tg e ea eb:Expr}{σ:L2.St}{H:Hp}{L:Ls}{E:En}{pos p:Pos}{x:Str}{id T:String}{r:List V->Hp->VK->Prop}{f:Sd->Option Sd}{g:Sd->Sd->Option Sd}
theorem vv8:PTs X [] (tT Z q _root_.Q.tYes):=λpins s σ H Q I ay=>ex8 ay λE L r m w hc xc k=>by
 cases oq9 hc;exact vvj pins s σ H Q I (k _ _ rfl L H m w Step.refl λ_=>xV)
theorem vj2(h:QT X Z q u e):PTs X [e] (tT Z q u):=vvi h
theorem wqv(hc:CallR X (.builtin id) r)(ad:Ad1 Z.K (λv H Q=>r [v] H Q) f)(ha:QV X Z q a ea)(hm:X.mg x=none)(hv:bootBuiltins x=some (.builtin id))(hg:autoParam (Gl X x) Ŕ)(hn:autoParam (x≠"__name__") ŕ)(cj:autoParam ((x==("__debug__":Str))=false) ŕ)
  (he:autoParam (starEach [ea] X.env=(false,eval ea X.env)::starEach [] X.env) Ŕ) (be:autoParam ((backTo pos (starEach [] X.env)).any (·.1)=false) Ŕ):QE X Z q (cF1 f a) (.Call (.Name x p) [ea] [] pos):=
 qz (kv1 hc hg hm hv (wv ha xj he) hn cj he be) fun σ H Q h=>kvr (r:=λv H Q=>r [v] H Q) ad h
theorem zX(hc:CallR X (.type T) r)(ad:Ad1 Z.K (λv H Q=>r [v] H Q) f)(ha:QV X Z q a ea)(hm:X.mg x=none)(hv:bootBuiltins x=some (.type T))(hg:autoParam (Gl X x) Ŕ)(hn:autoParam (x≠"__name__") ŕ)(cj:autoParam ((x==("__debug__":Str))=false) ŕ)
  (he:autoParam (starEach [ea] X.env=(false,eval ea X.env)::starEach [] X.env) Ŕ) (be:autoParam ((backTo pos (starEach [] X.env)).any (·.1)=false) Ŕ):QE X Z q (cF1 f a) (.Call (.Name x p) [ea] [] pos):=
 qz (qvz hc hg hm hv (wv ha xj he) hn cj he be) fun σ H Q h=>kvr (r:=λv H Q=>r [v] H Q) ad h
theorem q_b2(hc:CallR X (.builtin id) r)(ad:Ad2 Z.K (λv w H Q=>r [v,w] H Q) g)(ha:QV X Z q a ea)(hb:QV X Z true b eb)(hm:X.mg x=none)(hv:bootBuiltins x=some (.builtin id))(hg:autoParam (Gl X x) Ŕ)(hn:autoParam (x≠"__name__") ŕ)(cj:autoParam ((x==("__debug__":Str))=false) ŕ)
  (he:autoParam (starEach [ea,eb] X.env=(false,eval ea X.env)::starEach [eb] X.env) Ŕ) (he2:autoParam (starEach [eb] X.env=(false,eval eb X.env)::starEach [] X.env) Ŕ) (be:autoParam ((backTo pos (starEach [eb] X.env)).any (·.1)=false) Ŕ):QE X Z q (cF2 g a b) (.Call (.Name x p) [ea,eb] [] pos):=
 qz (kv1 hc hg hm hv (wv ha (wv hb xj he2) he) hn cj he be) fun σ H Q h=>kjb (r:=λv w H Q=>r [v,w] H Q) ad h
theorem wqi:Ad1 K (λv H Q=>qve K [v] H Q) (pu1 v9):=by
 intro H x s Q ok hf k;unfold pu1 at hf;have fin:∀n:Nat,v9 x.d=some (.int n)->Q (.int n) H:=λn e=>by
  rw[show(x.o,x.d).2=x.d from rfl,e]at hf;cases oq9 hf;exact k ⟨.dp,.int n,.int n,[]⟩ H rfl rfl Q4
 cases hx:x.d with
 |lst ds=>
  obtain⟨l,xs,bs,e,q,r,_⟩:=items ok (.inl hx);refine .inl ⟨l,xs,by rw[e],?_,by rw[<-r.len];exact fin ds.length (by rw[hx];rfl)⟩;rcases q with⟨_,z⟩|⟨_,z⟩
  ·exact .inl (J7 z)
  ·exact .inr z
 |tup ds=>
  obtain⟨l,xs,bs,e,q,r,_⟩:=items ok (.inr hx);refine .inl ⟨l,xs,by rw[e],?_,by rw[<-r.len];exact fin ds.length (by rw[hx];rfl)⟩;rcases q with⟨_,z⟩|⟨_,z⟩
  ·exact .inl (J7 z)
  ·exact .inr z
 |str z=>
  obtain⟨e,hz⟩:=z6 ok hx;exact .inr (.inl ⟨z,by rw[e],hz,fin z.length (by rw[hx];rfl)⟩)
 |_=>rw[show(x.o,x.d).2=x.d from rfl,hx]at hf;cases hf
theorem qzd:Ad1 K (λv H Q=>qvf [v] H Q) (pu1 JV):=by
 intro H x s Q ok hf k;unfold pu1 JV at hf;dsimp only at hf
 split at hf
 ·rename_i i e;cases oq9 hf;exact .inl ⟨i,by rw[vx ok e],k ⟨.dp,.int _,.int _,[]⟩ H rfl rfl Q4⟩
 ·rename_i i e;cases oq9 hf;exact .inr (.inl ⟨i,by rw[XY ok e],k ⟨.dp,.int _,.int _,[]⟩ H rfl rfl Q4⟩)
 ·rename_i z e
  split at hf
  ·rename_i hz;cases ht:PySem.intText? z with
   |none=>rw[ht]at hf;cases hf
   |some n=>
    rw[ht]at hf;cases oq9 hf;exact .inr (.inr ⟨z,n,by rw[(z6 ok e).1],ht,hz,k ⟨.dp,.int _,.int _,[]⟩ H rfl rfl Q4⟩)
  ·cases hf
 ·cases hf
theorem kkk:Ad1 K (λv H Q=>qvd K [v] H Q) JJ:=by
 intro H x s Q ok hf k;unfold JJ at hf;dsimp only at hf
 split at hf
 ·rename_i ds e
  split at hf
  ·rename_i hl;cases oq9 hf;obtain⟨l,xs,bs,ev,q3,r3,h3⟩:=zk ok (.inl e) hl;have q3:LsR K H l xs:=by rcases q3 with⟨_,z⟩|⟨z,_⟩;exact z;rw[e]at z;cases z
   exact⟨l,xs,by rw[ev],.inl (J7 q3),λp hp=>k ⟨.rt,.lst ds,.ref p,p::bs⟩ _ rfl rfl (JW hp r3 h3)⟩
  ·cases hf
 ·rename_i ds e
  split at hf
  ·rename_i hl;cases oq9 hf;obtain⟨l,xs,bs,ev,q3,r3,h3⟩:=zk ok (.inr e) hl;have q3:SqT K H l xs:=by rcases q3 with⟨z,_⟩|⟨_,z⟩;rw[e]at z;cases z;exact z
   exact⟨l,xs,by rw[ev],.inr q3,λp hp=>k ⟨.rt,.lst ds,.ref p,p::bs⟩ _ rfl rfl (JW hp r3 h3)⟩
  ·cases hf
 ·cases hf
noncomputable def qjc(K:PySem.W.Frag):List V->Hp->VK->Prop:=λxs H Q=>∃p ys,xs=[.ref p]/\((SqL K H p ys/\∀l,H l=none->Q (.ref l) (upd H l (.tup ys)))\/(SqT K H p ys/\Q (.ref p) H))
theorem qxy(hK:X.K=K):CallR X (.type "tuple") (qjc K):=by subst hK;exact kvm
theorem vkf:Ad1 K (λv H Q=>qjc K [v] H Q) Jz:=by
 intro H x s Q ok hf k;unfold Jz at hf;dsimp only at hf
 split at hf
 ·rename_i ds e
  split at hf
  ·rename_i hl;cases oq9 hf;obtain⟨l,xs,bs,ev,q3,r3,h3⟩:=zk ok (.inl e) hl;have q3:LsR K H l xs:=by rcases q3 with⟨_,z⟩|⟨z,_⟩;exact z;rw[e]at z;cases z
   exact⟨l,xs,by rw[ev],.inl ⟨J7 q3,λp hp=>k ⟨.no,.tup ds,.ref p,bs⟩ _ rfl rfl (kjm hp r3 h3)⟩⟩
  ·cases hf
 ·rename_i ds e
  split at hf
  ·rename_i hl;cases oq9 hf;obtain⟨l,xs,bs,ev,q3,r3,h3⟩:=zk ok (.inr e) hl;have q3:SqT K H l xs:=by rcases q3 with⟨z,_⟩|⟨_,z⟩;rw[e]at z;cases z;exact z
   refine⟨l,xs,by rw[ev],.inr ⟨q3,k ⟨.no,.tup ds,.ref l,bs⟩ H rfl rfl ⟨xV,?_,λb hb=>(nomatch hb),Xs,λb hb=>h3 b hb⟩⟩⟩;show RepL K H true (.tup ds) (.ref l) bs;unfold RepL;exact⟨l,xs,rfl,q3,r3⟩
  ·cases hf
 ·cases hf
theorem wx3{h:Int->Int->Int}{f:Int->Int->Option Int}(hh:∀i j,f i j=some (h i j)):Ad2 K (λv w H Q=>(λxs H Q=>∃i j,xs=[.int i,.int j]/\Q (.int (h i j)) H:List V->Hp->VK->Prop) [v,w] H Q) (pu2 (i2 f)):=by
 intro H x y s Q ox oy hf k;unfold pu2 i2 at hf;dsimp only at hf
 split at hf
 ·rename_i i j e1 e2;rw[hh]at hf;cases oq9 hf;exact⟨i,j,by rw[vx ox e1,vx oy e2],k ⟨.dp,.int _,.int _,[]⟩ H rfl rfl Q4⟩
 ·cases hf
theorem Q9{g:Int->Int->Bool}:∀x y s,pu2 (c2 g) x y=some s->∃k,s.2=.bl k:=by
 intro x y s h;unfold pu2 c2 at h
 split at h
 ·cases oq9 h;exact⟨_,rfl⟩
 ·cases h
theorem x5:∀x y s,pu2 fEq x y=some s->∃k,s.2=.bl k:=by
 intro x y s h;unfold pu2 fEq at h
 split at h
 ·cases oq9 h;exact⟨_,rfl⟩
 ·cases h
theorem qz5:∀x y s,pu2 fNe x y=some s->∃k,s.2=.bl k:=by
 intro x y s h;unfold pu2 fNe at h
 split at h
 ·cases oq9 h;exact⟨_,rfl⟩
 ·cases h
theorem vqe{x y d:D}(h:fIn x y=some d):∃k,d=.bl k:=by
 unfold fIn at h
 split at h
 ·split at h
  ·cases oq9 h;exact⟨_,rfl⟩
  ·cases h
 ·split at h
  ·cases oq9 h;exact⟨_,rfl⟩
  ·cases h
 ·split at h
  ·cases oq9 h;exact⟨_,rfl⟩
  ·cases h
 ·cases oq9 h;exact⟨_,rfl⟩
 ·cases h
theorem vxh:∀x y s,pu2 KQ x y=some s->∃k,s.2=.bl k:=by
 intro x y s h;unfold pu2 KQ at h
 split at h
 ·cases h
 ·cases hf:fIn x.2 y.2 with
  |none=>rw[hf]at h;cases h
  |some d=>
   rw[hf]at h;cases oq9 h;exact vqe hf
theorem qkb:∀x y s,pu2 z5 x y=some s->∃k,s.2=.bl k:=by
 intro x y s h;unfold pu2 z5 kx4 at h
 split at h
 ·cases h
 ·cases hf:fIn x.2 y.2 with
  |none=>rw[hf]at h;cases h
  |some d=>
   obtain⟨k,rfl⟩:=vqe hf;rw[hf]at h;cases oq9 h;exact⟨_,rfl⟩
theorem qkc:∀x y s,f2First fIsNon x y=some s->∃k,s.2=.bl k:=by
 intro x y s h;unfold f2First fIsNon at h
 split at h
 ·cases oq9 h;exact⟨_,rfl⟩
 ·cases h
theorem qz4:∀x y s,f2First fNotNon x y=some s->∃k,s.2=.bl k:=by
 intro x y s h;unfold f2First fNotNon at h
 split at h
 ·cases oq9 h;exact⟨_,rfl⟩
 ·cases h
theorem kzw:∀{xs:List V} {us:List Value},xs.length=us.length->(∀(i:Nat) (x:V) (u:Value),xs[i]?=some x->us[i]?=some u->RelV x u)->Vals xs us
 |[],[],_,_=>.nil
 |[],_::_,h,_=>by simp at h
 |_::_,[],h,_=>by simp at h
 |x::xs,u::us,h,f=>.cons (f 0 x u (by simp) (by simp)) (kzw (by simpa using h) λi x u e1 e2=>f (i+1) x u (by simpa using e1) (by simpa using e2))
theorem wj1{p2 je:Pos}(ha:QV X Z q a ea)(hmr:X.mg "range"=none)(hml:X.mg "list"=none)(hc:autoParam (X.calm=true) Ŕ)(hgr:autoParam (Gl X "range") Ŕ)(hgl:autoParam (Gl X "list") Ŕ)
  (b8:autoParam (starEach [ea] X.env=(false,eval ea X.env)::starEach [] X.env) Ŕ) (be:autoParam ((backTo je (starEach [] X.env)).any (·.1)=false) Ŕ)
  (pc:autoParam (starEach [.Call (.Name "range" p2) [ea] [] je] X.env=(false,eval (.Call (.Name "range" p2) [ea] [] je) X.env)::starEach [] X.env) Ŕ) (hpl2:autoParam ((backTo pos (starEach [] X.env)).any (·.1)=false) Ŕ):
  QE X Z q (Wk a) (.Call (.Name "list" p) [.Call (.Name "range" p2) [ea] [] je] [] pos):=by
 have hr:PE X (.Call (.Name "range" p2) [ea] [] je) (fun σ H Q=>tV Z q a σ H λv H1=>∃j:Int,v=.int j/\∀pp,H1 pp=none->Q (.ref pp) (upd H1 pp (.rng 0 j))):=by
  intro pins s σ H Q I h;refine Call_ (Qj I hgr hmr boot_range (Y8 (thn (wv ha xj b8 je pins s σ H (λvs H1=>∃j:Int,vs=[.int j]/\∀pp,H1 pp=none->Q (.ref pp) (upd H1 pp (.rng 0 j))) I ?_) λus s1 ⟨vs,H1,I1,r1,j,e,q1⟩=>?_) b8 be))
  ·obtain⟨E,L,r,m,w,cu,xc,k⟩:=h;exact⟨E,L,r,m,w,cu,xc,λE' s' z x L' H' e1 e2 m' w' ok fr sr st sm=>by
    obtain⟨j,ej,qj⟩:=k E' s' z x L' H' e1 e2 m' w' ok fr sr st sm;exact⟨j,by rw[ej],qj⟩⟩
  ·subst e;obtain⟨u,rfl,t,rfl⟩:=r1.one;refine call_range_1 ⟨.ref s1.heap.objs.size,_,I1.laid (o:=.rng 0 j) (λb o e=>X8 _ e) (X9 _) ⟨_,_,_,Xl _ rfl⟩,rfl,q1 _ I1.fresh⟩
 intro pins s σ H Q I ⟨E,L,r,m,w,cu,xc,k⟩;refine Yu (Qj I hgl hml Qk ?_);refine Y8 (thn (wv hr xj pc pos pins s σ H (λvs H1=>∃pp j,vs=[.ref pp]/\H1 pp=some (.rng 0 j)/\vX j=true/\j.toNat<=big/\∀l,H1 l=none->Q (.ref l) (upd H1 l (.lst ((List.range j.toNat).map λ(i:Nat)=>V.int (0+(i:Int)))))) I ?_) λus s1 ⟨vs,H1,I1,r1,pp,j,e,hp,h62,hbig,q1⟩=>?_) pc hpl2
 ·refine wK m w (show bnd (a E) _=some r from cu) xc λE1 s h1 x L1 H1 e1 e2 m1 w1 ok fr sr st sm=>?_
  cases hx:s.2 with
  | int j=>
   rw [hx]at h1;dsimp only at h1
   split at h1
   ·rename_i hj;cases oq9 h1;refine⟨j,vx ok (e2.trans hx),λpp hpp=>⟨pp,j,rfl,wV,hj.1,hj.2,λl hl=>?_⟩⟩;have s1:kj H1 (upd H1 pp (.rng 0 j)):=wJ hpp;have w2:World Z.K (upd H1 pp (.rng 0 j)) L1:=⟨λx hx=>RepO.kp (w1.ok x hx) (Kp.of_same s1),w1.nd,w1.ds⟩;have bn:Step H L (upd H1 pp (.rng 0 j)) L1:=st.trans ⟨λb ob z _=>s1 b ob z,λb z=>.inl z,λb z=>.inl z⟩;have ra:∀(n:Nat) (ns:List Nat) (Hx:Hp),RepA Z.K Hx true (ns.map λ(i:Nat)=>D.int (0+(i:Int))) (ns.map λ(i:Nat)=>V.int (0+(i:Int))) []:=by
     intro n ns Hx
     induction ns with
     |nil=>unfold RepA;exact⟨rfl,rfl⟩
     |cons i ns ih=>
      rw[List.map_cons,List.map_cons];unfold RepA;exact⟨_,_,[],[],rfl,rfl,KJ,ih⟩
    have o:=JW (K:=Z.K) (H:=upd H1 pp (.rng 0 j)) (fr:=[]) hl (ra 0 (List.range j.toNat) (upd H1 pp (.rng 0 j))) (λ_ z=>(nomatch z));obtain⟨w3,dj⟩:=Q8 w2 bn o (λ_ z=>(nomatch z)) (λ_ z=>(nomatch z)) (λ_ z=>(nomatch z));refine k _ _ rfl ⟨.rt,.lst (jV 0 j),.ref l,[l]⟩ L1 _ rfl rfl m1 (by simpa [jV]using w3) (by simpa [jV]using dj) λhq=>⟨v3 (sm hq) (v3 s1 o.same),λb hb=>?_⟩
    have:b=l:=by simpa [Sl.own]using hb
    subst this;exact xZ (v3 (sm hq) s1) hl
   ·cases h1
  | _=>rw[hx]at h1;cases h1
 ·subst e;obtain⟨u,rfl,rx⟩:=r1.one;cases rx;obtain⟨t1,t2,t3,hg⟩:=(show ObjOk X.prog X.w H1 s1.heap pp (.rng 0 j)from I1.hok pp _ hp);obtain⟨j1,j2⟩:=jwa h62;have e2:Builtin.Range.rangeSize 0 j 1=((j.toNat:Nat):Int):=by rw[rangeSize_one];split<;>omega
  refine call_list_range (n:=j.toNat) (I1.ok.hd hc) (show IsRange s1.heap pp 0 j 1 t1 t2 t3 from hg) (small_one (by omega) (by omega) j1 j2) e2 hbig λh' tk gp c' kp e4 ql=>?_
  obtain⟨hs,hg2⟩:=ql;have hv:Vals ((List.range j.toNat).map λ(i:Nat)=>V.int (0+(i:Int))) gp.toList:=kzw (by simp[hs]) λi x u ex eu=>by
   rw[Yv]at eu;obtain⟨t,rfl⟩:=hg2 i u eu;rw[Xw]at ex;cases hr:(List.range j.toNat)[i]? with
   | none=>rw[hr]at ex;cases ex
   | some m=>
    rw[hr]at ex;have hm:m=i:=by
     obtain⟨_,h2⟩:=List.getElem?_eq_some_iff.mp hr
     simpa using h2.symm
    subst hm;cases oq9 ex;exact⟨t,by rw[Int.mul_one]⟩
  refine⟨.ref s1.heap.objs.size,_,I1.laid (a:=s1.heap.objs.size) (o:=.lst ((List.range j.toNat).map λ(i:Nat)=>V.int (0+(i:Int)))) (t':=tk) kp (X9 _) ⟨by rw[X5,List.length_range];exact hbig,gp.toList,c',hv,by simpa using e4⟩,rfl,q1 _ I1.fresh⟩
end
end Q
namespace Q
open PySem
noncomputable def zY(n d:Nat):Option Int->Nat
 |none=>d
 |some v=>if v<0 then(v+(n:Int)).toNat else min v.toNat n
noncomputable def Jj(xs:List D)(lo hi:Option Int):List D:=(xs.drop (zY xs.length 0 lo)).take (zY xs.length xs.length hi - zY xs.length 0 lo)
noncomputable def fSl:Sd->Option Int->Option Int->Option Sd:=λx lo hi=>match x.2 with
 |.lst xs=>if v6 x then some (.rt,.lst (Jj xs lo hi))else none
 |.tup xs=>if v6 x/\¬(zY xs.length 0 lo=0/\zY xs.length xs.length hi=xs.length)then some (.no,.tup (Jj xs lo hi))else none
 |.str z=>if(Txt.slice z lo hi).length<=big then some (.dp,.str (Txt.slice z lo hi))else none
 |_=>none
noncomputable def V6:Option Ex->Ev (Option Int)
 |none,E=>some (.ok E none)
 |some c,E=>bnd (c E) λE x=>match x.2 with
  |.int i=>some (.ok E (some i))
  |_=>none
noncomputable def cSl(a:Ex)(lo hi:Option Ex):Ex:=λE=>bnd (a E) λE x=>bnd (V6 lo E) λE l=>bnd (V6 hi E) λE h=>val E (fSl x l h)
noncomputable def xx:Nat->List D->List D
 |_,[]=>[]
 |k,d::ds=>.tup [.int k,d]::xx (k+1) ds
noncomputable def lstOf:D->Option (List D)
 |.lst xs=>some xs
 |_=>none
noncomputable def wkr(c:Ex):Ev (List D):=λE=>bnd (c E) λE x=>val E ((lstOf x.2).map (xx 0))
noncomputable def Jw:List D->Option (List Str)
 |[]=>some []
 |.str z::ds=>(Jw ds).map (z :: ·)
 |_=>none
noncomputable def V2:List D->Option (List Int)
 |[]=>some []
 |.int z::ds=>(V2 ds).map (z :: ·)
 |_=>none
noncomputable def JQ(a:Str):List Str->List Str
 |[]=>[a]
 |b::r=>if Spec.ltCps b.cps.toList a.cps.toList then b::JQ a r else a::b::r
noncomputable def J0:List Str->List Str
 |[]=>[]
 |a::r=>JQ a (J0 r)
noncomputable def vj(a:Int):List Int->List Int
 |[]=>[a]
 |b::r=>if b<a then b::vj a r else a::b::r
noncomputable def VQ:List Int->List Int
 |[]=>[]
 |a::r=>vj a (VQ r)
noncomputable def kk8:Sd->Option Sd:=λx=>match x.2 with
 | .lst ds=>(match Jw ds with
  |some ss=>if ss.length<64 then some (.rt,.lst ((J0 ss).map .str))else none
  |none=>(match V2 ds with
   |some is=>if is.length<64 then some (.rt,.lst ((VQ is).map .int))else none
   |none=>none))
 |_=>none
noncomputable def qk5:D->D->Option D:=λxs x=>match xs with
 |.lst ys=>if x.flat 30&&D.flats 30 ys then(ys.findIdx? λz=>peq z x).map λ(j:Nat)=>D.int (j:Int)else none
 |.tup ys=>if x.flat 30&&D.flats 30 ys then(ys.findIdx? λz=>peq z x).map λ(j:Nat)=>D.int (j:Int)else none
 |_=>none
noncomputable def isSq:D->Bool
 |.lst _=>true
 |.tup _=>true
 |_=>false
noncomputable def wv3(a b:Ex):Ex:=λE=>bnd (a E) λE x=>if isSq x.2 then bnd (b E) λE y=>val E (pu2 qk5 x y)else none
noncomputable def cPop(i:Nat)(c:Ex):Ex:=λE=>if Kj E[i]? then bnd (c E) λE x=>match E[i]?,x.2 with
 | some (some (o,.lst xs)),.int k=>if o=.no then none else(match ixN xs.length k with
  |some j=>(match xs[j]? with
   |some d=>if d.pure&&vX k then some (.ok (E.set i (some (o,.lst (xs.eraseIdx j)))) (.dp,d))else none
   |none=>none)
  |none=>none)
 |_,_=>none
 else none
noncomputable def kX:Sd->Sd->Option Sd:=λx y=>match x.2,y.2 with
 |.tup a,.int k=>if -(2 ^ 63)<=k/\k<2 ^ 63/\a.length*k.toNat<=big/\v6 x then some (.no,.tup (List.replicate k.toNat a).flatten)else none
 |_,_=>J3 x y
noncomputable def sRz(c:Str):Sm:=λE=>some (.xc E c)
noncomputable def K0(f:Fn)(cs:List Ex):Ex:=λE=>match v4 cs E with
 |some (.ok E xs)=>(match f (letAll xs)with
  |some (.ok _ y)=>some (.ok E y)
  |some (.exc _ c)=>some (.exc E c)
  |none=>none)
 |_=>none
noncomputable def vkm(i:Nat):Option Fl->Option Fl
 |some (.nx E)=>some (.nx (E.set i none))
 |some (.rt E x)=>some (.rt (E.set i none) x)
 |some (.ct E)=>some (.ct (E.set i none))
 |some (.bk E)=>some (.bk (E.set i none))
 |_=>none
noncomputable def K7(cs:List Str)(i:Nat)(b h:Sm):Sm:=λE=>match b E with
 |some (.xc E c)=>if c∈cs then vkm i (h (E.set i (some (.no,.obj c []))))else none
 |r=>r
noncomputable def wY(t:List (Str×Bool)):D->Option D
 |.obj c _=>(t.lookup c).map .bl
 |_=>none
noncomputable def wwg:D->Bool
 |.tup _=>true
 |_=>false
noncomputable def xY(x:D):Bool:=jZ 6 x&&wwg x
noncomputable def vk7(kc vc:Ex):Ex:=λE=>bnd (kc E) λE k=>bnd (vc E) λE v=>if xY k.2=true then some (.ok E (.rt,.dct [(k.2,v.2)]))else none
noncomputable def W3:Sd->Option Sd:=λx=>match x.2 with
 |.dct kvs=>if kvs.length<=big/\unm kvs=true then some (.rt,.lst (kvs.map (·.1)))else none
 |_=>none
end Q
namespace Q
open PySem
noncomputable def wv1(d e:D):Option D:=match d,e with
 |.bl a,.bl b=>some (.bl (a==b))
 |_,_=>none
noncomputable def K8(d e:D):Option D:=match d,e with
 |.bl a,.bl b=>some (.bl (!(a==b)))
 |_,_=>none
end Q
namespace Q
open PySem
noncomputable def wws(z:Str):D->Option D:=λd=>match d with
 |.lst ds=>(match Jw ds with
  |some ys=>if(ys.map (·.length)).sum+ys.length*z.length<=100000 then some (.str (Txt.join z ys))else none
  |none=>none)
 |_=>none
noncomputable def wwy(z:Str)(c:Ex):Ex:=λE=>bnd (c E) λE x=>val E ((wws z x.2).map λd=>(.dp,d))
end Q
namespace Q
open PySem
noncomputable def YK(x:Sd):Bool:=vK x||(x.1 == .rt&&(match x.2 with
 |.lst ds=>D.pures ds
 |_=>false))
end Q
namespace Q
open PySem
noncomputable def D.at:List Nat->D->Option D
 |[],d=>some d
 |n::p,.tup ds=>match ds[n]? with
  |some d=>D.at p d
  |none=>none
 |n::p,.lst ds=>match ds[n]? with
  |some d=>D.at p d
  |none=>none
 |_::_,_=>none
noncomputable def D.put(d':D):List Nat->D->D
 |[],_=>d'
 |n::p,.tup ds=>match ds[n]? with
  |some d=>.tup (ds.set n (D.put d' p d))
  |none=>.tup ds
 |n::p,.lst ds=>match ds[n]? with
  |some d=>.lst (ds.set n (D.put d' p d))
  |none=>.lst ds
 |_::_,d=>d
noncomputable def WV(c:Ex):Ex:=λE=>bnd (c E) λE x=>if YK x=true then some (.ok E (.dp,x.2))else none
noncomputable def WW:D->Option D
 |.dct kvs=>if unm kvs=true then some (.int kvs.length)else none
 |_=>none
noncomputable def wqy:Option (Option Sd)->Bool
 |some (some (.rt,.dct kvs))=>unm kvs
 |_=>false
noncomputable def x6(kvs:List (D×D))(k:D):Option D:=(kvs.find? λp=>decide (p.1=k)).map (·.2)
noncomputable def qz0(i:Nat)(kc vc:Ex):Ex:=λE=>if wqy E[i]?=true then bnd (kc E) λE k=>bnd (vc E) λE v=>(match E[i]? with
 |some (some (.rt,.dct kvs))=>if xY k.2=true/\kvs.length<big/\unm kvs=true/\v.2.pure=true/\D.pures (kvs.map (·.2))=true then(match x6 kvs k.2 with
  |some d=>some (.ok E (.dp,d))
  |none=>some (.ok (E.set i (some (.rt,.dct (kvs++[(k.2,v.2)])))) (.dp,v.2)))else none
 |_=>none)else none
noncomputable def Z9(f:Fn)(i:Nat)(cs:List Ex):Ex:=λE=>bnd (v4 cs E) λE xs=>match E[i]? with
 | some (some x)=>(match f (letAll xs++[x])with
  |some (.ok E' y)=>(match E'[xs.length]? with
   |some (some x')=>some (.ok (E.set i (some x')) y)
   |_=>none)
  |some (.exc _ c)=>some (.exc (E.set i none) c)
  |none=>none)
 |_=>none
noncomputable def Kq(cs:List Str)(b h:Sm):Sm:=λE=>match b E with
 |some (.xc E c)=>if c∈cs then(match h E with
  |some (.xc _ _)=>none
  |r=>r)else none
 |r=>r
noncomputable def V3(i:Nat):Sm:=λE=>match E[i]? with
 |some (some (.rt,.lst ds))=>some (.nx (E.set i (some (.rt,.lst ds.reverse))))
 |_=>none
end Q
namespace Q
open PySem
noncomputable def wkx(k:Int):List D->D->Option (List D):=λds d=>if 0<=k/\k<=ds.length/\ds.length<big then some (ds.take k.toNat++d::ds.drop k.toNat)else none
noncomputable def vzg(j:Nat)(kc vc:Ex):Sm:=λE=>if Kj E[j]? then ofE (kc E) λE1 x=>match x.2 with
 |.int k=>qw (wkx k) j vc E1
 |_=>none
 else none
noncomputable def ZX (i j m:Nat) (q p1 p2:List Nat) (B C:Sm):Sm:=λE=>match E[i]?,E[m]? with
 | some (some (.dp,d)),some (some (_,dm))=>if dm.pure=true/\j<E.length then(match D.at q dm with
  | some (.int (.ofNat n))=>(match D.at (p1++[n]++p2) d with
   | some d1=>(match B ((E.set i none).set j (some (.dp,d1)))with
    |some (.nx E1)=>(match E1[j]? with
     |some (some (.dp,d2))=>C ((E1.set j none).set i (some (.dp,D.put d2 (p1++[n]++p2) d)))
     |_=>none)
    |_=>none)
   |none=>none)
  |_=>none)else none
 |_,_=>none
end Q
namespace Q
open PySem PySem.Spec PyProof.Rows L2 L3
section
variable {X:Cx}{Z:Fx0}{K:PySem.W.Frag}{pn:List Nat}{q qa qb:Bool}{a b c:Ex}{u:Ts}{tg e ea eb:Expr}{st:Stmt}{σ:L2.St}{H:Hp}{L:Ls}{E:En}{pos p p2:Pos}{x:Str}
theorem kjx(a:Str):∀r,(JQ a r).Perm (a::r)
 |[]=>List.Perm.refl _
 |b::r=>by
  unfold JQ
  split
  ·exact((kjx a r).cons b).trans (List.Perm.swap ..)
  ·exact List.Perm.refl _
theorem YQ:∀r,(J0 r).Perm r
 |[]=>List.Perm.refl _
 |a::r=>(kjx a _).trans ((YQ r).cons a)
noncomputable def leS(a b:Str):Prop:=Spec.ltCps b.cps.toList a.cps.toList=false
theorem leS_iff{a b:Str}:leS a b↔a.cps.toList<=b.cps.toList:=by
 unfold leS;rw[ltCps_eq,decide_eq_false_iff_not,List.not_lt]
theorem kwt{a b c:Str}(h:leS a b)(h':leS b c):leS a c:=leS_iff.mpr (List.le_trans (leS_iff.mp h) (leS_iff.mp h'))
theorem vjn{a b:Str}(h:leS a b)(h':leS b a):a=b:=by
 have:=List.le_antisymm (leS_iff.mp h) (leS_iff.mp h');cases a;cases b;simp only at this
 congr 1
 exact Array.toList_inj.mp this
theorem qwo{a b:Str}(h:¬leS a b):leS b a:=by
 rw[leS_iff]at h ⊢;exact List.le_of_lt (List.not_le.mp h)
theorem kw8:∀{a:Str} {r:List Str},risingS a r=true->(a::r).Pairwise leS
 |a,[],_=>by simp
 |a,b::r,h=>by
  have h:(!(Spec.ltCps b.cps.toList a.cps.toList)&&risingS b r)=true:=h;rw[Bool.and_eq_true,Bool.not_eq_true']at h;have ih:=kw8 h.2;refine List.pairwise_cons.mpr ⟨λc hc=>?_,ih⟩;rcases List.mem_cons.mp hc with rfl|hc
  ·exact h.1
  ·exact kwt h.1 ((List.pairwise_cons.mp ih).1 c hc)
theorem qqz{r:List Str}(h:sortedS r=true):r.Pairwise leS:=by
 cases r with
 |nil=>exact .nil
 |cons a r=>exact kw8 h
theorem qx1{a:Str}:∀{r:List Str},r.Pairwise leS->(JQ a r).Pairwise leS
 | [],_=>by simp[JQ]
 | b::r,h=>by
  rw[List.pairwise_cons]at h;unfold JQ
  by_cases hl:Spec.ltCps b.cps.toList a.cps.toList=true
  ·rw[Xa hl];refine List.pairwise_cons.mpr ⟨λc hc=>?_,qx1 h.2⟩;rcases List.mem_cons.mp ((kjx a r).mem_iff.mp hc)with rfl|hc
   ·exact qwo (by unfold leS;rw[hl];exact λz=>nomatch z)
   ·exact h.1 c hc
  ·rw[Xe hl];have lp:leS a b:=by unfold leS;exact Bool.eq_false_iff.mpr hl
   refine List.pairwise_cons.mpr ⟨λc hc=>?_,List.pairwise_cons.mpr h⟩;rcases List.mem_cons.mp hc with rfl|hc
   ·exact lp
   ·exact kwt lp (h.1 c hc)
theorem qj3:∀{r:List Str},(J0 r).Pairwise leS
 |[]=>.nil
 |a::r=>qx1 qj3
theorem qzr{r s:List Str}(p:s.Perm r)(h:sortedS s=true):s=J0 r:=
 List.Perm.eq_of_pairwise (λa b _ _ h1 h2=>vjn h1 h2) (qqz h) qj3 (p.trans (YQ r).symm)
theorem kjy(a:Int):∀r,(vj a r).Perm (a::r)
 |[]=>List.Perm.refl _
 |b::r=>by
  unfold vj
  split
  ·exact((kjy a r).cons b).trans (List.Perm.swap ..)
  ·exact List.Perm.refl _
theorem jxu:∀r,(VQ r).Perm r
 |[]=>List.Perm.refl _
 |a::r=>(kjy a _).trans ((jxu r).cons a)
theorem qx2{a:Int}:∀{r:List Int},r.Pairwise (·<=·)->(vj a r).Pairwise (·<=·)
 | [],_=>by simp[vj]
 | b::r,h=>by
  rw[List.pairwise_cons]at h;unfold vj
  by_cases hl:b<a
  ·rw[Xa hl];refine List.pairwise_cons.mpr ⟨λc hc=>?_,qx2 h.2⟩;rcases List.mem_cons.mp ((kjy a r).mem_iff.mp hc)with rfl|hc
   ·exact Int.le_of_lt hl
   ·exact h.1 c hc
  ·rw[Xe hl];refine List.pairwise_cons.mpr ⟨λc hc=>?_,List.pairwise_cons.mpr h⟩;rcases List.mem_cons.mp hc with rfl|hc
   ·omega
   ·have:=h.1 c hc;omega
theorem qj4:∀{r:List Int},(VQ r).Pairwise (·<=·)
 |[]=>.nil
 |a::r=>qx2 qj4
theorem qzs{r s:List Int}(p:s.Perm r)(h:s.Pairwise (·<=·)):s=VQ r:=
 List.Perm.eq_of_pairwise (λa b _ _ h1 h2=>Int.le_antisymm h1 h2) h qj4 (p.trans (jxu r).symm)
theorem qkn{ns:List Str}:∀{us:List Value},Vals (ns.map V.str) us->StrsAre us ns:=by
 induction ns with
 | nil=>intro us r;rw[List.map_nil]at r;cases r;exact .nil
 | cons n ns ih=>
  intro us r;rw[List.map_cons]at r;cases r with
  |cons r1 r2=>
   obtain⟨t,e⟩:=r1;subst e;exact .cons n t (ih r2)
theorem qqm{us:List Value}{ns:List Str}(h:StrsAre us ns):Vals (ns.map V.str) us:=by
 induction h with
 |nil=>exact .nil
 |cons y t _ ih=>exact .cons ⟨t,rfl⟩ ih
theorem kvy{us:List Value}{ns:List Int}(h:IntsAre us ns):Vals (ns.map V.int) us:=by
 induction h with
 |nil=>exact .nil
 |cons y t _ ih=>exact .cons ⟨t,rfl⟩ ih
noncomputable def qvc(K:PySem.W.Frag):List V->Hp->VK->Prop:=λxs H Q=>
 (∃p ss,xs=[.ref p]/\SqL K H p (ss.map V.str)/\ss.length<64/\∀l,H l=none->Q (.ref l) (upd H l (.lst ((J0 ss).map V.str)))) \/
 ∃p ss,xs=[.ref p]/\SqL K H p (ss.map V.int)/\ss.length<64/\∀l,H l=none->Q (.ref l) (upd H l (.lst ((VQ ss).map V.int)))
theorem kzm(hK:X.K=K):CallR X (.builtin "sorted") (qvc K):=by
 subst hK;intro pins s σ H xs us Q I r h;rcases h with⟨p,ss,rfl,hq,hl,q⟩|⟨p,ss,rfl,hq,hl,q⟩
 ·obtain⟨u,rfl,rx⟩:=z9 r;cases rx;obtain⟨ak,r',pl,hz⟩:=I.list hq;have av:=r'.length;rw[X5]at av hz;refine sorted_strs (vs:=ak) pl.isList (qkn r') (by omega) λout ss' h1 h2 h3=>?_
  have e:=qzr h2 h3;subst e;obtain⟨n,hn⟩:=sortedAll_at s.heap ak out;have gf:s.heap.objs.size<=s.heap.objs.size+1:=Nat.le_succ _;refine⟨.ref (s.heap.objs.size+1),_,I.laid (t':=s.toks) (o:=.lst ((J0 ss).map V.str)) (λb o e=>sortedAll_old e) gf ?_,rfl,q _ (I.hok.fresh gf)⟩;exact⟨by rw[X5,(YQ ss).length_eq];exact hz,out.toList,n,qqm h1,by simpa using hn⟩
 ·obtain⟨u,rfl,rx⟩:=z9 r;cases rx;obtain⟨ak,r',pl,hz⟩:=I.list hq;have av:=r'.length;rw[X5]at av hz;refine sorted_ints (vs:=ak) pl.isList (qq9 r') (by omega) λout ss' h1 h2 h3=>?_
  have e:=qzs h2 h3;subst e;obtain⟨n,hn⟩:=sortedAll_at s.heap ak out;have gf:s.heap.objs.size<=s.heap.objs.size+1:=Nat.le_succ _;refine⟨.ref (s.heap.objs.size+1),_,I.laid (t':=s.toks) (o:=.lst ((VQ ss).map V.int)) (λb o e=>sortedAll_old e) gf ?_,rfl,q _ (I.hok.fresh gf)⟩;exact⟨by rw[X5,(jxu ss).length_eq];exact hz,out.toList,n,kvy h1,by simpa using hn⟩
theorem qj1{g:Bool}:∀{ds:List D} {bs:List Str} {xs:List V} {as:List Addr},Jw ds=some bs->RepA K H g ds xs as->xs=bs.map V.str/\∀z∈bs,z.length<=sizeLine
 | [],bs,xs,as,h,r=>by
  cases oq9 h;unfold RepA at r;exact⟨r.1,λ_ z=>nomatch z⟩
 | d::ds,bs,xs,as,h,r=>by
  cases d with
  | str b=>
   unfold Jw at h;cases hb:Jw ds with
   |none=>rw[hb]at h;cases h
   |some df=>
    rw[hb]at h;cases oq9 h;unfold RepA at r;obtain⟨x,rr,c1,c2,rfl,rfl,h1,h2⟩:=r;unfold RepL at h1;obtain⟨i1,i2⟩:=qj1 hb h2;exact⟨by rw[h1.1,i1];rfl,λz hz=>(List.mem_cons.mp hz).elim (λe=>e▸h1.2.2) (i2 z)⟩
  |_=>unfold Jw at h;cases h
theorem qjy{g:Bool}:∀{ds:List D} {bs:List Int} {xs:List V} {as:List Addr},V2 ds=some bs->RepA K H g ds xs as->xs=bs.map V.int
 | [],bs,xs,as,h,r=>by
  cases oq9 h;unfold RepA at r;exact r.1
 | d::ds,bs,xs,as,h,r=>by
  cases d with
  | int b=>
   unfold V2 at h;cases hb:V2 ds with
   |none=>rw[hb]at h;cases h
   |some df=>
    rw[hb]at h;cases oq9 h;unfold RepA at r;obtain⟨x,rr,c1,c2,rfl,rfl,h1,h2⟩:=r;unfold RepL at h1;rw[h1.1,qjy hb h2];rfl
  |_=>unfold V2 at h;cases h
theorem qj9{g:Bool}:∀{bs:List Str},(∀z∈bs,z.length<=sizeLine)->RepA K H g (bs.map D.str) (bs.map V.str) []
 |[],_=>by unfold RepA;exact⟨rfl,rfl⟩
 |b::bs,h=>by
  rw[List.map_cons,List.map_cons];unfold RepA;exact⟨_,_,[],[],rfl,rfl,kjj (h b X2),qj9 λz hz=>h z (lc9 _ hz)⟩
theorem qja{g:Bool}:∀{bs:List Int},RepA K H g (bs.map D.int) (bs.map V.int) []
 |[]=>by unfold RepA;exact⟨rfl,rfl⟩
 |b::bs=>by
  rw[List.map_cons,List.map_cons];unfold RepA;exact⟨_,_,[],[],rfl,rfl,KJ,qja⟩
theorem qz9:Ad1 K (λv H Q=>qvc K [v] H Q) kk8:=by
 intro H x s Q ok hf k;unfold kk8 at hf;dsimp only at hf;cases hx:x.d with
 | lst ds=>
  rw [hx]at hf;dsimp only at hf;obtain⟨l,xs,bs,ev,q3,r3,_⟩:=items ok (.inl hx);have q3:LsR K H l xs:=by rcases q3 with⟨_,z⟩|⟨z,_⟩;exact z;rw[hx]at z;cases z
  cases hs:Jw ds with
  | some ss=>
   rw[hs]at hf;dsimp only at hf
   split at hf
   ·rename_i hl;cases oq9 hf;obtain⟨e1,e2⟩:=qj1 hs r3;subst e1;refine .inl ⟨l,ss,by rw[ev],J7 q3,hl,λp hp=>?_⟩;exact k ⟨.rt,.lst _,.ref p,p::[]⟩ _ rfl rfl (JW hp (qj9 λz hz=>e2 z ((YQ ss).mem_iff.mp hz)) λb hb=>nomatch hb)
   ·cases hf
  | none=>
   rw[hs]at hf;dsimp only at hf;cases hi:V2 ds with
   | none=>rw[hi]at hf;cases hf
   | some ss=>
    rw[hi]at hf;dsimp only at hf
    split at hf
    ·rename_i hl;cases oq9 hf;have e1:=qjy hi r3;subst e1;refine .inr ⟨l,ss,by rw[ev],J7 q3,hl,λp hp=>?_⟩;exact k ⟨.rt,.lst _,.ref p,p::[]⟩ _ rfl rfl (JW hp qja λb hb=>nomatch hb)
    ·cases hf
 |_=>rw[hx]at hf;cases hf
noncomputable def tPo(Z:Fx0):Option Ex->TO
 |none=>qqt
 |some c=>vz5 (tV Z true c)
theorem wvo:PO X none (tPo Z none):=kz4
theorem vva(h:QV X Z true c e):PO X (some e) (tPo Z (some c)):=vvt h
theorem qvs{α:Type}{co:Option Ex}{F:En->Option Int->Option (Res α)}{r:Res α}{G:Option Int->Hp->Prop}(m:Mt E σ L)(w:World Z.K H L)(h:bnd (V6 co E) F=some r)(xc:Xc Z σ H L r)
  (k:∀E1 l,F E1 l=some r->∀L1 H1,Mt E1 σ L1->World Z.K H1 L1->Step H L H1 L1->kj H H1->G l H1):tPo Z co σ H G:=by
 cases co with
 | none=>exact k E none h L H m w Step.refl xV
 | some c=>
  have h:bnd (bnd (c E) λE x=>match x.2 with|.int i=>some (.ok E (some i))|_=>none) F=some r:=h;have h':bnd (c E) (λE x=>bnd (match x.2 with|.int i=>some (.ok E (some i))|_=>none) F)=some r:=by
   cases hc:c E with
   |none=>rw[hc]at h;exact h
   |some y=>rw[hc]at h;cases y<;>exact h
  show tV Z true c σ H λx H1=>∃i,x=.int i/\G (some i) H1
  refine wK m w h' xc λE1 s h1 x L1 H1 e1 e2 m1 w1 ok fr sr st sm=>?_
  cases hs:s.2 with
  |int i=>
   rw[hs]at h1;exact⟨i,vx ok (e2.trans hs),k E1 (some i) h1 L1 H1 m1 w1 st (sm rfl)⟩
  |_=>rw[hs]at h1;cases h1
theorem qj8(n d:Nat)(v:Option Int):HT.sIx n d v=zY n d v:=by
 cases v<;>rfl
theorem RepA.drop{K:PySem.W.Frag}{H:Hp}{g:Bool}:∀(n:Nat) {ds:List D} {xs:List V} {as:List Addr},RepA K H g ds xs as->∃bs,RepA K H g (ds.drop n) (xs.drop n) bs/\∀b∈bs,b∈as
 |0,ds,xs,as,h=>⟨as,h,λ_ h=>h⟩
 |n+1,[],xs,as,h=>by
  unfold RepA at h;obtain⟨rfl,rfl⟩:=h;exact⟨[],by simp only[List.drop_nil];unfold RepA;exact⟨rfl,rfl⟩,λ_ h=>h⟩
 |n+1,d::ds,xs,as,h=>by
  unfold RepA at h;obtain⟨x,r,bs,cs,rfl,rfl,h1,h2⟩:=h;obtain⟨es,r2,hb⟩:=RepA.drop n h2;exact⟨es,r2,λb h=>lr9 _ (hb b h)⟩
theorem RepA.take{K:PySem.W.Frag}{H:Hp}{g:Bool}:∀(n:Nat) {ds:List D} {xs:List V} {as:List Addr},RepA K H g ds xs as->∃bs,RepA K H g (ds.take n) (xs.take n) bs/\∀b∈bs,b∈as
 |0,ds,xs,as,h=>⟨[],by simp only[List.take_zero];unfold RepA;exact⟨rfl,rfl⟩,λ_ h=>nomatch h⟩
 |n+1,[],xs,as,h=>by
  unfold RepA at h;obtain⟨rfl,rfl⟩:=h;exact⟨[],by simp only[List.take_nil];unfold RepA;exact⟨rfl,rfl⟩,λ_ h=>h⟩
 |n+1,d::ds,xs,as,h=>by
  unfold RepA at h;obtain⟨x,r,bs,cs,rfl,rfl,h1,h2⟩:=h;obtain⟨es,r2,hb⟩:=RepA.take n h2;refine⟨bs++es,?_,λb h=>(List.mem_append.mp h).elim (λz=>ll9 _ z) λz=>lr9 _ (hb b z)⟩;rw[List.take_succ_cons,List.take_succ_cons];unfold RepA;exact⟨x,r.take n,bs,es,rfl,rfl,h1,r2⟩
theorem RepA.cut{K:PySem.W.Frag}{H:Hp}{g:Bool}{ds:List D}{xs:List V}{as:List Addr}(h:RepA K H g ds xs as)(lo hi:Option Int):∃bs,RepA K H g (Jj ds lo hi) (QX xs lo hi) bs/\∀b∈bs,b∈as:=by
 have hl:=h.len;unfold Jj QX;rw[qj8,qj8,<-hl];obtain⟨bs,r,hb⟩:=h.drop (zY ds.length 0 lo);obtain⟨cs,r2,hc⟩:=r.take (zY ds.length ds.length hi - zY ds.length 0 lo);exact⟨cs,r2,λb h=>hb b (hc b h)⟩
theorem vqx{x:Sl}{s:Sd}{lo hi:Option Int}{Q:VK}(ok:x.ok K H)(hf:fSl (x.o,x.d) lo hi=some s)(k:∀(z:Sl) H',z.o=s.1->z.d=s.2->Out K H H' z x.frz->Q z.v H'):vkp K x.v lo hi H Q:=by
 unfold fSl at hf;dsimp only at hf;cases hx:x.d with
 | lst ds=>
  rw[hx]at hf;dsimp only at hf
  split at hf
  ·rename_i hl;cases oq9 hf;obtain⟨l,xs,bs,ev,q3,r3,h3⟩:=zk ok (.inl hx) (by rw[hx];exact hl);have q3:LsR K H l xs:=by rcases q3 with⟨_,z⟩|⟨z,_⟩;exact z;rw[hx]at z;cases z
   obtain⟨cs,r4,h4⟩:=r3.cut lo hi;exact .inl ⟨l,xs,ev,J7 q3,λp hp=>k ⟨.rt,.lst _,.ref p,p::cs⟩ _ rfl rfl (JW hp r4 λb hb=>h3 b (h4 b hb))⟩
  ·cases hf
 | tup ds=>
  rw[hx]at hf;dsimp only at hf
  split at hf
  ·rename_i hl;cases oq9 hf;obtain⟨l,xs,bs,ev,q3,r3,h3⟩:=zk ok (.inr hx) (by rw[hx];exact hl.1);have q3:SqT K H l xs:=by rcases q3 with⟨z,_⟩|⟨_,z⟩;rw[hx]at z;cases z;exact z
   obtain⟨cs,r4,h4⟩:=r3.cut lo hi;refine .inr (.inl ⟨l,xs,ev,q3,?_,λp hp=>k ⟨.no,.tup _,.ref p,cs⟩ _ rfl rfl (kjm hp r4 λb hb=>h3 b (h4 b hb))⟩);rw[qj8,qj8,<-r3.len];exact hl.2
  ·cases hf
 | str z=>
  rw[hx]at hf;dsimp only at hf
  split at hf
  ·rename_i hl;cases oq9 hf;obtain⟨e,hz⟩:=z6 ok hx;exact .inr (.inr ⟨z,e,hz,k ⟨.dp,.str _,.str _,[]⟩ H rfl rfl (ww6 hl)⟩)
  ·cases hf
 |_=>rw[hx]at hf;cases hf
theorem wxl{lo hi:Option Ex}{elo ehi:Option Expr}(ha:QV X Z q a ea)(hl:PO X elo (tPo Z lo))(hh:PO X ehi (tPo Z hi))(hK:autoParam (X.K=Z.K) Ŕ):QE X Z q (cSl a lo hi) (.Subscript ea (.Slice elo ehi none p2) pos):=
 qz (vja (wve Z.K hK) ha hl hh) fun σ H Q ay=>ex8 ay λE L r m w hc xc k=>by
  refine wK m w (show bnd (a E) _=some r from hc) xc λE1 s h1 x L1 H1 e1 e2 m1 w1 ok fr sr st sm=>?_
  refine qvs m1 w1 h1 (xc.step st) λE2 l h2 L2 H2 m2 w2 bn fj=>?_
  refine qvs m2 w2 h2 (xc.step (st.trans bn)) λE3 u h3 L3 H3 m3 w3 dj sm3=>?_
  obtain⟨z,hz,rfl⟩:=Q6 h3;have k1:=XW ok fr bn fj;have k2:=XW k1.1 k1.2 dj sm3;refine vqx k2.1 (by rw[e1,e2];exact hz) λy H' ho hd o=>?_
  obtain⟨w4,jn⟩:=Q8 w3 ((st.trans bn).trans dj) o k2.2 (λb hb=>k2.1.some (Sl.frz_as hb)) (jx5 sr λb hb=>Sl.frz_as hb);have i7:q=true->kj H H3:=λhq=>v3 (sm hq) (v3 fj sm3)
  exact k _ _ rfl y L3 H' ho hd m3 w4 jn λhq=>⟨v3 (i7 hq) o.same,λb hb=>xZ (i7 hq) (o.new b hb)⟩
end
theorem vxz{prog:Program}{w:PySem.World}{A:Around}{E:Value->Shared->Prop}{s:Shared}{t:Addr}{items:Array Value}{x:Value}{e:Value->Bool}{j:Nat}{Q:Value->Shared->Prop}
  (ht:IsTup s.heap t items) (he:∀y∈items,SeqAt.EqAt A.in1 s y x (e y)) (hj:j<items.size) (h1:e items[j]=true) (h2:∀m (hm:m<items.size),m<j->e items[m]=false)
  (h:Q (.int j s.toks) { s with toks:=s.toks+1 }):wpAny (model prog w) A (call (.builtin "tuple.index") [.ref t,x]) Q E s:=by
 refine Ye PySem.F.slot_tuple_index ht.typeIs PySem.F.entry_tuple_index ?_ (PySem.F.args_tuple_index_2 _ _);show wpAny _ _ (Builtin.Tuple.tupleItemsOf (.ref t) >>= _) _ _ s;refine X0 (tupleItemsOf_ ht ?_);dsimp only;refine X0 (X4 ?_);refine X0 (X4 ?_);rw[Std.Legacy.Range.forIn_eq_forIn_range'];refine X0 (wpAny_forIn_list _ (λjx b s'=>b=(none,())/\s'=s/\∃k,k<=j/\jx=List.range' k (items.size - k)) _ ?_ ?_ _ _ ⟨rfl,rfl,0,Yf _,?_⟩)
 ·rintro i jx b s' ⟨rfl,rfl,k,hk,hr⟩;obtain⟨n,hn⟩:∃n,items.size - k=n+1:=⟨items.size - k - 1,by omega⟩;rw[hn,List.range'_succ]at hr;injection hr with hi ml;subst hi;have hi:i<items.size:=by omega
  rw[show items[i]?=some items[i]from Array.getElem?_eq_getElem hi];dsimp only;refine X0 (he items[i] (Array.getElem_mem hi) _ _ _ _ ?_)
  by_cases md:i=j
  ·subst md;rw[h1,Xa rfl];unfold retInt;refine X0 (X0 (wpAny_mkInt (X4 (X4 ?_))));exact X4 ⟨_,rfl,h⟩
  ·rw[h2 i hi (by omega),Xe (by decide)];refine X4 ⟨rfl,rfl,i+1,by omega,?_⟩;rw[ml]
   congr 1
   omega
 ·rintro b s' ⟨rfl,rfl,k,hk,hr⟩;have:items.size - k=0:=by
   have:=congrArg List.length hr
   simpa using this.symm
  omega
 ·simp
theorem wvi{prog:Program}{w:PySem.World}{A:Around}{E:Value->Shared->Prop}{s:Shared}{l:Addr}{items:Array Value}{k:Int}{t:Tok}{Q:Value->Shared->Prop}
  (ht:IsTup s.heap l items) (h:Q .notImplemented s):wpAny (model prog w) A (call (.builtin "int.__rmul__") [.int k t,.ref l]) Q E s:=by
 refine Ye PySem.F.slot_int_rmul (typeIs_int s k t) PySem.F.entry_int_rmul ?_ (PySem.F.args_int_rmul_2 _ _);obtain⟨o,e,c,n,hd⟩:=ht;show wpAny _ _ (asInt? (.ref l) >>= _) _ _ s;unfold asInt?;refine X0 (X0 (wpAny_load e ?_));rw[hd];refine X4 ?_;dsimp only;refine X0 (wpAny_rule ?_);exact X4 ⟨_,rfl,h⟩
theorem mulT{prog:Program}{w:PySem.World}{A:Around}{E:Value->Shared->Prop}{s:Shared}{l:Addr}{items:Array Value}{k:Int}{t:Tok}{Q:Value->Shared->Prop}
  (ht:IsTup s.heap l items) (h1:-(2 ^ 63)<=k) (h2:k<2 ^ 63) (hz:items.size*k.toNat<=sizeLine)
  (sv:(items.isEmpty=true\/k=1)->Q (.ref l) s)
  (hsz:(List.foldl (λx1 x2=>x1++x2) #[] (List.replicate k.toNat items)).size<=sizeLine)
  (jt:Q (.ref s.heap.objs.size) { s with heap:=s.heap.push { cls:=.type "tuple",data:=.seq (List.foldl (λx1 x2=>x1++x2) #[] (List.replicate k.toNat items)) } })
  : wpAny (model prog w) A (call (.builtin "tuple.__mul__") [.ref l,.int k t]) Q E s:=by
 refine Ye PySem.F.slot_tuple_mul ht.typeIs PySem.F.entry_tuple_mul ?_ (PySem.F.args_tuple_mul_2 _ _);show wpAny _ _ (if(decide (k < -2 ^ 63)||decide (k>=2 ^ 63))=true then _ else _) _ _ s;rw [Xe (by simp;omega)];show wpAny _ _ (Builtin.Tuple.tupleItemsOf (.ref l) >>= _) _ _ s;refine X0 (tupleItemsOf_ ht ?_)
 by_cases hs:(items.isEmpty||k==1)=true
 ·rw[Xa hs];unfold Builtin.Tuple.tupleIsExact;refine X0 (X0 (wpAny_typeOf ht.typeIs (X4 ?_)));rw[Xa (by decide)];refine X0 (wpAny_rule ?_);refine X4 ⟨_,rfl,sv ?_⟩
  simpa using hs
 ·rw[Xe hs];have cx:items.isEmpty=false:=by
   cases h:items.isEmpty<;>simp_all
  have hm:((items.size:Int)*k)<=(sizeLine:Int)\/k<=0:=by
   by_cases hk:k<=0
   ·exact .inr hk
   ·refine .inl ?_;have e:((k.toNat:Nat):Int)=k:=Int.toNat_of_nonneg (by omega);have:((items.size*k.toNat:Nat):Int)<=(sizeLine:Int):=Int.ofNat_le.mpr hz;rw[Int.natCast_mul,e]at this;exact this
  dsimp only
  by_cases hk:k<=0
  ·rw[Xa (by simp[hk])];have e:k.toNat=0:=by omega
   rw[e]at jt;unfold Builtin.Tuple.tupleExact;exact X0 (Y3 (X4 ⟨_,rfl,jt⟩) (show(0:Nat)<=sizeLine from Yf _))
  ·rw[Xe (by simp[hk,cx])];have hm:=hm.resolve_right hk;have jg:(sizeLine:Int)=16777216:=by decide
   rw[Xe (by omega)];rw[Xe (by unfold Builtin.Tuple.tupleTooMany;simp;omega)];unfold Builtin.Tuple.tupleExact;exact X0 (Y3 (X4 ⟨_,rfl,jt⟩) hsz)
section
variable {X:Cx}{Z:Fx0}{K:PySem.W.Frag}{pn:List Nat}{q qa qb:Bool}{a b c:Ex}{u:Ts}{tg e ea eb:Expr}{st:Stmt}{σ:L2.St}{H:Hp}{L:Ls}{E:En}{pos p p2:Pos}{x:Str}
noncomputable def vzm(K:PySem.W.Frag):R2:=λx y H Q=>∃l k xs,x=.ref l/\y=.int k/\SqT K H l xs/\-(2 ^ 63)<=k/\k<2 ^ 63/\xs.length*k.toNat<=sizeLine/\((xs=[]\/k=1)->Q (.ref l) H)/\∀p,H p=none->Q (.ref p) (upd H p (.tup (List.replicate k.toNat xs).flatten))
theorem op_repT:OpR X (binaryOp .Mult) (vzm X.K):=by
 intro pins s σ H x y v u Q I rx ry h;obtain⟨l,k,xs,rfl,rfl,hq,h1,h2,hz,q1,q2⟩:=h;cases rx;obtain⟨t,rfl⟩:=ry;obtain⟨ak,r,ht,hl⟩:=I.tuple hq;have av:=r.length;have f0:List.foldl (λx1 x2=>x1++x2) #[] (List.replicate k.toNat ak.toArray)=(List.replicate k.toNat ak).flatten.toArray:=by
  have:=kk3 ak k.toNat [];rw[List.nil_append]at this;exact this
 have hz2:(List.replicate k.toNat xs).flatten.length<=sizeLine:=by rw[qwl,Nat.mul_comm];exact hz
 refine wpAny_binaryOp_repeat_ref (T:="tuple") (U:="int") (by decide) ht.typeIs (λs'=>typeIs_int s' k t) rfl F.fills_int_mul F.slot_int_rmul (show seqRepeat? (Value.type "tuple")=pure (some (Value.builtin "tuple.__mul__"))from rfl) F.slot_int_index.lookup
  (wvi ht ⟨rfl,ht.typeIs,mulT ht h1 h2 (by rw[X6,<-av];exact hz) (λhs=>?_) ?_ ?_⟩)
 ·refine⟨.ref l,H,I,rfl,q1 ?_⟩;rcases hs with hs|hs
  ·left;have:ak=[]:=by simpa using hs
   subst this
   simpa using av
  ·exact .inr hs
 ·rw[f0,X6,<-(r.rep k.toNat).length];exact hz2
 ·rw[f0];exact⟨.ref _,_,I.laid (t':=s.toks) (o:=.tup _) (λb o e=>X8 _ e) (X9 _) ⟨hz2,_,r.rep k.toNat,IsTupD.new _ _⟩,rfl,q2 _ (I.hok.fresh (X9 _))⟩
noncomputable def vzp(K:PySem.W.Frag):R2:=λx y H Q=>vzm K x y H Q\/vv5 K x y H Q
theorem wjx(hK:autoParam (X.K=K) Ŕ):OpR X (binaryOp .Mult) (vzp K):=by subst hK;exact op_repT.or wjy
theorem vxk:Ad2 K (vzp K) kX:=by
 intro H x y s Q ox oy hf k;cases hx:x.d with
 | tup ds=>
  cases hy:y.d with
  | int n=>
   unfold kX at hf;rw [show(x.o,x.d).2=x.d from rfl,show(y.o,y.d).2=y.d from rfl,hx,hy]at hf;dsimp only at hf
   split at hf
   ·rename_i hc;cases oq9 hf;obtain⟨l,xs,bs,e3,q3,r3,h3⟩:=zk ox (.inr hx) (by rw[hx];exact hc.2.2.2);have q3:SqT K H l xs:=by rcases q3 with⟨z,_⟩|⟨_,z⟩;rw[hx]at z;cases z;exact z
    obtain⟨cs,r4,h4⟩:=r3.reps n.toNat;refine .inl ⟨l,n,xs,e3,vx oy hy,q3,hc.1,hc.2.1,by rw[<-r3.len];exact hc.2.2.1,λhs=>?_,λp hp=>?_⟩
    ·refine k ⟨.no,.tup _,.ref l,cs⟩ H rfl rfl ⟨xV,?_,λb hb=>(nomatch hb),Xs,λb hb=>ll9 _ (h3 b (h4 b hb))⟩;show RepL K H true (.tup _) (.ref l) cs;unfold RepL;refine⟨l,xs,rfl,q3,?_⟩;have e:(List.replicate n.toNat xs).flatten=xs:=by
      rcases hs with hs|hs
      ·subst hs;simp
      ·subst hs;simp
     rw[e]at r4;exact r4
    ·exact k ⟨.no,.tup _,.ref p,cs⟩ _ rfl rfl (kjm hp r4 λb hb=>ll9 _ (h3 b (h4 b hb)))
   ·cases hf
  |_=>
   refine .inr (vql H x y s Q ox oy ?_ k);unfold kX at hf;rw[show(x.o,x.d).2=x.d from rfl,show(y.o,y.d).2=y.d from rfl,hx,hy]at hf;rw[hx,hy];exact hf
 |_=>
  refine .inr (vql H x y s Q ox oy ?_ k);unfold kX at hf;rw[show(x.o,x.d).2=x.d from rfl,hx]at hf;rw[hx];exact hf
theorem qwh{h:Heap}:∀{ds:List D} {us:List Value},CReps h ds us->us.map (dec h)=ds
 |[],_,r=>by unfold CReps at r;rw[r];rfl
 |z::ds,_,r=>by
  unfold CReps at r;obtain⟨u,rr,rfl,h1,h2⟩:=r;rw[List.map_cons,kx9 h1,qwh h2]
noncomputable def wvm(K:PySem.W.Frag)(C:Hp->List V->Prop):List V->Hp->VK->Prop:=λvs H Q=>∃v d ds as bs xs j,vs=[v]/\RepL K H true d v as/\C H xs/\RepA K H true ds xs bs/\d.flat 30=true/\D.flats 30 ds=true/\(ds.findIdx? λz=>peq z d)=some j/\Q (.int j) H
theorem vjc{o:Expr}{to:TE}{t:TA}{apos aq:Pos}(hu:X.A.units+64<cLine)(ho:PE X o to)(ha:PA X [e] t)
  (bf:autoParam (attributeBase o "index" X.env (eval o X.env)=eval o X.env) Ŕ)
  (f8:autoParam (((backTo aq (starEach [e] X.env)).all (λx=>!x.1)&&(backToKw aq (keywordEach [] X.env)).all (λx=>x.1.isSome)
   && decide ([e].length+([]:List Keyword).length+(if([]:List Keyword).isEmpty then 0 else 1)<30))=true) Ŕ)
  (bg:autoParam ((apos.endLine==aq.line)=true) Ŕ) (hs:autoParam (starEach [e] X.env=(false,eval e X.env)::starEach [] X.env) Ŕ) (bi:autoParam ((backTo aq (starEach [] X.env)).any (·.1)=false) Ŕ):
  PE X (.Call (.Attribute o "index" apos) [e] [] aq) (fun σ H Q=>to σ H λx H1=>(∃p xs,x=.ref p/\LsR X.K H1 p xs/\t σ H1 λvs H2=>wvm X.K (λH xs=>LsR X.K H p xs) vs H2 Q)\/∃p xs,x=.ref p/\SqT X.K H1 p xs/\t σ H1 λvs H2=>wvm X.K (λH xs=>SqT X.K H p xs) vs H2 Q):=by
 intro pins s σ H Q I h;refine wpAny_Call_method_late bf f8 bg rfl (thn (ho pins s σ H _ I h) λv s1 ⟨x,H1,I1,r1,qq⟩=>?_);have eqs:∀{s2:Shared} {H2:Hp} {d:D} {v:V} {as:List Addr} {w:Value} {us:List Value} {ds:List D},L2.Inv X pins σ H2 s2->RepL X.K H2 true d v as->RelV v w->d.flat 30=true->D.flats 30 ds=true->CReps s2.heap ds us->∀y∈us.toArray,SeqAt.EqAt X.A.in1 s2 y w (peq (dec s2.heap y) d):=fun {s2 H2 d v as w us ds} I2 rd rw f1 f2 cr y hy=>by
  have c1:=Qx I2 rd f1 rw;obtain⟨d',hd,c⟩:=kj4 cr (by simpa using hy);rw[kx9 c];exact W0 30 (jxg f2 hd) c c1 (by have:=L3.in1_units X.A;omega)
 have idx:∀{h:Heap} {ds:List D} {us:List Value} {d:D} {j:Nat},CReps h ds us->(ds.findIdx? λz=>peq z d)=some j->∃hj:j<us.toArray.size,peq (dec h us.toArray[j]) d=true/\∀m (hm:m<us.toArray.size),m<j->peq (dec h us.toArray[m]) d=false:=fun {h ds us d j} cr hf=>by
  have e:=qwh cr;subst e;rw[List.findIdx?_eq_some_iff_getElem]at hf;obtain⟨hj,h1,h2⟩:=hf;have hj':j<us.length:=by simpa using hj
  refine⟨by simpa using hj',by simpa using h1,λm hm hmj=>?_⟩;have:=h2 m hmj
  simpa using this
 rcases qq with⟨pp,zs,rfl,ty,q1⟩|⟨pp,zs,rfl,ty,q1⟩
 ·cases r1;have hA:=ha aq pins s1 σ H1 _ I1 q1;rw[hs]at hA ⊢;obtain⟨z,ak,n,r,e0⟩:=ty.is I1;refine⟨"list","list.index",F.plainAttrs_list,F.slot_list_index,F.type_list_index,⟨_,e0,rfl⟩,λa e2=>?_,?_⟩
  ·cases e2;exact⟨_,e0,rfl⟩
  refine Ys (by show(false||(backTo aq (starEach [] X.env)).any (·.1))=false;rw[bi]<;>rfl) (Calls.evalArgs_plain ?_);refine thn hA λus s2 ⟨vs,H2,I2,r2,d2⟩=>?_
  obtain⟨v,d,ds,as,bs,xs,j,rfl,rd,hq,ra,f1,f2,hf,q2⟩:=d2;obtain⟨w,rfl,rw1⟩:=r2.one;obtain⟨z2,gl,n2,r3,e3⟩:=hq.is I2;have cr:=creps_of I2 ra f2 r3;obtain⟨hj,h1,h2⟩:=idx cr hf;have hsz:gl.toArray.size<=16777216:=by rw[X6,<-r3.length];exact z2
  exact call_meets F.slot_list_index ⟨_,e3,rfl⟩ F.entry_list_index (F.args_list_index_2 _ _) (SeqAt.list_indexAt pp gl.toArray n2 none #[] w (λy=>peq (dec s2.heap y) d) j hj (by omega) h1 h2) ⟨e3,eqs I2 rd rw1 f1 f2 cr,.int _,H2,I2.tok _,⟨_,rfl⟩,q2⟩
 ·cases r1;have hA:=ha aq pins s1 σ H1 _ I1 q1;rw[hs]at hA ⊢;obtain⟨ak,r,ht,hz⟩:=I1.tuple ty;have hd0:=I1.tupleD ty;refine⟨"tuple","tuple.index",F.plainAttrs_tuple,F.slot_tuple_index,F.type_tuple_index,ht.typeIs,λa e2=>?_,?_⟩
  ·cases e2;exact hd0
  refine Ys (by show(false||(backTo aq (starEach [] X.env)).any (·.1))=false;rw[bi]<;>rfl) (Calls.evalArgs_plain ?_);refine thn hA λus s2 ⟨vs,H2,I2,r2,d2⟩=>?_
  obtain⟨v,d,ds,as,bs,xs,j,rfl,rd,hq,ra,f1,f2,hf,q2⟩:=d2;obtain⟨w,rfl,rw1⟩:=r2.one;obtain⟨gl,r3,ht2,hz2⟩:=I2.tuple hq;have cr:=creps_of I2 ra f2 r3;obtain⟨hj,h1,h2⟩:=idx cr hf;exact vxz (e:=λy=>peq (dec s2.heap y) d) ht2 (eqs I2 rd rw1 f1 f2 cr) hj h1 h2 ⟨.int _,H2,I2.tok _,⟨_,rfl⟩,q2⟩
theorem vvb{apos aq:Pos}(hu:X.A.units+64<cLine)(ha:QV X Z q a ea)(hb:QV X Z true b eb)(hK:autoParam (X.K=Z.K) Ŕ)
  (bf:autoParam (attributeBase ea "index" X.env (eval ea X.env)=eval ea X.env) Ŕ)
  (f8:autoParam (((backTo aq (starEach [eb] X.env)).all (λx=>!x.1)&&(backToKw aq (keywordEach [] X.env)).all (λx=>x.1.isSome)
   && decide ([eb].length+([]:List Keyword).length+(if([]:List Keyword).isEmpty then 0 else 1)<30))=true) Ŕ)
  (bg:autoParam ((apos.endLine==aq.line)=true) Ŕ) (hs:autoParam (starEach [eb] X.env=(false,eval eb X.env)::starEach [] X.env) Ŕ) (bi:autoParam ((backTo aq (starEach [] X.env)).any (·.1)=false) Ŕ):
  QE X Z q (wv3 a b) (.Call (.Attribute ea "index" apos) [eb] [] aq):=qz (vjc hu ha (wv hb xj hs) bf f8 bg hs bi) fun σ H Q ay=>ex8 ay λE L r m w hc xc k=>by
 refine wK m w (show bnd (a E) _=some r from hc) xc λE1 s h1 x L1 H1 e1 e2 m1 w1 ok fr sr st sm=>?_
 split at h1
 rotate_left
 ·cases h1
 rename_i hsq;rw [hK];have fin:∀{ds:List D},(x.d=.lst ds\/x.d=.tup ds)->∀(C:Hp->List V->Prop),(∀H2,x.ok Z.K H2->∃xs bs,C H2 xs/\RepA Z.K H2 true ds xs bs)->tV Z true b σ H1 λv H2=>wvm Z.K C [v] H2 Q:=fun {ds} hx C hC=>by
  refine wK m1 w1 h1 (xc.step st) λE2 s2 h2 y L2 H2 e3 e4 m2 w2 ir rj qc bn fj=>?_
  obtain⟨z,hz,rfl⟩:=Q6 h2;have kx:=XW ok fr bn (fj rfl);obtain⟨xs,bs,c1,c2⟩:=hC H2 kx.1;have key:∃j:Nat,y.d.flat 30=true/\D.flats 30 ds=true/\(ds.findIdx? λz=>peq z y.d)=some j/\z=(.dp,.int j):=by
   unfold pu2 qk5 at hz;rw[<-e2,<-e4]at hz;have hz':(if y.d.flat 30&&D.flats 30 ds then(ds.findIdx? λz=>peq z y.d).map λ(j:Nat)=>D.int (j:Int)else none).map (λd=>((Own.dp,d):Sd))=some z:=by
    rcases hx with hx|hx<;>(rw[hx]at hz;exact hz)
   split at hz'
   ·rename_i hf;rw[Bool.and_eq_true]at hf;cases hj:ds.findIdx? λz=>peq z y.d with
    |none=>rw[hj]at hz';cases hz'
    |some j=>rw[hj]at hz';exact⟨j,hf.1,hf.2,rfl,(oq9 hz').symm⟩
   ·cases hz'
  obtain⟨j,f1,f2,f3,rfl⟩:=key;refine⟨y.v,y.d,ds,y.as,bs,xs,j,rfl,RepO.wk ir,c1,c2,f1,f2,f3,?_⟩;have i7:q=true->kj H H2:=λhq=>v3 (sm hq) (fj rfl)
  exact k _ _ rfl ⟨.dp,.int j,.int j,[]⟩ L2 H2 rfl rfl m2 (w2.consPu (x:=⟨.dp,.int j,.int j,[]⟩) (show RepL Z.K H2 false (.int j) (.int j) []from KJ) rfl) (K5 (x:=⟨.dp,.int j,.int j,[]⟩) (st.trans bn) (λb hb=>nomatch hb) rfl) λhq=>⟨i7 hq,λ_ z=>(nomatch z)⟩
 have wkA:∀{ds:List D} {xs:List V} {bs:List Addr} {H2:Hp},RepA Z.K H2 (x.o != .dp) ds xs bs->RepA Z.K H2 true ds xs bs:=fun {ds xs bs H2} r=>by
  cases ho:(x.o != .dp)with
  |true=>rw[ho]at r;exact r
  |false=>rw[ho]at r;exact r.wk
 cases hx:x.d with
 |lst ds=>
  obtain⟨l,xs,bs,ev,q3,r3,h3,_⟩:=items ok (.inl hx);have q3:LsR Z.K H1 l xs:=by rcases q3 with⟨_,z⟩|⟨z,_⟩;exact z;rw[hx]at z;cases z
  refine .inl ⟨l,xs,ev,q3,fin (.inl hx) _ λH2 ir=>?_⟩;obtain⟨l2,ys,cs,ev2,q4,r4,_⟩:=items ir (.inl hx);have:l2=l:=by have:=ev2.symm.trans ev;exact V.ref.inj this
  subst this;rcases q4 with⟨_,z⟩|⟨z,_⟩
  ·exact⟨ys,cs,z,wkA r4⟩
  ·rw[hx]at z;cases z
 |tup ds=>
  obtain⟨l,xs,bs,ev,q3,r3,h3,_⟩:=items ok (.inr hx);have q3:SqT Z.K H1 l xs:=by rcases q3 with⟨z,_⟩|⟨_,z⟩;rw[hx]at z;cases z;exact z
  refine .inr ⟨l,xs,ev,q3,fin (.inr hx) _ λH2 ir=>?_⟩;obtain⟨l2,ys,cs,ev2,q4,r4,_⟩:=items ir (.inr hx);have:l2=l:=by have:=ev2.symm.trans ev;exact V.ref.inj this
  subst this;rcases q4 with⟨z,_⟩|⟨_,z⟩
  ·rw[hx]at z;cases z
  ·exact⟨ys,cs,z,wkA r4⟩
 |_=>rw[<-e2,hx]at hsq;cases hsq
end
noncomputable def Ite(K:PySem.W.Frag)(l:Addr):It:=⟨λi H=>∃xs x,SqL K H l xs/\xs[i]?=some x,
 λi H v H'=>∃T x,H T=none/\v=.ref T/\H'=upd H T (.tup [.int i,x])/\∀xs,SqL K H l xs->xs[i]?=some x,
 λi H=>∃xs,SqL K H l xs/\xs.length<=i⟩
theorem qqo{P:Program}{w:PySem.World}{K:PySem.W.Frag}{gq:List Expr}{k1:Nat}{pos:Pos}{e it l:Addr}(n1:e≠it)(n2:l≠e)(n3:l≠it):
  Turn P w K (.Tuple gq k1 pos) (Ite K l) [e,it] e (λi h=>(∃ia,IsEnum h e it (i:Int) ia)/\h.IsListIter it l i) where
 mem:=by simp
 obj:=λi h st b hb=>by
  obtain⟨⟨ia,h1⟩,o4,e4,c4,d4⟩:=st;simp only[Yc,Xv,or_false]at hb;rcases hb with rfl|rfl
  ·exact⟨_,h1,λv z=>by cases z⟩
  ·exact⟨_,e4,λv z=>by rw[d4]at z;cases z⟩
 keep:=λi h h' st k=>by
  obtain⟨⟨ia,h1⟩,o4,e4,c4,d4⟩:=st;exact⟨⟨ia,k _ (by simp) _ h1⟩,o4,k _ (by simp) _ e4,c4,d4⟩
 item:=by
  intro X hP hw hK hc i pins s σ H E I hf st hg;subst hP hw hK;obtain⟨xs,x,q1,hx⟩:=hg;obtain⟨qo,rv1,p1,hz1⟩:=I.list q1;obtain⟨u1,hu1,ru1⟩:=rv1.get hx;obtain⟨⟨ia,t1⟩,t2⟩:=st;refine wpAny_pyNext_enum_item t1 t2 p1.isList (x:=u1) (by simpa using hu1) n1 λh1 g1 g2 gT gs gk=>?_
  refine⟨_,rfl,wpAny_letOwnedTupleGo_enum (s:={ s with heap:=h1,toks:=s.toks+1 }) g1 λh2 f1 sb=>?_⟩;have fT:ww X pins H s.heap.objs.size:=I.fpOk (X9 _) (I.hok.fresh (X9 _));have nT:∀b∈[e,it],b≠s.heap.objs.size:=λb hb ee=>by
   obtain⟨o,eo,_⟩:∃o,s.heap.get? b=some o/\True:=by
    simp only[Yc,Xv,or_false]at hb;obtain⟨o4,e4,_⟩:=t2;rcases hb with rfl|rfl
    ·exact⟨_,t1,trivial⟩
    ·exact⟨_,e4,trivial⟩
   exact absurd (Xj eo) (by rw[ee];exact Yl _)
  have kk:∀b o,b∉[e,it]->s.heap.get? b=some o->h2.get? b=some o:=λb o hb ee=>by
   simp only[Yc,Xv,or_false,not_or]at hb;exact(sb.2 b hb.1).trans (gk b o hb.1 hb.2 ee)
  have I1:L2.Inv X pins σ H { s with heap:=h2,toks:=s.toks+1 }:=kjv [e,it] I kk hf;have nz:s.heap.objs.size≠e:=λee=>nT e (by simp) ee.symm
  have I2:=kwy (a:=s.heap.objs.size) (o:=.tup [.int (i:Int),x]) I1 fT.1 fT.2.1 fT.2.2.2.1 fT.2.2.2.2.1 fT.2.2.2.2.2
   (show ObjOk X.prog X.w _ h2 _ (.tup [.int (i:Int),x])from⟨by show(2:Nat)<=sizeLine;decide,[.int i s.toks,u1],.cons ⟨_,rfl⟩ (.cons ru1 .nil),⟨_,(sb.2 _ nz).trans gT,rfl,rfl,0,rfl⟩⟩)
  refine⟨.ref s.heap.objs.size,_,I2,rfl,⟨_,x,fT.1,rfl,rfl,λzs hzs=>by rw[I.list_inj hzs q1];exact hx⟩,?_,λb hb=>by rw[kJ (nT b hb)];exact(hf b hb).1⟩;exact⟨⟨u1,f1⟩,g2.at λo ee=>(sb.2 _ n1.symm).trans ee⟩
 done:=by
  intro X hP hw hK hc i pins s σ H E I hf st hg;subst hP hw hK;obtain⟨xs,q1,hx⟩:=hg;obtain⟨qo,rv1,p1,hz1⟩:=I.list q1;obtain⟨⟨ia,t1⟩,t2⟩:=st;have hl1:=rv1.length;refine wpAny_pyNext_enum_end (I.ok.hd hc) t1 t2 p1.isList (by simp;omega) λh' kk=>⟨rfl,?_⟩
  refine kjv (t':=s.toks) [it] I (λb o hb ee=>kk b o (by simpa using hb) ee) λb hb=>hf b (by
   simp only[Yc,Xv,or_false]at hb ⊢;exact .inr hb)
 self:=λ_ _ _ _ _ st h=>by obtain⟨⟨ia,h1⟩,_⟩:=st;exact wpAny_pyIter_enum h1 h
abbrev wwj(K:PySem.W.Frag)(ta:TA):TI:=fun σ H R=>ta σ H λvs H1=>∃l,vs=[.ref l]/\(∃xs,SqL K H1 l xs/\(xs.length<=sizeLine->R (Ite K l) H1))
theorem kxf:bootBuiltins "enumerate"=some (.type "enumerate"):=boot_enumerate
section
variable {X:Cx}{Z:Fx0}{K:PySem.W.Frag}{pn:List Nat}{q qa qb:Bool}{a b c:Ex}{u:Ts}{tg e ea eb:Expr}{st:Stmt}{σ:L2.St}{H:Hp}{L:Ls}{E:En}{pos p p2 jh:Pos}{x:Str}{gq:List Expr}{k1:Nat}
theorem vvv(K:PySem.W.Frag){ta:TA}(hg:Gl X "enumerate")(hm:X.mg "enumerate"=none)(ha:PA X [e] ta)(hK:autoParam (X.K=K) Ŕ)
  (hs:autoParam (starEach [e] X.env=[(false,eval e X.env)]) Ŕ):PI X (.Tuple gq k1 jh) (.Call (.Name "enumerate" p) [e] [] pos) (wwj K ta):=by
 subst hK;intro pins s σ H R I h;refine Call_ (Qj I hg hm kxf (Y8 (thn (ha pos pins s σ H _ I h) λus s1 ⟨vs,H1,I1,r1,q1⟩=>?_) (by rw[hs];rfl) rfl));obtain⟨l,rfl,xs,q1,q⟩:=q1;obtain⟨u1,rfl,e1⟩:=z9 r1;cases e1;obtain⟨qo,rv1,p1,hz1⟩:=I1.list q1;have lt:l<s1.heap.objs.size:=by obtain⟨_,ee,_⟩:=p1.isList;exact Xj ee
 refine call_enumerate_list p1.isList λh' g1 g2 gs gk=>?_
 refine wpAny_pyIter_enum g1 ⟨_,[_,s1.heap.objs.size],_,_,H1,rfl,I1.kept (t':=s1.toks) gk,
  qqo (e:=s1.heap.objs.size+1) (it:=s1.heap.objs.size) (l:=l) (Nat.succ_ne_self _) (Y1 (Nat.lt_succ_of_lt lt)) (Y1 lt),⟨⟨_,g1⟩,g2⟩,λb hb=>?_,q hz1⟩
 have gf:s1.heap.objs.size<=b:=by
  simp only[Yc,Xv,or_false]at hb;rcases hb with rfl|rfl<;>omega
 exact I1.fpOk gf (I1.hok.fresh gf)
theorem jxj:∀(ds:List D) (k:Nat),(xx k ds).length=ds.length
 |[],_=>rfl
 |d::ds,k=>by rw[xx,Xn,Xn,jxj ds]
theorem kx6:∀(ds:List D) (k i:Nat),(xx k ds)[i]?=(ds[i]?).map λd=>.tup [.int ((k+i:Nat):Int),d]
 |[],_,_=>by simp[xx]
 |d::ds,k,0=>by simp[xx]
 |d::ds,k,i+1=>by
  rw[xx,List.getElem?_cons_succ,List.getElem?_cons_succ,kx6 ds,show k+1+i=k+(i+1)from by omega]
theorem qwk{x:Sl}{es:List D}{l:Addr}{H1:Hp}(hx:x.d=.lst es)(ev:x.v=.ref l):∀H2:Hp,x.let.ok K H2->∃ys cs,SqL K H2 l ys/\RepA K H2 true es ys cs/\∀b∈cs,b∈x.as:=λH2 hok=>by
 obtain⟨a',ys,cs,su,q4,r4,h4,_⟩:=items hok (.inl hx);have:a'=l:=by have:=su.symm.trans ev;exact V.ref.inj this
 subst this;rcases q4 with⟨_,z⟩|⟨z,_⟩
 ·exact⟨ys,cs,z.sq,r4,h4⟩
 ·rw[show x.let.d=D.lst es from hx]at z;cases z
theorem vj1{H2:Hp}{T:Addr}{d1 d2:D}{v1 v2:V}{b1 b2:List Addr}(hT:H2 T=none)(r1:RepL K H2 true d1 v1 b1)(r2:RepL K H2 true d2 v2 b2):RepL K (upd H2 T (.tup [v1,v2])) true (.tup [d1,d2]) (.ref T) (b1++b2):=by
 have sm:kj H2 (upd H2 T (.tup [v1,v2])):=wJ hT;unfold RepL;refine⟨T,[v1,v2],rfl,.inl (.inl wV),?_⟩;unfold RepA;refine⟨v1,[v2],b1,b2,rfl,rfl,r1.kp (Kp.of_same sm),?_⟩;unfold RepA;refine⟨v2,[],b2,[],rfl,by simp,r2.kp (Kp.of_same sm),?_⟩;unfold RepA;exact⟨rfl,rfl⟩
theorem vks(h:QE X Z q c e)(hg:Gl X "enumerate")(hm:X.mg "enumerate"=none)(hK:autoParam (X.K=Z.K) Ŕ)(hs:autoParam (starEach [e] X.env=[(false,eval e X.env)]) Ŕ):QI X Z q (.Tuple gq k1 jh) (wkr c) (.Call (.Name "enumerate" p) [e] [] pos):=λpins s σ H R I ay=>ex8 ay λE L r m w hc xc k=>by
 refine(vvv Z.K hg hm (wv h xj hs) hK hs) pins s σ H R I ?_;refine VX m w (show bnd (c E) _=some r from hc) xc λE1 s h1 x L1 H1 e1 e2 m1 w1 st sm=>?_
 obtain⟨ds,hd,rfl⟩:=Q6 h1;have ok:=w1.head;have wT:World Z.K H1 (L1++[x.let].map some):=by
  refine World.comm (L:=[some x.let]) ?_;exact w1.tail.consNo (Qq ok) rfl λb hb=>w1.apart b hb
 have sT:Step H L H1 (L1++[x.let].map some):=by
  refine⟨st.keep,λb hb=>?_,λb hb=>?_⟩
  ·have:b∈j7 L1:=by simpa [V7]using hb
   exact st.own b (by rw[jz];exact lr9 _ this)
  ·have:b∈jW L1\/b∈x.as:=by simpa [V7]using hb
   rcases this with z|z
   ·exact st.frz b (by rw[qk];exact lr9 _ z)
   ·exact jzv st b z
 cases hx:x.d with
 | lst es=>
  rw[<-e2,hx]at hd;have lz:xx 0 es=ds:=oq9 hd;subst lz;obtain⟨a,xs,bs,ev,q3,r3,h3,_⟩:=items ok (.inl hx);have q3:LsR Z.K H1 a xs:=by rcases q3 with⟨_,z⟩|⟨z,_⟩;exact z;rw[hx]at z;cases z
  have bz:=qwk (K:=Z.K) (H1:=H1) hx ev;refine⟨a,by rw[ev],xs,q3.sq,λav=>k _ _ rfl (Ite Z.K a) [x.let] L1 H1 m1 wT sT (by rw[jxj,r3.len];exact av) (λhq=>(sm hq).1) ⟨λt ht=>by rw[List.mem_singleton.mp ht];rfl,λi H2 hok hi=>?_,λH2 hok=>?_,λi H2 v H3 d hok hy ix=>?_⟩⟩
  ·obtain⟨ys,cs,s1,s2,_⟩:=bz H2 (hok _ (List.mem_singleton.mpr rfl));have hl:=s2.len;rw[jxj]at hi;exact⟨ys,ys[i]'(by omega),s1,X1 (by omega)⟩
  ·obtain⟨ys,cs,s1,s2,_⟩:=bz H2 (hok _ (List.mem_singleton.mpr rfl));exact⟨ys,s1,by rw[jxj,s2.len];exact X9 _⟩
  ·obtain⟨ys,cs,s1,s2,s3⟩:=bz H2 (hok _ (List.mem_singleton.mpr rfl));obtain⟨T,x',hT,rfl,rfl,hy⟩:=hy;rw[kx6]at ix;cases hes:es[i]? with
   |none=>rw[hes]at ix;cases ix
   |some d0=>
    rw[hes]at ix;cases oq9 ix;obtain⟨v',df,f1,f2,f3⟩:=s2.get hes;have:v'=x':=by have:=hy ys s1;rw[f1]at this;exact oq9 this
    subst this;have rp:=vj1 (v1:=.int ((0+i:Nat):Int)) hT KJ f2;rw[show((0+i:Nat):Int)=(i:Int)from by omega]at rp ⊢;exact⟨⟨.no,_,.ref T,[]++df⟩,rfl,rfl,rfl,wJ hT,rp,λb hb=>⟨x.let,List.mem_singleton.mpr rfl,s3 b (f3 b (by simpa using hb))⟩⟩
 |_=>rw[<-e2,hx]at hd;cases hd
end
end Q
namespace L3
open PySem PySem.Spec PyProof.Rows L2
noncomputable def tX(X:Cx)(x:Addr):Cx:={ X with A:=X.A.mark (some (.ref x)),calm:=false,xe:=λ_ _=>False }
abbrev exO(o:Obj):HO:=.frz o (.ext λ_=>True)
section
variable {X:Cx}{pins:List (Addr×Obj)}{σ:L2.St}{H:Hp}{s:Shared}{x:Addr}{ox:Obj}
theorem qjx(I:Inv X pins σ H s):Inv (tX X x) pins σ H s:=
 ⟨⟨I.ok.mod,I.ok.kind,I.ok.glob,I.ok.blt,I.ok.above,I.ok.inj,I.ok.has,I.ok.cab,λz=>(by cases z),I.ok.frames,I.ok.stk,I.ok.exf,I.ok.bs,I.ok.bsz,I.ok.noex,I.ok.exfs,I.ok.funs,I.ok.frf⟩,I.os,I.bare,I.base,I.loc,I.cell,I.free,I.freeC,I.pin,I.hok,I.len⟩
theorem qwz(ok:X.Ok)(I:Inv (tX X x) pins σ H s):Inv X pins σ H s:=⟨ok,I.os,I.bare,I.base,I.loc,I.cell,I.free,I.freeC,I.pin,I.hok,I.len⟩
theorem vws(I:Inv X pins σ H s)(e:s.heap.get? x=some ox)(f:FpX X pins H x):Inv X pins σ (upd H x (exO ox)) s:=by
 obtain⟨hn,f1,f2,f3,f4,f5⟩:=f;refine⟨I.ok,I.os,I.bare,⟨I.base.keep,I.base.slot,λb o q n hx=>?_,I.base.there,λb xs q=>?_,λb o u q=>?_,λb ps q=>?_⟩,I.loc,I.cell,?_,λy c q=>?_,λp hp=>?_,λb u q=>?_,I.len⟩
 ·have hb:b≠x:=by
   rintro rfl;rcases f3 with z|z
   ·exact hx z
   ·rw[z]at q;cases q
  rw[kJ hb];exact I.base.free b o q n hx
 ·have:=I.base.tups b xs q;rw[kJ (xk this hn)];exact this
 ·have:=I.base.frzs b o u q;rw[kJ (xk this hn)];exact this
 ·obtain⟨ic,this⟩:=I.base.tbls b ps q;exact⟨ic,by rw[kJ (xk this hn)];exact this⟩
 ·rw[kJ (Ne.symm f1)];exact I.free
 ·rw[kJ (f4 y c q)];exact I.freeC y c q
 ·obtain⟨a1,a2,a3⟩:=I.pin p hp;exact⟨a1,by rw[kJ (f5 p hp)];exact a2,a3⟩
 ·by_cases hb:b=x
  ·subst hb;rw[wV]at q;cases q;exact⟨e,trivial,⟨_,e⟩,λ_ _ _ _=>trivial⟩
  ·rw[kJ hb]at q;exact(I.hok b u q).stay (λc v _ q=>q) (λc q=>by rw[kJ (xk q hn)];exact q) λc xs q=>by rw[kJ (xk q hn)];exact q
end
abbrev vz2(K:PySem.W.Frag)(UC:Addr)(i:Nat)(tb:XK->TS)(ts:TS):TS:=λD σ H=>∃E:XK,tb E D σ H/\∀x Cv H',E Cv none H'->H' x=none->∃C,Cv=.ref C/\PySem.W.exmOne K (.ref C) (.ref UC)=some true/\XCls K C /\
 ∀o,ExAt K x o C->ts { nx:=fun σ' H''=>D.nx (σ'.set i none) H'',rt:=D.rt,bk:=fun σ' H''=>D.bk (σ'.set i none) H'',ct:=fun σ' H''=>D.ct (σ'.set i none) H'' } (σ.set i (some (.ref x))) (upd H' x (exO o))
theorem vvo{X:Cx}{ux n:Str}{np fm pos:Pos}{UC:Addr}{i:Nat}{st b0:Stmt}{d8:List Stmt}{tb:XK->TS}{ts:TS}(hN:X.N.Nodup)(hi:X.N[i]?=some n)(hk:X.env.scope.names.lookup n=some .local)(top:xw X)(hU:X.mg ux=some (.ref UC))(hb:PSX X st tb)
  (hs:∀x,PSs (tX X x) (b0::d8) ts) (hg:autoParam (Gl X ux) Ŕ) (cj:autoParam ((ux==("__debug__":Str))=false) ŕ):
  PS X (.Try [st] [.ExceptHandler (some (.Name ux np)) (some n) (b0::d8) fm] [] [] pos) (vz2 X.K UC i tb ts):=by
 intro pins s σ H D I ⟨E,h1,h2⟩;refine wpAny_Try_except (wpAny_execs_cons (Z4 (hb E pins s σ H D I h1) (λf s1 q=>?_) (λe s1 q=>?_)))
 ·cases f with
  |next=>exact Yo (Yo q)
  |ret v=>exact q
  |brk=>exact q
  |cont=>exact q
 ·obtain⟨H',x,Cv,rfl,I1,f1,q1⟩:=q;refine kwp top rfl I1 f1 λL T s2 _ t2=>Vq t2 λs3 t3=>?_
  obtain⟨C,rfl,hm,xc,ht⟩:=h2 x Cv H' q1 t3.fx.1;refine wpAny_handleBy_cons (codeAny_handlers_test ?_) (λz=>nomatch z);obtain⟨vs,ho,hv⟩:=t3.f.ex;have I3:Inv (tX X x) pins σ H' s3:=qjx t3.inv;refine VW I3 hg hU ?_ cj;have at3:PySem.W.InstAt s3.heap x { cls:=.ref C,data:=.fields vs } C none:=⟨ho,rfl,rfl,trivial⟩;refine Lk (PySem.W.exm_one t3.inv.kIn at3.type hm) ?_;show codeAny _ _ _ _ s3;refine codeAny_handlers_suite_as (Vq t3 λs4 t4=>?_);obtain⟨vs4,ho4,hv4⟩:=t4.f.ex;have I4:Inv (tX X x) pins σ (upd H' x (exO { cls:=.ref C,data:=.fields vs4 })) s4:=qjx (vws t4.inv ho4 t4.fx);refine ZY (X:=tX X x) I4 hN hi (.inl hk) (v:=.ref x) (u:=.ref x) rfl (λs5 I5=>?_) (.inr hk);refine Z4 (hs x pins s5 _ _ _ I5 (ht _ ⟨rfl,rfl,rfl,xc⟩)) (λf s6 q=>?_) λ_ _ z=>z.elim
  have bk:∀{σ6:L2.St} {H6:Hp},Inv (tX X x) pins σ6 H6 s6->Inv X pins σ6 H6 s6:=λz=>qwz I.ok z
  show wpAny _ _ _ _ _ s6;cases f with
  |next=>
   obtain⟨σ6,H6,I6,q6⟩:=q;exact jxd (bk I6) hN hi hk λs7 I7=>⟨_,_,I7,q6⟩
  |brk=>
   obtain⟨σ6,H6,I6,q6⟩:=q;exact jxd (bk I6) hN hi hk λs7 I7=>⟨_,_,I7,q6⟩
  |cont=>
   obtain⟨σ6,H6,I6,q6⟩:=q;exact jxd (bk I6) hN hi hk λs7 I7=>⟨_,_,I7,q6⟩
  |ret v=>
   obtain⟨v',σ6,H6,I6,r6,q6⟩:=q;exact jxd (bk I6) hN hi hk λs7 I7=>⟨v',_,_,I7,r6,q6⟩
noncomputable def wqs(K:PySem.W.Frag):List V->Hp->VK->Prop:=λxs H Q=>∃x o C b,ExAt K x o C/\H x=some (exO o)/\((∃U,xs=[.ref x,.ref U]/\PySem.W.kitOne K (.ref C) (.ref U)=some b)\/∃U,xs=[.ref x,.ty U]/\PySem.W.kitOne K (.ref C) (.type U)=some b)/\Q (.bl b) H
theorem vk6{X:Cx}:CallR X (.builtin "isinstance") (wqs X.K):=by
 intro pins s σ H xs us Q I r ⟨x,o,C,b,a,e,h,q⟩;have px:s.heap.get? x=some o:=(show ObjOk X.prog X.w H s.heap x (exO o)from I.hok x _ e).1;have at_:∃o,PySem.W.InstAt s.heap x o C none:=⟨o,px,a.cls,a.no,by rw[a.di];trivial⟩;rcases h with⟨U,rfl,hk⟩|⟨U,rfl,hk⟩
 ·obtain⟨u1,u2,rfl,e1,e2⟩:=vqq r;cases e1;cases e2;exact PySem.W.kia_one (qjs a.xc) I.kIn at_ hk (λz=>nomatch z) λtk=>⟨.bl b,H,I.tok _,rfl,q⟩
 ·obtain⟨u1,u2,rfl,e1,e2⟩:=vqq r;cases e1;cases(show u2=Value.type U from e2);exact PySem.W.kia_one (qjs a.xc) I.kIn at_ hk (λz=>nomatch z) λtk=>⟨.bl b,H,I.tok _,rfl,q⟩
end L3
namespace Q
open PySem PySem.Spec PyProof.Rows L2 L3
theorem kvo:bootBuiltins "ValueError"=some (.type "ValueError"):=by decide +kernel
theorem vqn{K:PySem.W.Frag}{C:Addr}(ga:PySem.W.findIn K (.ref C) "__getattribute__"=some (some (.builtin "BaseException.__getattribute__")))(gt:PySem.W.findIn K (.ref C) "__getattr__"=some none)(fa:PySem.W.findIn K (.ref C) "__class__"=some (some (.builtin "object.__class__")))
  (fg:PySem.W.specialIn K (.builtin "object.__class__") "__get__"=some (some (.builtin "getset_descriptor.__get__"))) (ft:PySem.W.takesIn K (.builtin "object.__class__")=some true) (ob:PySem.W.mroIn K C (.type "object")=some true) (bx:PySem.W.mroIn K C (.type "BaseException")=some true) (cl:PySem.W.isClsIn K C=true):XCls K C:=
 ⟨ga,gt,by
  obtain⟨cd,hc⟩:=Option.isSome_iff_exists.mp (show(PySem.W.clsIn K C).isSome=true from cl);unfold PySem.W.findObj;rw[hc,Option.bind_some,fa,Option.bind_some];simp[fg,ft],ob,bx,cl⟩
noncomputable def K9(K:PySem.W.Frag)(u:V)(t:List (Str×Bool)):Prop:=∀c b,t.lookup c=some b->∃C,PySem.W.nsIn K mainGlobals c=some (some (.ref C))/\((∃U,u=.ref U/\PySem.W.kitOne K (.ref C) (.ref U)=some b)\/∃U,u=.ty U/\PySem.W.kitOne K (.ref C) (.type U)=some b)
theorem J5{K:PySem.W.Frag}{u:V}:K9 K u []:=λ_ _ z=>nomatch z
theorem qjw{K:PySem.W.Frag}{u:V}{c:Str}{b:Bool}{C:Addr}{t:List (Str×Bool)}(h:PySem.W.nsIn K mainGlobals c=some (some (.ref C)))(k:(∃U,u=.ref U/\PySem.W.kitOne K (.ref C) (.ref U)=some b)\/∃U,u=.ty U/\PySem.W.kitOne K (.ref C) (.type U)=some b)(r:K9 K u t):K9 K u ((c,b)::t):=λc' b' z=>by
 rw[Yt]at z
 split at z
 ·rename_i e;cases eq_of_beq e;cases z;exact⟨C,h,k⟩
 ·exact r c' b' z
theorem K4{K:PySem.W.Frag}{c:Str}{b:Bool}{C U:Addr}{t:List (Str×Bool)}(h:PySem.W.nsIn K mainGlobals c=some (some (.ref C)))(k:PySem.W.kitOne K (.ref C) (.ref U)=some b)(r:K9 K (.ref U) t):K9 K (.ref U) ((c,b)::t):=qjw h (.inl ⟨U,rfl,k⟩) r
theorem wks{K:PySem.W.Frag}{c:Str}{b:Bool}{C:Addr}{U:String}{t:List (Str×Bool)}(h:PySem.W.nsIn K mainGlobals c=some (some (.ref C)))(k:PySem.W.kitOne K (.ref C) (.type U)=some b)(r:K9 K (.ty U) t):K9 K (.ty U) ((c,b)::t):=qjw h (.inr ⟨U,rfl,k⟩) r
theorem wqj{K:PySem.W.Frag}{u:V}{t:List (Str×Bool)}(ht:K9 K u t):Ad1 K (λv H Q=>wqs K [v,u] H Q) (pu1 (wY t)):=by
 intro H x s Q ok hf k;have ok:=RepO.wk ok;unfold pu1 at hf;obtain⟨o,d,v,as⟩:=x;cases d with
 | obj c fs=>
  unfold wY at hf;cases hl:t.lookup c with
  |none=>simp only[hl]at hf;cases hf
  |some b=>
   simp only[hl]at hf;cases oq9 hf;dsimp only at ok;unfold RepL at ok;obtain⟨e0,x,ob,C,rfl,h1,h2,h3⟩:=ok;obtain⟨C',h4,h5⟩:=ht c b hl;rw[h3]at h4;cases oq9 (oq9 h4);refine⟨x,ob,C,b,h2,h1,?_,k ⟨.dp,.bl b,.bl b,[]⟩ H rfl rfl x8⟩;rcases h5 with⟨U,rfl,h5⟩|⟨U,rfl,h5⟩
   ·exact .inl ⟨U,rfl,h5⟩
   ·exact .inr ⟨U,rfl,h5⟩
 |_=>cases hf
section
variable {X:Cx}{Z:Fx0}{pn:List Nat}{q:Bool}{a b c:Ex}{e ea eb:Expr}{es:List Expr}{pos p p2:Pos}{t:List (Str×Bool)}{y:Str}{u:V}
theorem J9(ha:QV X Z q a ea)(hm:X.mg "isinstance"=none)(hu:PE X (.Name y p2) (tC u))(hK:X.K=Z.K)(ht:K9 X.K u t)(hg:autoParam (Gl X "isinstance") Ŕ)
  (he:autoParam (starEach [ea,.Name y p2] X.env=(false,eval ea X.env)::starEach [.Name y p2] X.env) Ŕ) (he2:autoParam (starEach [.Name y p2] X.env=(false,eval (.Name y p2) X.env)::starEach [] X.env) Ŕ) (be:autoParam ((backTo pos (starEach [.Name y p2] X.env)).any (·.1)=false) Ŕ):
  QE X Z q (cF1 (pu1 (wY t)) a) (.Call (.Name "isinstance" p) [ea,.Name y p2] [] pos):=by
 rw[hK]at ht;have hc:CallR X (.builtin "isinstance") (wqs Z.K):=hK▸vk6;exact qz (kv1 hc hg hm kvn (wv ha (wv hu xj he2) he) (by decide) (by decide) he be) fun σ H Q h=>kvr (r:=λv H Q=>wqs Z.K [v,u] H Q) (wqj ht) h
theorem vv9{x:Str}{C:Addr}{z:Str}{np aq:Pos}(c:ECls X.K X.mg x C)(hm:Z.mg x=some (.ref C))(g:xv X Z.EX)(hz:PE X e (tC (.str z)))(hg:autoParam (Gl X x) Ŕ)(hc:autoParam (X.calm=true) Ŕ)(cj:autoParam ((x==("__debug__":Str))=false) ŕ)
  (he:autoParam (starEach [e] X.env=(false,eval e X.env)::starEach [] X.env) Ŕ) (be:autoParam (((backTo aq (starEach [e] X.env)).any (·.1))=false) Ŕ):
  QS X Z pn (sRz x) (.Raise (some (.Call (.Name x np) [e] [] aq)) none pos):=xX (vj5 c g (wv hz xj he) hg hc cj he be) λD σ H ay=>ex7 ay λE L r m w hr k=>by
 cases oq9 hr;exact⟨show(1:Nat)<=sizeLine by decide,k C σ L H hm Pn.refl m w Step.refl⟩
noncomputable def QEX(X:Cx)(Z:Fx0)(q:Bool)(c:Ex)(e:Expr):Prop:=PEX X e λEX=>tQ ⟨Z.K,Z.mg,EX⟩ q c
theorem vvw{t t':XK->TE}(h:PEX X e t)(w:∀E σ H Q,t' E σ H Q->t E σ H Q):PEX X e t':=λE pins s σ H Q I q=>h E pins s σ H Q I (w E σ H Q q)
theorem qvk{k n:Nat}{x:Str}{ps:List Str}{f:Fn}{cs:List Ex}(D:kW X.prog X.w X.K X.mg X.base k x ps (spF Z.K Z.mg n f))(hr:Room k X.A)(ha:QA X.nox ⟨Z.K,Z.mg,λ_ _ _=>False⟩ q cs (e::es))(hn:autoParam (cs.length=n) Ŕ)(hg:autoParam (Gl X x) Ŕ)(cj:autoParam ((x==("__debug__":Str))=false) ŕ)
  (he:autoParam (starEach (e::es) X.env=(false,eval e X.env)::starEach es X.env) Ŕ) (be:autoParam ((backTo pos (starEach es X.env)).any (·.1)=false) Ŕ):
  QEX X Z false (K0 f cs) (.Call (.Name x p) (e::es) [] pos):=vvw (vj9 D hr ha hg cj he be) λEX σ H Q ay=>ex8 ay λE L r m w hc xc kk=>by
 have hc:K0 f cs E=some r:=hc;unfold K0 at hc
 split at hc
 ·rename_i E1 ys hA;refine⟨E,L,_,m,w,hA,(λ_ _ z=>by cases z),λE' ys' z xs L1 H1 e1 m1 w1 st sm=>?_⟩;injection z with z1 z2;subst z1 z2;show spF _ _ _ _ _ _ _ _;rw[Xr];have av:xs.length=n:=by
   rw[<-hn];have:ys.length=cs.length:=jw6 hA;rw[<-this,<-e1,X5]
  cases hf:f (letAll ys)with
  | none=>rw[hf]at hc;cases hc
  | some fr=>
   rw[hf]at hc;obtain⟨wl,sl⟩:=jw9 w1;have ev:xs.map Sl.v=(xs.map Sl.let).map Sl.v:=by rw[Y9];rfl
   rw[ev];refine⟨xs.map Sl.let,fr,rfl,by rw[X5];exact av,wl.left,by rw[<-e1]at hf;rw[kvd];exact hf,λE' c ee C H' hm s'=>?_,λE' a ee y H' e2 e3 w' s'=>?_⟩
   ·subst ee;cases oq9 hc;obtain⟨w2,s2⟩:=stay wl s' ⟨λ_ z=>(nomatch z),Xs,λ_ z=>(nomatch z)⟩;exact xc _ _ rfl C L1 H' hm m1 w2 ((st.trans sl).trans s2)
   ·subst ee;cases oq9 hc;obtain⟨w2,s2⟩:=stay wl s' w';exact kk _ _ rfl y L1 H' e2 e3 m1 w2 ((st.trans sl).trans s2) λhq=>nomatch hq
 ·cases hc
theorem Mt.unset:∀{E:En} {σ:L2.St} {L:Ls} (i:Nat),Mt E σ L->Mt (E.set i none) (σ.set i none) (L.set i none)
 |_,_,_,_,.nil=>.nil
 |_,_,_,0,.un m=>.un m
 |_,_,_,0,.cons m=>.un m
 |_,_,_,i+1,.un m=>.un (Mt.unset i m)
 |_,_,_,i+1,.cons m=>.cons (Mt.unset i m)
theorem XZ:∀(L:Ls) (i:Nat),(sls (L.set i none)).Sublist (sls L)
 |[],_=>Yy _
 |none::L,0=>Yy _
 |some x::L,0=>List.Sublist.cons _ (Yy _)
 |none::L,i+1=>XZ L i
 |some x::L,i+1=>List.Sublist.cons_cons _ (XZ L i)
theorem World.unset{K:PySem.W.Frag}{H:Hp}{L:Ls}{i:Nat}(w:World K H L):World K H (L.set i none):=w.sub (XZ L i)
theorem Step.unset{H H':Hp}{L L':Ls}{i:Nat}(s:Step H L H' L'):Step H L H' (L'.set i none):=s.sub (XZ L' i)
theorem World.unset1{K:PySem.W.Frag}{H:Hp}{L:Ls}{x:Sl}{i:Nat}(w:World K H (some x::L)):World K H (some x::L.set i none):=w.sub (List.Sublist.cons_cons _ (XZ L i))
theorem Step.unset1{H H':Hp}{L L':Ls}{x:Sl}{i:Nat}(s:Step H L H' (some x::L')):Step H L H' (some x::L'.set i none):=s.sub (List.Sublist.cons_cons _ (XZ L' i))
noncomputable def VJ(K:PySem.W.Frag)(mg:Str->Option Value)(UC:Addr)(cs:List Str):Prop:=∀c∈cs,∃C,mg c=some (.ref C)/\PySem.W.nsIn K mainGlobals c=some (some (.ref C))/\PySem.W.exmOne K (.ref C) (.ref UC)=some true/\XCls K C
theorem kqm{K:PySem.W.Frag}{mg:Str->Option Value}{UC:Addr}:VJ K mg UC []:=λ_ z=>nomatch z
theorem kkf{K:PySem.W.Frag}{mg:Str->Option Value}{UC C:Addr}{c:Str}{cs:List Str}(e:ECls K mg c C)(h:PySem.W.nsIn K mainGlobals c=some (some (.ref C)))(k:PySem.W.exmOne K (.ref C) (.ref UC)=some true)(r:VJ K mg UC cs):VJ K mg UC (c::cs):=λc' hc=>by
 rcases List.mem_cons.mp hc with rfl|hc
 ·exact⟨C,e.bd,h,k,e.xc⟩
 ·exact r c' hc
theorem qzk{UC:Addr}{i:Nat}{cs:List Str}{B h:Sm}{tb:XK->TS}{D:Ends}{σ:L2.St}{H:Hp}(hK:X.K=Z.K)(ca:VJ X.K Z.mg UC cs)(hp:i∉pn)
  (hb:∀(EX:XK) E L r,Mt E σ L->World Z.K H L->B E=some r->(∀E' c,r=.xc E' c->∀C L' H',Z.mg c=some (.ref C)->Mt E' σ L'->World Z.K H' L'->Step H L H' L'->EX (.ref C) none H')->((∀E' c,r≠.xc E' c)->FlP Z pn D σ H L r)->tb EX D σ H)
  (hr:tS Z pn (K7 cs i B h) D σ H):vz2 X.K UC i tb (tS ⟨Z.K,Z.mg,λ_ _ _=>False⟩ pn h) D σ H:=by
 obtain⟨E,L,r,m,w,hr,k⟩:=hr;have hr:K7 cs i B h E=some r:=hr;cases hB:B E with
 | none=>unfold K7 at hr;rw[hB]at hr;cases hr
 | some rb=>
  refine⟨λCv _ H'=>∃E1 c C L1,rb=.xc E1 c/\Cv=.ref C/\Z.mg c=some (.ref C)/\Mt E1 σ L1/\World Z.K H' L1/\Step H L H' L1,hb _ E L rb m w hB (λE' c e C L' H' hm m' w' st=>⟨E',c,C,L',e,rfl,hm,m',w',st⟩) (λcx=>?_),?_⟩
  ·unfold K7 at hr;rw [hB]at hr;cases rb with
   | xc E1 c1=>exact absurd rfl (cx E1 c1)
   | nx E1=>cases oq9 hr;exact k
   | ct E1=>cases oq9 hr;exact k
   | bk E1=>cases oq9 hr;exact k
   | rt E1 x=>cases oq9 hr;exact k
  ·rintro x Cv H' ⟨E1,c,C,L1,rfl,rfl,hm,m1,w1,gj⟩ hx;unfold K7 at hr;rw [hB]at hr;dsimp only at hr
   by_cases hc:c∈cs
   ·rw[Xa hc]at hr;obtain⟨C',g1,g2,g3,g4⟩:=ca c hc;rw[hm]at g1;cases oq9 g1;refine⟨C,rfl,g3,g4,λo at_=>?_⟩;have sm:kj H' (upd H' x (exO o)):=wJ hx
    let y:Sl:=⟨.no,.obj c [],.ref x,[]⟩
    have wy:World Z.K (upd H' x (exO o)) (some y::L1):=by
     refine World.consPu ⟨λt ht=>RepO.kp (w1.ok t ht) (Kp.of_same sm),w1.nd,w1.ds⟩ ?_ rfl;show RepL Z.K _ true (.obj c []) (.ref x) [];unfold RepL;exact⟨rfl,x,o,C,rfl,wV,hK▸at_,hK▸g2⟩
    have sy:Step H L (upd H' x (exO o)) (some y::L1):=by
     refine⟨λb ob q hn=>sm b ob (gj.keep b ob q hn),λb hb=>gj.own b (by rw[jz]at hb;exact hb),λb hb=>gj.frz b (by rw[qk]at hb;exact hb)⟩
    cases h2:h (E1.set i (some (.no,.obj c [])))with
    | none=>rw[h2]at hr;cases hr
    | some r2=>
     rw[h2]at hr;refine⟨_,_,r2,Qv (x:=y) m1 rfl rfl,wy.set,h2,?_⟩;have sy2:Step H L (upd H' x (exO o)) (L1.set i (some y)):=sy.trans Step.set;have pp:Pn pn σ (σ.set i (some (V.ref x))):=Pn.refl.set hp;cases r2 with
     |nx E2=>
      cases oq9 hr;intro σ' L' H2 p' m' w' cy;exact k _ _ H2 ((pp.trans p').set hp) (Mt.unset i m') w'.unset (sy2.trans cy).unset
     |ct E2=>
      cases oq9 hr;intro σ' L' H2 p' m' w' cy;exact k _ _ H2 ((pp.trans p').set hp) (Mt.unset i m') w'.unset (sy2.trans cy).unset
     |bk E2=>
      cases oq9 hr;intro σ' L' H2 p' m' w' cy;exact k _ _ H2 ((pp.trans p').set hp) (Mt.unset i m') w'.unset (sy2.trans cy).unset
     |rt E2 a2=>
      cases oq9 hr;intro z σ' L' H2 e1 e2 p' m' w' cy;exact k z _ _ H2 e1 e2 ((pp.trans p').set hp) (Mt.unset i m') w'.unset1 (sy2.trans cy).unset1
     |xc E2 c2=>cases hr
   ·rw[Xe hc]at hr;cases hr
theorem vzx{ux n:Str}{np fm jh:Pos}{UC:Addr}{i:Nat}{b0:Stmt}{d8:List Stmt}{cs:List Str}{h:Sm}(hN:X.N.Nodup)(hi:X.N[i]?=some n)(hk:X.env.scope.names.lookup n=some .local)(top:xw X)(hU:X.mg ux=some (.ref UC))(hK:X.K=Z.K)(ca:VJ X.K Z.mg UC cs)(hb:QEX X Z q b e)
  (hs:∀x,QSs (tX X x) ⟨Z.K,Z.mg,λ_ _ _=>False⟩ pn h (b0::d8)) (hp:autoParam (i∉pn) ŕ) (jc:autoParam (swapsWith e none pos.line X.env=pure false) Ŕ) (hg:autoParam (Gl X ux) Ŕ) (cj:autoParam ((ux==("__debug__":Str))=false) ŕ):
  QS X Z pn (K7 cs i (Qz b) h) (.Try [.Expr e pos] [.ExceptHandler (some (.Name ux np)) (some n) (b0::d8) fm] [] [] jh):=
 xX (vvo hN hi hk top hU (qjg hb jc) hs hg cj) λD σ H hr=>qzk hK ca hp (λEX E L r m w hB hx hk=>by
  have hB:ofE (b E) (λE _=>some (.nx E))=some r:=hB;rcases jw2 hB with⟨E1,s,h1,h2⟩|⟨E1,c,h1,rfl⟩
  ·cases oq9 h2;refine⟨E,L,_,m,w,h1,(λ_ _ z=>by cases z),λE' s' z x L' H' e1 e2 m' w' st sm=>?_⟩;injection z with z1 z2;subst z1 z2;exact hk (λ_ _ z=>nomatch z) σ L' H' Pn.refl m' w'.tail (st.trans Step.drop)
  ·exact⟨E,L,_,m,w,h1,(λE' c' e C L' H' hm m' w' st=>by injection e with z1 z2;subst z1 z2;exact hx _ _ rfl C L' H' hm m' w' st),λE' s' z=>by cases z⟩) hr
end
end Q
namespace L3
open PySem PySem.Spec PyProof.Rows L2
structure Room0 (k:Nat)(A:Around):Prop where
 dp:A.depth+3*k+5<recursionLimit
 un:A.units+16*k+200<cLine
theorem vj0{X:Cx}{x:Addr}{k:Nat}(r:Room k X.A):Room0 k (tX X x).A:=⟨r.dp,r.un⟩
theorem Room0.deeper{k:Nat}{A:Around}(r:Room0 (k+1) A)(env:Env):Room0 k (A.deeper env):=⟨by have:=r.dp;show A.depth+1+3*k+5<_;omega,by have:=r.un;show A.units+3+16*k+200<_;omega⟩
theorem Room0.depth{k:Nat}{A:Around}(r:Room0 k A):A.depth<recursionLimit:=by have:=r.dp;omega
abbrev CXn:CXT:=λ_ _ _ _ _ _=>False
noncomputable def cx0(P:Program)(w:PySem.World)(K:PySem.W.Frag)(mg:Str->Option Value)(base:Heap)(N:List Str)(qual:Str)(scope:Scope)(f:Addr)(cd:Value)(A:Around)(outer:List Env)(s:Shared)(H:Hp):Cx:=
 { zw CXn P w K mg base N qual scope f cd A outer s H (λ_ _ _=>False)with calm:=false,xe:=λ_ _=>False }
structure FnOk0 (P:Program)(w:PySem.World)(K:PySem.W.Frag)(mg:Str->Option Value)(base:Heap)(k:Nat)(f:Addr)(fd:FuncData)(ps:List Str)(sp:Sp):Prop where
 len:∀vs H Q E,sp vs H Q E->vs.length=ps.length
 run:∀(A:Around) (outer:List Env) (s:Shared) (H:Hp) (args:Args) (us:List Value) (vs:List V) (Q:VK),Room0 k A->Env0 P w K mg base A outer s H->BindsTo s fd args (ps.zip us)->Vals vs us->sp vs H Q (λ_ _ _=>False) ->
  codeAny (model P w) A (.call (.ref f) args) (CR CXn outer P w H s Q (λ_ _ _=>False)) s
theorem qq8{P:Program}{w:PySem.World}{K:PySem.W.Frag}{mg:Str->Option Value}{base:Heap}{N ps:List Str}{qual:Str}{scope:Scope}{f:Addr}{cd:Value}{A:Around}{outer:List Env}{s s1:Shared}{H:Hp}{us:List Value}{vs:List V}
  (S:FnScope N ps scope) (e0:Env0 P w K mg base A outer s H) (hl:vs.length=ps.length) (r:Vals vs us)
  (x:InCallC s s.heap.objs.size (bindL (envOfC qual scope s.heap.objs.size f cd).kindOf (ps.zip us) λ_=>none) (cellsFrom (s.heap.objs.size+1) scope.names []) (bindC (envOfC qual scope s.heap.objs.size f cd).kindOf (ps.zip us) λ_=>none) s1):
  Inv (cx0 P w K mg base N qual scope f cd A outer s H) [] (L2.start N vs) H s1:=by
 have e1:Env0 P w K mg base { A with handled:=none } outer s H:=⟨e0.frames,e0.mod,e0.bs,e0.bsz,e0.funs,e0.frf,e0.hok,e0.bare⟩;have I:=kwx (CX:=CXn) (E:=λ_ _ _=>False) S rfl e1 hl r x;exact⟨⟨I.ok.mod,I.ok.kind,I.ok.glob,I.ok.blt,I.ok.above,I.ok.inj,I.ok.has,I.ok.cab,λz=>(by cases z),Around.frames_deeper e0.frames,I.ok.stk,I.ok.exf,I.ok.bs,I.ok.bsz,I.ok.noex,I.ok.exfs,I.ok.funs,I.ok.frf⟩,I.os,I.bare,I.base,I.loc,I.cell,I.free,I.freeC,I.pin,I.hok,I.len⟩
theorem wq0{P:Program}{w:PySem.World}{K:PySem.W.Frag}{mg:Str->Option Value}{base:Heap}{k:Nat}{f:Addr}{name qual:Str}{params:Arguments}{body:List Stmt}{scope:Scope}{dV kV ei pm b6 ct oc:Value}{an od:Option Addr}
  {ky:Array (Option Value)} {N ps:List Str} {sp:Sp} (lk:K.lookup f=some ⟨oc,od,.func (PySem.W.fnOf name qual params body scope dV kV ei pm an b6 ct),ky⟩) (gm:PySem.W.codeIn K b6 qual=true) (S:FnScope N ps scope)
  (len:∀vs H Q E,sp vs H Q E->vs.length=ps.length)
  (fc:∀(A:Around) (outer:List Env) (s:Shared) (H:Hp) (vs:List V) (Q:VK),Room0 k (A.deeper (envOfC qual scope s.heap.objs.size f b6))->sp vs H Q (λ_ _ _=>False) ->
   ∃t,PSs (cx0 P w K mg base N qual scope f b6 A outer s H) body t/\t { nx:=λ_ H'=>Q .non H',rt:=Q } (L2.start N vs) H):
  FnOk0 P w K mg base (k+1) f (PySem.W.fnOf name qual params body scope dV kV ei pm an b6 ct) ps sp:=by
 refine⟨len,λA outer s H args us vs Q hr e0 hb r i9=>?_⟩;have hl:=len _ _ _ _ i9;have KX:K.In s.heap:=e0.mod.kin.keeps λb o e=>(e0.bs b o e).1
 have lim:s.heap.NoLimit:=e0.mod.nolimit.keeps λb o e=>(e0.bs b o e).1
 have kl:∀y∈ps.zip us,scope.names.lookup y.1=some .local\/(scope.names.lookup y.1=some .cell/\((cellsFrom (s.heap.objs.size+1) scope.names []).lookup y.1).isSome=true):=λ⟨n,v⟩ hy=>by
  rcases S.par n (List.of_mem_zip hy).1 with q|q
  ·exact .inl q
  ·exact .inr ⟨q,PySem.W.cellsFrom_some _ _ _ (.inl q)⟩
 refine codeAny_call_function hr.depth (KX _ _ lk) rfl S.co S.gen rfl (PySem.W.codeRec_of KX gm) (hb _ _ _ _ ?_);refine wpAny_newFunctionEnv_cells S.kind kl λenv he s1 x=>?_
 subst he;refine⟨lim.keeps x.toInCall.keep,codeAny_func ?_⟩;obtain⟨t,ht,hq⟩:=fc A outer s H vs Q (hr.deeper _) i9;have I:Inv (cx0 P w K mg base N qual scope f b6 A outer s H) [] (L2.start N vs) H s1:=qq8 S e0 hl r x;refine Z4 (ht [] s1 (L2.start N vs) H _ I hq) (λfl s' hs=>?_) λe s' hs=>hs.elim
 have fin:∀{σ':L2.St} {H':Hp} {v:V} {u:Value},Inv (cx0 P w K mg base N qual scope f b6 A outer s H) [] σ' H' s'->RelV v u->Q v H'->CE outer P w H s Q u s':=
  fun {σ' H' v u} J rv q=>⟨v,H',J.os,J.bare,J.base,J.hok,rv,q⟩
 cases fl with
 |ret u=>
  obtain⟨v,σ',H',J,rv,q⟩:=hs;exact fin J rv q
 |next=>
  obtain⟨σ',H',J,q⟩:=hs;exact fin (v:=V.non) (u:=Value.none) J rfl q
 |brk=>
  obtain⟨_,_,_,q⟩:=hs;exact False.elim q
 |cont=>
  obtain⟨_,_,_,q⟩:=hs;exact False.elim q
section
variable {X:Cx}{k:Nat}{f:Addr}{fd:FuncData}{ps:List Str}{sp:Sp}{iy:List V}{ds:List Value}{x:Str}{p pos:Pos}{e:Expr}{es:List Expr}{t:TA}
theorem vv3{pins:List (Addr×Obj)}{σ:L2.St}{H:Hp}{s:Shared}{Q:VK}{us:List Value}{vs:List V}(F:FnOk0 X.prog X.w X.K X.mg X.base k f fd ps sp)(hr:Room0 k X.A)(hb:Binds X.K fd ps ds)(hd:Vals iy ds)
  (I:Inv X pins σ H s) (r:Vals vs us) (h:sp (vs++iy) H Q (λ_ _ _=>False)):wpAny (model X.prog X.w) X.A (call (.ref f) us) (EP X pins σ Q) X.xe s:=by
 have r2:Vals (vs++iy) (us++ds):=r.append hd;have hl:(us++ds).length=ps.length:=by rw[<-r2.length];exact F.len _ _ _ _ h
 refine wpAny_call (codeAny_mono (F.run X.A X.stack s H ⟨us,[]⟩ (us++ds) (vs++iy) Q hr I.env0 (hb s us I.kIn hl) r2 h) λr s' hq=>?_);cases r with
 |error e=>exact False.elim hq
 |ok fl=>
  cases fl with
  |ret u=>exact I.after hq
  |next=>exact False.elim hq
  |brk=>exact False.elim hq
  |cont=>exact False.elim hq
noncomputable def wv7(P:Program)(w:PySem.World)(K:PySem.W.Frag)(mg:Str->Option Value)(base:Heap)(k:Nat)(x:Str)(ps:List Str)(sp:Sp):Prop:=
 ∃(f:Addr) (fd:FuncData),FnOk0 P w K mg base k f fd ps sp/\Binds K fd ps []/\PySem.W.keepIn K (.ref f)=true/\mg x=some (.ref f)
theorem wjp(D:wv7 X.prog X.w X.K X.mg X.base k x ps sp)(hr:Room0 k X.A)(ha:PA X (e::es) t)(hg:autoParam (Gl X x) Ŕ)(cj:autoParam ((x==("__debug__":Str))=false) ŕ)
  (he:autoParam (starEach (e::es) X.env=(false,eval e X.env)::starEach es X.env) Ŕ) (be:autoParam ((backTo pos (starEach es X.env)).any (·.1)=false) Ŕ):
  PE X (.Call (.Name x p) (e::es) [] pos) (qzm sp [] (λ_ _ _=>False) t):=by
 obtain⟨f,fd,F,hb,kp,m⟩:=D;intro pins s σ H Q I h;refine Yu (VW I hg m ?_ cj);refine PySem.W.callWith_K (h₀:=X.base) I.ok.mod.kin kp (thn (ha pos pins s σ H _ I h) λus s1 ⟨vs,H1,I1,r,q⟩=>⟨I1.kIn,?_⟩) he be;exact vv3 F hr hb .nil I1 r q
end
theorem vxo{P:Program}{w:PySem.World}{K:PySem.W.Frag}{mg:Str->Option Value}{base:Heap}{x qual:Str}{st:Stmt}{f:Addr}{fd:FuncData}{N ps:List Str}{k:Nat}{sp:Sp}(F:Fun K x qual st f fd)(S:FnScope N ps (k8 st))(len:∀vs H Q E,sp vs H Q E->vs.length=ps.length)
  (fc:∀(b6:Value) (A:Around) (outer:List Env) (s:Shared) (H:Hp) (vs:List V) (Q:VK),Room0 k (A.deeper (envOfC qual (k8 st) s.heap.objs.size f b6))->sp vs H Q (λ_ _ _=>False) ->
   ∃t,PSs (cx0 P w K mg base N qual (k8 st) f b6 A outer s H) (zQ st) t/\t { nx:=λ_ H'=>Q .non H',rt:=Q } (L2.start N vs) H):FnOk0 P w K mg base (k+1) f fd ps sp:=by
 obtain⟨oc,od,kV,ei,pm,an,b6,ct,ky,rfl,lk,gm⟩:=F.ex;exact wq0 lk gm S len λA outer s H vs Q hr i9=>fc b6 A outer s H vs Q hr i9
end L3
namespace Q
open PySem PySem.Spec PyProof.Rows L2 L3
section
variable {X:Cx}{Z:Fx0}{q:Bool}{cs:List Ex}{e:Expr}{es:List Expr}{pos p:Pos}{x:Str}{ps:List Str}{k n:Nat}{f:Fn}
theorem vve(D:wv7 X.prog X.w X.K X.mg X.base k x ps (spF Z.K Z.mg n f))(hr:Room0 k X.A)(ha:QA X ⟨Z.K,Z.mg,λ_ _ _=>False⟩ q cs (e::es))(hn:autoParam (cs.length=n) Ŕ)(hg:autoParam (Gl X x) Ŕ)(cj:autoParam ((x==("__debug__":Str))=false) ŕ)
  (he:autoParam (starEach (e::es) X.env=(false,eval e X.env)::starEach es X.env) Ŕ) (be:autoParam ((backTo pos (starEach es X.env)).any (·.1)=false) Ŕ):
  QE X ⟨Z.K,Z.mg,λ_ _ _=>False⟩ false (jK f cs) (.Call (.Name x p) (e::es) [] pos):=qz (wjp D hr ha hg cj he be) fun σ H Q ay=>ex8 ay λE L r m w hc xc kk=>
 vkg (Z:=⟨Z.K,Z.mg,λ_ _ _=>False⟩) m w (show bnd (v4 cs E) _=some r from hc) xc λE1 ys h1 hl xs L1 H1 e1 m1 w1 st sm=>by
  rw[Xr];have av:xs.length=n:=by rw[<-hn,<-hl,<-e1,X5]
  cases hf:f (letAll ys)with
  | none=>rw[hf]at h1;cases h1
  | some fr=>
   rw[hf]at h1;obtain⟨wl,sl⟩:=jw9 w1;have ev:xs.map Sl.v=(xs.map Sl.let).map Sl.v:=by rw[Y9];rfl
   rw[ev];refine⟨xs.map Sl.let,fr,rfl,by rw[X5];exact av,wl.left,by rw[<-e1]at hf;rw[kvd];exact hf,λE' c ee C H' hm s'=>?_,λE' a ee y H' e2 e3 w' s'=>?_⟩
   ·subst ee;cases oq9 h1;obtain⟨w2,s2⟩:=stay wl s' ⟨λ_ z=>(nomatch z),Xs,λ_ z=>(nomatch z)⟩;exact xc _ _ rfl C L1 H' hm m1 w2 ((st.trans sl).trans s2)
   ·subst ee;cases oq9 h1;obtain⟨w2,s2⟩:=stay wl s' w';exact kk _ _ rfl y L1 H' e2 e3 m1 w2 ((st.trans sl).trans s2) λhq=>nomatch hq
end
end Q
namespace Q
open PySem PySem.Spec PyProof.Rows L2 L3
section
variable {X:Cx}{pins:List (Addr×Obj)}{σ:L2.St}{H:Hp}{s:Shared}{a b:Addr}{es:List Ent}{A:Around}{E:Value->Shared->Prop}{k:Kd}
mutual
theorem jzy(I:Inv X pins σ H s):∀{d:D} {v:V} {u:Value},PuR X.K H d v->RelV v u->jv s.heap d u
 |.non,_,_,h,r=>by unfold PuR at h;rw[h]at r;unfold jv;exact r
 |.int _,_,_,h,r=>by unfold PuR at h;rw[h]at r;unfold jv;exact r
 |.tup ds,_,_,h,r=>by
  unfold PuR at h;obtain⟨a,xs,rfl,q,ra⟩:=h;cases r;obtain⟨ak,rv,p,_⟩:=I.tuple q;unfold jv;exact⟨a,ak,rfl,p,purs_creps I ra rv⟩
 |.bl _,_,_,h,_=>by unfold PuR at h;exact h.elim
 |.str _,_,_,h,_=>by unfold PuR at h;exact h.elim
 |.lst _,_,_,h,_=>by unfold PuR at h;exact h.elim
 |.dct _,_,_,h,_=>by unfold PuR at h;exact h.elim
 |.obj _ _,_,_,h,_=>by unfold PuR at h;exact h.elim
theorem purs_creps(I:Inv X pins σ H s):∀{ds:List D} {xs:List V} {us:List Value},PuRs X.K H ds xs->Vals xs us->CReps s.heap ds us
 | [],_,_,h,r=>by unfold PuRs at h;rw[h]at r;cases r;unfold CReps;rfl
 | d::ds,_,_,h,r=>by
  unfold PuRs at h;obtain⟨x,rr,rfl,h1,h2⟩:=h;cases r with
  |cons r1 r2=>
   unfold CReps;exact⟨_,_,rfl,jzy I h1 r1,purs_creps I h2 r2⟩
end
mutual
theorem vku{K:PySem.W.Frag}{g:Bool}:∀{n:Nat} {d:D} {v:V} {as:List Addr},jZ n d=true->RepL K H g d v as->PuR K H d v
 |_,.non,_,_,_,h=>by unfold RepL at h;unfold PuR;exact h.1
 |_,.int _,_,_,_,h=>by unfold RepL at h;unfold PuR;exact h.1
 |0,.tup _,_,_,hk,_=>by unfold jZ at hk;cases hk
 |n+1,.tup ds,_,_,hk,h=>by
  unfold jZ at hk;unfold RepL at h;obtain⟨a,xs,e,q,ra⟩:=h;unfold PuR;exact⟨a,xs,e,q,purs_of hk ra⟩
 |n,.bl _,_,_,hk,_=>by cases n<;>(unfold jZ at hk;cases hk)
 |n,.str _,_,_,hk,_=>by cases n<;>(unfold jZ at hk;cases hk)
 |n,.lst _,_,_,hk,_=>by cases n<;>(unfold jZ at hk;cases hk)
 |n,.dct _,_,_,hk,_=>by cases n<;>(unfold jZ at hk;cases hk)
 |n,.obj _ _,_,_,hk,_=>by cases n<;>(unfold jZ at hk;cases hk)
theorem purs_of{K:PySem.W.Frag}{g:Bool}:∀{n:Nat} {ds:List D} {xs:List V} {as:List Addr},keyDs n ds=true->RepA K H g ds xs as->PuRs K H ds xs
 |_,[],_,_,_,h=>by unfold RepA at h;unfold PuRs;exact h.1
 |n,d::ds,_,_,hk,h=>by
  unfold keyDs at hk;rw[Bool.and_eq_true]at hk;unfold RepA at h;obtain⟨x,r,bs,cs,rfl,rfl,h1,h2⟩:=h;unfold PuRs;exact⟨x,r,rfl,vku hk.1 h1,purs_of hk.2 h2⟩
end
theorem vqf{ep:Nat}(I:Inv X pins σ H s)(h:H a=some (qK a es ep))(hn:(es.map (·.1)).Nodup)(hk:∀x∈es,PuR X.K H x.1.1 (.ref x.2.1)):s.heap.DictOfH (kzz X.prog X.w) a es:=by
 obtain⟨⟨o,ds,h1,h2,h3,h4⟩,_⟩:=(show ObjOk X.prog X.w H s.heap a (qK a es ep)from I.hok a _ h);exact⟨o,ds,ep,h1,h2,h3,h4,λx hx=>jzy I (hk x hx) rfl,hn⟩
theorem vqi:∀(es:List Ent) (k:Kd),(atKey es k).isSome=decide (k.1∈es.map (·.1.1))
 | [],k=>by simp[atKey]
 | x::es,k=>by
  have ih:=vqi es k
  by_cases h:x.1=k
  ·have:k.1∈(x::es).map (·.1.1):=by rw[<-h];simp
   rw[Xf this];simp[atKey,List.find?_cons,h]
  ·have e1:atKey (x::es) k=atKey es k:=by simp[atKey,List.find?_cons,h]
   have e2:(k.1∈(x::es).map (·.1.1))↔k.1∈es.map (·.1.1):=by
    rw[List.map_cons,Yc];exact⟨λz=>z.elim (λq=>absurd (Subtype.ext q.symm) h) id,.inr⟩
   rw[e1,ih];exact decide_eq_decide.mpr e2.symm
theorem vv4(hu:A.units+64<cLine):(kzz X.prog X.w).room A.in1:=by show A.units+1+40<cLine;omega
end
theorem vqg{K:PySem.W.Frag}{H:Hp}{y:Sl}{kvs:List (D×D)}(ok:y.ok K H)(hd:y.d=.dct kvs)(hu:unm kvs=true):∃a xs,y.v=.ref a/\DcN K H a (kvs.map (·.1)) xs:=by
 have h:=RepO.wk ok;rw[hd]at h;unfold RepL at h;obtain⟨a,xs,bs,e,_,q,_⟩:=h;exact⟨a,xs,e,DcA.un q hu⟩
theorem kqf{K:PySem.W.Frag}{H:Hp}{x:Sl}(ok:x.ok K H)(hk:xY x.d=true):∃b,x.v=.ref b/\PuR K H x.d (.ref b):=by
 unfold xY at hk;rw[Bool.and_eq_true]at hk;have h:=vku hk.1 (RepO.wk ok);cases hd:x.d with
 |tup ds=>
  rw[hd]at h;have h':=h;unfold PuR at h;obtain⟨a,xs,e,_⟩:=h;exact⟨a,e,e▸h'⟩
 |_=>rw[hd]at hk;cases hk.2
theorem vx9{P:Program}{w:PySem.World}{H:Hp}(h:Heap):ObjOk P w H (h.push { cls:=.type "dict",data:=.dict #[] }) h.objs.size (qK h.objs.size [] 0):=
 ⟨⟨_,#[],Xl _ rfl,⟨rfl,rfl,rfl⟩,rfl,rfl⟩,⟨_,Xl _ rfl⟩,λh1 h2 ⟨o,ds,a1,a2⟩ k=>⟨o,ds,k o a1,a2⟩⟩
end Q
namespace Q
open PySem PySem.Spec PyProof.Rows L2 L3
section
variable {K:PySem.W.Frag}{H:Hp}{g:Bool}{k:Kd}{b:Addr}{d:D}{x:V}{r:Value}{cs:List Addr}
theorem kw9{q : D}(hx : RepL K H g d x cs): ∀{kvs : List (D × D)} {xs : List V} {bs : List Addr}, RepP K H g kvs xs bs -> RepP K H g (kvs ++ [(q, d)]) (xs ++ [x]) (bs ++ cs)
  | [], _, _, h=>by
    unfold RepP at h;obtain⟨rfl, rfl⟩:= h;show RepP K H g [(q, d)] [x] cs;unfold RepP;exact⟨x, [], cs, [], rfl, by simp, hx, by unfold RepP; exact⟨rfl, rfl⟩⟩
  | (p, e)::kvs, _, _, h=>by
    unfold RepP at h;obtain⟨y, rr, b1, b2, rfl, rfl, h1, h2⟩:= h;rw[List.cons_append];unfold RepP;exact⟨y, rr ++ [x], b1, b2 ++ cs, rfl, by rw[Xp], h1, kw9 hx h2⟩
theorem kvw:∀{xs:List V} {us:List Value},Vals xs us->RelV x r->Vals (xs++[x]) (us++[r])
 |_,_,.nil,h=>.cons h .nil
 |_,_,.cons a t,h=>.cons a (kvw t h)
end
theorem qvm{K:PySem.W.Frag}{H:Hp}{T L:Ls}{i:Nat}{y:Sl}{l:Addr}{es es':List Ent}{ep ep':Nat}{xs':List V}{bs cs:List Addr}{kvs':List (D×D)}(w:World K H (T++L))(hy:L[i]?=some (some y))(hH:H l=some (qK l es ep))(ho:y.o=.rt)(ha:y.as=l::bs)(hv:y.v=.ref l)
  (r:RepP K H true kvs' xs' cs) (hc:∀a∈cs,a∈bs\/a∈j7 T\/a∈jW T) (hs:(l==sysModules)=false) (h2:es'.length<=sizeLine) (h3:(es'.map (·.1)).Nodup) (h4:kvs'.map (·.1)=es'.map (·.1.1)) (h5:∀n∈es',PuR K H n.1.1 (.ref n.2.1)) (h6:Vals xs' (es'.map (·.2.2))):
  World K (upd H l (qK l es' ep')) (L.set i (some ⟨.rt,.dct kvs',y.v,l::cs⟩))/\Step H (T++L) (upd H l (qK l es' ep')) (L.set i (some ⟨.rt,.dct kvs',y.v,l::cs⟩)):=by
 have hl:l∈y.own:=by unfold Sl.own;rw[ho,ha];simp
 have oL:l∈j7 L:=mem_owned.mpr ⟨y,wQ hy,hl⟩;have oy:l∈j7 (T++L):=by rw[k6];exact lr9 _ oL
 have nd:=w.nd;rw[k6,X7]at nd;have nT:l∉j7 T:=λz=>nd.2.2 l z l oL rfl
 have nF:l∉jW T:=λz=>w.ds l oy (by rw[qv];exact ll9 _ z)
 have nb:l∉bs:=λz=>by
  have:l∈y.frz:=by unfold Sl.frz;rw[ho,ha];exact z
  exact w.ds l oy (by rw[qv];exact lr9 _ (mem_frozen.mpr ⟨y,wQ hy,this⟩))
 have nc:l∉cs:=λz=>by
  rcases hc l z with q|q|q
  ·exact nb q
  ·exact nT q
  ·exact nF q
 have kp:Kp H (upd H l (qK l es' ep')) cs:=by
  have k2:∀a o,H a=some o->a≠l->upd H l (qK l es' ep') a=some o:=λa o e ne=>by rw[kJ ne];exact e
  refine⟨λa zs e=>k2 a _ e λz=>?_,λa o u e=>k2 a _ e λz=>?_,λa ha o e=>k2 a o e λz=>nc (z▸ha)⟩
  ·subst z;rw[hH]at e;cases e
  ·subst z;rw[hH]at e;cases e
 refine World.writeAt w hy hl (y':=⟨.rt,.dct kvs',y.v,l::cs⟩) ⟨l,xs',cs,hv,r.kp kp,.inl ⟨es',ep',wV,hs,h2,h3,h4,λn hn=>PuR.kp kp (h5 n hn),h6⟩,rfl⟩ (by simp[Sl.own]) (λa h=>?_) (λa h=>?_) (λa h z=>?_)
 ·have:a=l:=by simpa [Sl.own]using h
  subst this;exact .inl hl
 ·rcases hc a (by simpa [Sl.frz]using h)with q|q
  ·exact .inl (by rw[ha];exact lc9 _ q)
  ·exact .inr q
 ·have:a=l:=by simpa [Sl.own]using h
  subst this;exact nc (by simpa [Sl.frz]using z)
end Q
namespace Q
open PySem PySem.Spec PyProof.Rows L2 L3
noncomputable def JZ(h:Heap)(a:Addr)(ts:List DictEntry)(ep:Nat):Prop:=∃ob gc,h.get? a=some ob/\ob.ExactDict/\ob.data=.dict gc ep/\gc.toList=ts
theorem vxa{X:Cx}{pins:List (Addr×Obj)}{σ:L2.St}{H:Hp}{s:Shared}{a:Addr}{es:List Ent}{ep:Nat}(I:Inv X pins σ H s)(h:H a=some (qK a es ep)):JZ s.heap a (es.map λx=>(⟨KY x.1.1,.ref x.2.1,x.2.2⟩:DictEntry)) ep:=by
 obtain⟨⟨o,ds,h1,h2,h3,h4⟩,_⟩:=(show ObjOk X.prog X.w H s.heap a (qK a es ep)from I.hok a _ h);exact⟨o,ds,h1,h2,h3,h4⟩
mutual
theorem qv7{K:PySem.W.Frag}{H:Hp}:∀{d:D} {v:V},PuR K H d v->RepL K H true d v []
 |.non,_,h=>by unfold PuR at h;unfold RepL;exact⟨h,rfl⟩
 |.int _,_,h=>by unfold PuR at h;unfold RepL;exact⟨h,rfl⟩
 |.tup ds,_,h=>by
  unfold PuR at h;obtain⟨a,xs,e,s,r⟩:=h;unfold RepL;exact⟨a,xs,e,s,rep_purs r⟩
 |.bl _,_,h=>by unfold PuR at h;exact h.elim
 |.str _,_,h=>by unfold PuR at h;exact h.elim
 |.lst _,_,h=>by unfold PuR at h;exact h.elim
 |.dct _,_,h=>by unfold PuR at h;exact h.elim
 |.obj _ _,_,h=>by unfold PuR at h;exact h.elim
theorem rep_purs{K:PySem.W.Frag}{H:Hp}:∀{ds:List D} {xs:List V},PuRs K H ds xs->RepA K H true ds xs []
 |[],_,h=>by unfold PuRs at h;unfold RepA;exact⟨h,rfl⟩
 |d::ds,_,h=>by
  unfold PuRs at h;obtain⟨x,r,e,h1,h2⟩:=h;unfold RepA;exact⟨x,r,[],[],e,rfl,qv7 h1,rep_purs h2⟩
end
end Q
namespace Q
open PySem PySem.Spec PyProof.Rows L2 L3
noncomputable def wky(K:PySem.W.Frag)(p:Addr)(Q:VK)(ps:List (V×V))(H2:Hp):Prop:=∃x y,ps=[(x,y)]/\H2 p=some (qK p [] 0)/\∃(b:Addr) (kd:Kd),x=.ref b/\PuR K H2 kd.1 (.ref b)/\∀r ep',RelV y r->Q (.ref p) (upd H2 p (qK p [(kd,b,r)] ep'))
abbrev wva(K:PySem.W.Frag)(tk tv:TE):TE:=fun σ H Q=>∀p,H p=none->(p==sysModules)=false->tk σ (upd H p (qK p [] 0)) λx H1=>tv σ H1 λy H2=>wky K p Q [(x,y)] H2
theorem vvy{X:Cx}{K:PySem.W.Frag}{pos:Pos}{k v:Expr}{tk tv:TE}(hu:X.A.units+64<cLine)(hk:PE X k tk)(hv:PE X v tv)(hK:autoParam (X.K=K) Ŕ):PE X (.Dict [some k] [v] pos) (wva K tk tv):=by
 subst hK;intro pins s σ H Q I h;have hn:=I.hok.fresh (X9 s.heap.objs.size);have I1:=I.laid (a:=s.heap.objs.size) (o:=qK s.heap.objs.size [] 0) (h':=s.heap.push { cls:=.type "dict",data:=.dict #[] }) (t':=s.toks) (λ_ _ q=>X8 _ q) (X9 _) (vx9 s.heap);refine wpAny_Dict_any rfl rfl (by simp) (by simp) (thn (vj6 hk hv vvr pins _ σ _ (wky X.K s.heap.objs.size Q) I1 (h _ hn (beq_false_of_ne (Nat.ne_of_gt I.big)))) λvs s2 hz=>?_);obtain⟨ps,H2,I2,oq,x,y,ep,e,b,kd,ex,pk,q⟩:=hz;subst ep ex;cases oq with
 |@cons p1 p2 t1 t2 h1 h2=>
  cases h2;obtain⟨u,r⟩:=p2;obtain rfl:u=Value.ref b:=h1.1;have h1:RelV y r:=h1.2;unfold storeAll;rw[List.forIn_cons];refine X0 (X0 (wpAny_dictSet_heap (knd:=kzz X.prog X.w) (xs:=[]) (k:=kd) (by show X.A.units+40<cLine;omega) (jzy I2 pk rfl) (vqf I2 e Xs (λ_ z=>absurd z Xv)) (λh' dd hs=>X4 ?_) (Yf _)));show wpAny (model X.prog X.w) X.A (forIn [] PUnit.unit _) _ _ _;rw[List.forIn_nil];refine X4 ?_;obtain⟨o,ds,ep',hq,g2,g3,g4,_,_⟩:=dd;exact⟨.ref s.heap.objs.size,_,qxo (ob:=qK s.heap.objs.size [(kd,b,r)] ep') I2 (by rw[e];exact True.intro) hs ⟨o,hq⟩ ⟨⟨o,ds,hq,g2,g3,g4⟩,⟨o,hq⟩,λh1 h2 ⟨o,ds,a1,a2⟩ k=>⟨o,ds,k o a1,a2⟩⟩,rfl,q r ep' h1⟩
section
variable {X:Cx}{Z:Fx0}{q:Bool}{kc vc:Ex}{ke ve:Expr}{pos:Pos}
theorem wj4(hu:X.A.units+64<cLine)(hk:QE X Z q kc ke)(hv:QE X Z q vc ve)(hK:autoParam (X.K=Z.K) Ŕ):QE X Z q (vk7 kc vc) (.Dict [some ke] [ve] pos):=qz (vvy hu hk hv hK) fun σ H Q ay=>ex8 ay λE L r m w hc xc k=>by
 intro p hp hs;have o6:kj H (upd H p (qK p [] 0)):=wJ hp;have st0:Step H L (upd H p (qK p [] 0)) L:=⟨λb ob h _=>o6 b ob h,λ_ h=>.inl h,λ_ h=>.inl h⟩;have nL:p∉j7 L:=λz=>w.own_some z hp
 have nF:p∉jW L:=λz=>w.frz_some z hp
 have w0:World Z.K (upd H p (qK p [] 0)) L:=⟨λt ht=>RepO.kp (w.ok t ht) (Kp.of_same o6),w.nd,w.ds⟩;have wd:World Z.K (upd H p (qK p [] 0)) ([some ⟨.rt,.dct [],.ref p,[p]⟩]++L):=by
  refine World.cons w0 ⟨p,[],[],rfl,by unfold RepP;exact⟨rfl,rfl⟩,.inl ⟨[],0,wV,hs,Yf _,Xs,rfl,λ_ z=>absurd z Xv,Paired.nil⟩,rfl⟩ (by simp[Sl.own]) (λb hb ho=>?_) (λb hb ho=>?_) (λb hb=>by simp[Sl.frz]at hb) (λb _ hb=>by simp[Sl.frz]at hb)
  ·have:b=p:=by simpa [Sl.own]using hb
   exact nL (this▸ho)
  ·have:b=p:=by simpa [Sl.own]using hb
   exact nF (this▸ho)
 refine VX m w0 (show bnd (kc E) _=some r from hc) (xc.step st0) λE1 s1 h1 x L1 H1 e1 e2 m1 w1 gj sm1=>?_
 obtain⟨wd1,sd1⟩:=wv0 wd gj w1;have s1':Step H L H1 L1:=(st0.trans gj).trans Step.drop;refine VX m1 w1.tail (show bnd (vc E1) _=some r from h1) (xc.step s1') λE2 s2 h2 y L2 H2 e3 e4 m2 w2 bn fj=>?_
 have pm:(([some ⟨.rt,.dct [],.ref p,[p]⟩]:Ls)++(some x::L1)).Perm (([some x,some ⟨.rt,.dct [],.ref p,[p]⟩]:Ls)++L1):=List.Perm.swap _ _ _;obtain⟨wd2,sd2⟩:=wv0 (wd1.perm pm) bn w2;have mn:(([some x,some ⟨.rt,.dct [],.ref p,[p]⟩]:Ls)++(some y::L2)).Perm (([some x,some y]:Ls)++(some ⟨.rt,.dct [],.ref p,[p]⟩::L2)):=List.Perm.cons _ (List.Perm.swap _ _ _);have w3:=wd2.perm mn;have dj:Step (upd H p (qK p [] 0)) ([some ⟨.rt,.dct [],.ref p,[p]⟩]++L) H2 ([some x,some y]++(some ⟨.rt,.dct [],.ref p,[p]⟩::L2)):=(sd1.perm (List.Perm.refl _) pm).trans (sd2.perm (List.Perm.refl _) mn)
 by_cases hkt:xY s1.2=true
 ·rw [Xa hkt]at h2;cases oq9 h2;have okx:x.ok Z.K H2:=w3.ok x (by simp);have hkz:xY x.d=true:=by rw[e2];exact hkt
  obtain⟨b,eb,pb⟩:=kqf okx hkz;have ln:jZ 6 x.d=true:=by unfold xY at hkz;rw[Bool.and_eq_true]at hkz;exact hkz.1
  obtain⟨a,xs0,bs0,ea,_,q4,_⟩:=(show RepR Z.K H2 (.dct []) (.ref p) [p]from w3.ok ⟨.rt,.dct [],.ref p,[p]⟩ (by simp));obtain⟨es,ep,g1,_⟩:=DcA.un (kvs:=[]) q4 rfl;have hH2:H2 p=some (qK p [] 0):=by
   have n1:p∉j7 (some x::L1):=λz=>by
    rcases gj.own p z with z|z
    ·exact nL z
    ·rw[wV]at z;cases z
   have hH1:H1 p=some (qK p [] 0):=gj.keep p _ wV nL;exact bn.keep p _ hH1 λz=>n1 (by rw[jz];exact lr9 _ z)
  have rv:RepL Z.K H2 true s2.2 y.v y.as:=by rw[<-e4];exact RepO.wk (w3.ok y (by simp))
  refine⟨x.v,y.v,rfl,hH2,b,⟨x.d,ln⟩,eb,pb,λrr ep' hrr=>?_⟩;obtain⟨w4,jn⟩:=qvm (ep':=ep') (es':=[(⟨x.d,ln⟩,b,rr)]) (xs':=[y.v]) (cs:=y.as) (kvs':=[(x.d,s2.2)]) (bs:=[]) (i:=0) (y:=⟨.rt,.dct [],.ref p,[p]⟩) w3 rfl hH2 rfl rfl rfl
   (by unfold RepP;exact⟨y.v,[],y.as,[],rfl,by simp,rv,by unfold RepP;exact⟨rfl,rfl⟩⟩)
   (λc jl=>.inr (by
    rcases Sl.as_of jl with z|z
    ·exact .inl (by simpa using .inr z)
    ·exact .inr (by simpa using .inr z))) hs (by show(1:Nat)<=sizeLine;decide) (List.nodup_cons.mpr ⟨Xv,Xs⟩) rfl (λn hn=>by rw[List.mem_singleton.mp hn];exact pb) (.cons hrr .nil)
  have stA:Step (upd H p (qK p [] 0)) ([some ⟨.rt,.dct [],.ref p,[p]⟩]++L) _ _:=dj.trans jn;refine k _ _ rfl ⟨.rt,.dct [(x.d,s2.2)],.ref p,p::y.as⟩ L2 _ rfl (congrArg (λd=>D.dct [(d,s2.2)]) e2) m2 w4 ?_ λhq=>?_
  ·refine⟨λc ob h hn=>stA.keep c ob (o6 c ob h) λz=>?_,λc jl=>?_,λc jl=>?_⟩
   ·rw[Y7,jz]at z;rcases List.mem_append.mp z with z|z
    ·have:c=p:=by simpa [Sl.own]using z
     rw[this,hp]at h;cases h
    ·exact hn z
   ·rcases stA.own c jl with z|z
    ·rw[Y7,jz]at z;rcases List.mem_append.mp z with z|z
     ·have:c=p:=by simpa [Sl.own]using z
      exact .inr (this▸hp)
     ·exact .inl z
    ·exact .inr (by
      cases hc0:H c with
      |none=>rfl
      |some ob=>rw[o6 c ob hc0]at z;cases z)
   ·have hcp:c=p->H c=none:=λz=>z▸hp
    rcases stA.frz c jl with z|z|z
    ·rw[Y7,qk]at z;rcases List.mem_append.mp z with z|z
     ·simp[Sl.frz]at z
     ·exact .inl z
    ·rw[Y7,jz]at z;rcases List.mem_append.mp z with z|z
     ·have:c=p:=by simpa [Sl.own]using z
      exact .inr (.inr (this▸hp))
     ·exact .inr (.inl z)
    ·exact .inr (.inr (by
      cases hc0:H c with
      |none=>rfl
      |some ob=>rw[o6 c ob hc0]at z;cases z))
  ·refine⟨λc ob h=>?_,λc jl=>?_⟩
   ·have cx:c≠p:=λz=>by rw[z,hp]at h;cases h
    rw[kJ cx];exact(fj hq).1 c ob ((sm1 hq).1 c ob (o6 c ob h))
   ·have:c=p:=by simpa [Sl.own]using jl
    exact this▸hp
 ·rw[Xe hkt]at h2;cases h2
end
end Q
namespace Q
open PySem PySem.Spec PyProof.Rows L2 L3
section
variable {prog:Program}{w:PySem.World}{A:Around}{E:Value->Shared->Prop}{s:Shared}{a it:Addr}{ts:List DictEntry}{ep i:Nat}
theorem qwv{Q:Value->Shared->Prop}(hs:(a==sysModules)=false)(hd:JZ s.heap a ts ep)
  (q:Q (.ref s.heap.objs.size) { s with heap:=s.heap.push { cls:=.type "dict_keyiterator",data:=.fields #[.ref a,.int 0 0,.int ts.length 0,.int ep 0] } }):wpAny (model prog w) A (pyIter (.ref a)) Q E s:=by
 obtain⟨ob,gc,g1,g2,g3,g4⟩:=hd;have ty:s.TypeIs (.ref a) "dict":=⟨ob,g1,g2.1⟩;have hl:gc.size=ts.length:=by rw[<-g4];simp
 refine wpAny_pyIter_slot ty F.slot_dict_iter (Ye F.slot_dict_iter ty F.entry_dict_iter ?_ (F.args_dict_iter_1 _));unfold Builtin.«dict.__iter__» Builtin.Dict.dictSlotNone;refine X0 (X0 (wpAny_notOrdered_dict ty ?_));show wpAny _ _ (pure (Value.ref a)) _ _ s;refine X4 ?_;show wpAny _ _ (Builtin.Dict.showsAll a >>= _) _ _ s;unfold Builtin.Dict.showsAll;rw[Xe (by rw[hs];exact Bool.false_ne_true)];refine X0 (X4 (X0 (wpAny_dictEntries g1 g3 (X0 (wpAny_dictEpoch g1 g3 ?_)))));refine X0 (Y3 (X4 ⟨_,rfl,"dict_keyiterator",_,⟨_,Xl _ rfl,rfl⟩,F.slot_dict_keyiterator_next.lookup,?_⟩))
 simpa [rawInt,hl]using q
theorem qwu{en:DictEntry}{Q:Option Value->Shared->Prop}(hi:s.heap.IsKeyIter it a i ts.length ep)(hd:JZ s.heap a ts ep)(hx:ts[i]?=some en)
  (q:∀h',h'.IsKeyIter it a (i+1) ts.length ep->Heap.SameBut it s.heap h'->Q (some en.key) { s with heap:=h' }):wpAny (model prog w) A (pyNext (.ref it)) Q E s:=by
 have ty:=hi.typeIs;obtain⟨o,h1,h2,h3⟩:=hi;obtain⟨ob,gc,g1,g2,g3,g4⟩:=hd;have hl:gc.size=ts.length:=by rw[<-g4];simp
 have bj:i<gc.size:=by rw[hl];exact(List.getElem?_eq_some_iff.mp hx).1
 have lb:gc[i]=en:=by
  rw[<-g4,Yv,Array.getElem?_eq_getElem bj]at hx;exact oq9 hx
 have ow:Builtin.Dict_items.ownsTuple "dict_keyiterator"=false:=by decide
 unfold pyNext;refine X0 (wpAny_attempt (wpAny_callSpecial?_slot (name:=Str.ofString "__next__") ty F.slot_dict_keyiterator_next (Ye F.slot_dict_keyiterator_next ty F.entry_dict_keyiterator_next ?_ (F.args_dict_keyiterator_next_1 _))));refine X0 (X4 (X0 (X0 ?_)))
 first
  |refine X0 (Ym ty (X4 (X0 (wpAny_fieldsOf h1 h3 ?_))))
  |refine X0 (wpAny_typeNameOf_keyiter ty (X4 (X0 (wpAny_fieldsOf h1 h3 ?_))))
 simp only[ow,Bool.false_eq_true,if_false];show wpAny _ _ (if(Value.ref a==Value.none)=true then _ else _) _ _ s;rw[Xe (show ¬((Value.ref a==Value.none)=true)from λz=>nomatch z)];refine X0 (X4 (X0 (wpAny_dictEntries g1 g3 ?_)));rw[Xe (by rw[hl];simp)];refine X0 (X4 (X0 (wpAny_dictEpoch g1 g3 ?_)));rw[Xe (by simp)];refine X4 ?_;simp only[show ¬((i:Int)<0)from by omega,if_false,Yg,Array.getElem?_eq_getElem bj,lb];refine X0 ?_
 first
  |refine X0 (Ym ty (X4 (X0 (wpAny_isOneOf_keyiter ty ?_))))
  |refine X0 (wpAny_typeNameOf_keyiter ty (X4 (X0 (wpAny_isOneOf_keyiter ty ?_))))
 show wpAny _ _ (setField (.ref it) 1 (rawInt ((i:Int)+1)) >>= _) _ _ s;refine X0 (wpAny_setField h1 h3 (by simp) ?_);have m4:(s.heap.update it (Obj.mapFields (·.setIfInBounds 1 (rawInt ((i:Int)+1))))).IsKeyIter it a (i+1) ts.length ep:=⟨_,Heap.get?_update_self _ h1 (Obj.isFreed_of_fields (Obj.data_mapFields h3 _)),(Obj.cls_mapFields ..).trans h2,by rw[Obj.data_mapFields h3];simp[rawInt]⟩;refine X0 (Yb (X0 (wpAny_isOneOf_keyiter (s:={ s with heap:=s.heap.update it (Obj.mapFields (·.setIfInBounds 1 (rawInt ((i:Int)+1)))) }) m4.typeIs ?_)));show wpAny _ _ (pure en.key) _ _ _;exact X4 (X4 ⟨_,rfl,X4 (q _ m4 (Heap.SameBut.update ..))⟩)
theorem qwt{Q:Option Value->Shared->Prop}(hh:A.handled=none)(hi:s.heap.IsKeyIter it a i ts.length ep)(hd:JZ s.heap a ts ep)(hx:ts.length<=i)(q:∀h',Heap.ExtBut it s.heap h'->Q none { s with heap:=h' }):wpAny (model prog w) A (pyNext (.ref it)) Q E s:=by
 have ty:=hi.typeIs;obtain⟨o,h1,h2,h3⟩:=hi;obtain⟨ob,gc,g1,g2,g3,g4⟩:=hd;have hl:gc.size=ts.length:=by rw[<-g4];simp
 have ow:Builtin.Dict_items.ownsTuple "dict_keyiterator"=false:=by decide
 unfold pyNext;refine X0 (wpAny_attempt (wpAny_callSpecial?_slot (name:=Str.ofString "__next__") ty F.slot_dict_keyiterator_next (Ye F.slot_dict_keyiterator_next ty F.entry_dict_keyiterator_next ?_ (F.args_dict_keyiterator_next_1 _))));refine X0 (X4 (X0 (X0 ?_)))
 first
  |refine X0 (Ym ty (X4 (X0 (wpAny_fieldsOf h1 h3 ?_))))
  |refine X0 (wpAny_typeNameOf_keyiter ty (X4 (X0 (wpAny_fieldsOf h1 h3 ?_))))
 simp only[ow,Bool.false_eq_true,if_false];show wpAny _ _ (if(Value.ref a==Value.none)=true then _ else _) _ _ s;rw[Xe (show ¬((Value.ref a==Value.none)=true)from λz=>nomatch z)];refine X0 (X4 (X0 (wpAny_dictEntries g1 g3 ?_)));rw[Xe (by rw[hl];simp)];refine X0 (X4 (X0 (wpAny_dictEpoch g1 g3 ?_)));rw[Xe (by simp)];refine X4 ?_;simp only[show ¬((i:Int)<0)from by omega,if_false,Yg,Array.getElem?_eq_none (show gc.size<=i by omega)];refine X0 ?_
 first
  |refine X0 (Ym ty (X4 ?_))
  |refine X0 (wpAny_typeNameOf_keyiter ty (X4 ?_))
 show wpAny _ _ (setField (.ref it) 0 .none >>= _) _ _ s;refine X0 (wpAny_setField h1 h3 (by simp) ?_);show wpAny _ _ (newExc (.type "StopIteration") [] >>= _) _ _ _;refine X0 ?_;simp only[newExc,newTuple];refine X0 (Y3 (X0 (m:=firstArgMember _ _) (wpAny_of_eq (a:=Value.none) (by first|rfl|(simp only[firstArgMember];rfl)) (Y3 ?_ (by size_fits)))) (by size_fits));simp only[raiseNew];refine X0 (wpAny_handled ?_);rw[show A.in1.handled=none from hh];have tyS:∀(hq:Heap) (ob:Obj),ob.cls=.type "StopIteration"->(hq.push ob).get? hq.objs.size=some ob->Shared.TypeIs { s with heap:=hq.push ob } (.ref hq.objs.size) "StopIteration":=λhq ob h1 h2=>⟨_,h2,h1⟩
 refine X0 (X4 (wpAny_throw ?_));refine X0 (wpAny_isInstance (b:=true) (tyS _ _ rfl (Xl _ rfl)) isSubtype_stop ?_);exact X4 (q _ (((Heap.SameBut.update ..).extBut.push _).push _))
theorem jxl{h h':Heap}(hd:JZ h a ts ep)(k:∀o,h.get? a=some o->h'.get? a=some o):JZ h' a ts ep:=by
 obtain⟨ob,gc,g1,g⟩:=hd;exact⟨ob,gc,k ob g1,g⟩
theorem kzl{h:Heap}(hd:JZ h a ts ep):a<h.objs.size:=by
 obtain⟨ob,gc,g1,g⟩:=hd;exact Xj g1
theorem qkj(hh:A.handled=none)(I:Addr)(cx:a≠I):PySem.Walks prog w A I [I,a] [I] ts.length (λi v=>∃en,ts[i]?=some en/\v=en.key) (λi h=>h.IsKeyIter I a i ts.length ep/\JZ h a ts ep) where
 sub:=λb hb=>by simp at hb;simp[hb]
 frame:=λ_ _ _ st hk=>⟨st.1.at λo e=>hk I (by simp) o e,jxl st.2 λo e=>hk a (by simp) o e⟩
 item:=λi s Q E hi st hQ=>qwu st.1 st.2 (X1 hi) λh' m4 iz=>
  hQ _ h' s.toks ⟨_,X1 hi,rfl⟩ ⟨m4,jxl st.2 λo e=>iz.extBut a o cx e⟩ λb o hb e=>iz.extBut b o (λh=>hb (by simp[h])) e
 done:=λs Q E st hQ=>qwt hh st.1 st.2 (X9 _) λh' he'=>hQ h' s.toks λb o hb e=>he' b o (λh=>hb (by simp[h])) e
 self:=λ_ _ _ _ st hQ=>wpAny_pyIter_keyiter st.1 hQ
theorem qzq(lo:(a==sysModules)=false):PySem.W.KdlSrc prog w "dict" a a ts.length (λi v=>∃en,ts[i]?=some en/\v=en.key) (λh=>JZ h a ts ep) where
 type:=λ_ hm=>by obtain⟨ob,gc,g1,g2,_⟩:=hm;exact⟨ob,g1,g2.1⟩
 there:=λ_ hm=>⟨kzl hm,kzl hm⟩
 keep:=λ_ _ hm hk=>jxl hm λo e=>hk a (.inl rfl) o e
 notList:=by decide
 notTuple:=by decide
 hint:=λ_ _ _ _ hm hq=>PySem.W.kdl_hint_dict (by obtain⟨ob,gc,g1,g2,_⟩:=hm;exact⟨ob,g1,g2.1⟩) hq
 iter:=λ_ _ hh hm=>⟨_,_,(λ_ _ hq=>qwv lo hm hq),qkj hh _ (Y1 (kzl hm)),⟨⟨_,Xl _ rfl,rfl,rfl⟩,jxl hm λo e=>X8 _ e⟩⟩
end
noncomputable def vkq(K:PySem.W.Frag):List V->Hp->VK->Prop:=λxs H Q=>∃a es ep,xs=[.ref a]/\H a=some (qK a es ep)/\(a==sysModules)=false/\es.length<=sizeLine/\∀l,H l=none->Q (.ref l) (upd H l (.lst (es.map λn=>V.ref n.2.1)))
theorem kvx:∀(es:List Ent),Vals (es.map λn=>V.ref n.2.1) (es.map λn=>Value.ref n.2.1)
 |[]=>.nil
 |n::es=>.cons rfl (kvx es)
theorem kqp{X:Cx}{K:PySem.W.Frag}(hc:autoParam (X.calm=true) Ŕ):CallR X (.type "list") (vkq K):=by
 intro pins s σ H xs us Q I r h;obtain⟨a,es,ep,rfl,hH,hs,hl,q⟩:=h;obtain⟨u,rfl,rx⟩:=z9 r;cases rx;refine PySem.W.kdl_call (qzq (ts:=es.map λx=>(⟨KY x.1.1,.ref x.2.1,x.2.2⟩:DictEntry)) (ep:=ep) hs) (I.ok.hd hc) (vxa I hH) (by rw[X5];exact hl) λh' tk acc c kp e bc=>?_
 have he:acc.toList=es.map λn=>Value.ref n.2.1:=by
  refine List.ext_getElem? λi=>?_
  rw[Xw];have hn:acc.size=es.length:=by have:=bc.1;simpa using this
  cases hv:acc[i]? with
  |none=>rw[Yv,hv,List.getElem?_eq_none (by have:=Array.getElem?_eq_none_iff.mp hv;omega)];rfl
  |some v=>
   obtain⟨en,h1,h2⟩:=bc.2 i v hv;rw[Yv,hv,h2];rw[Xw]at h1;cases hes:es[i]? with
   |none=>rw[hes]at h1;cases h1
   |some n=>rw[hes]at h1;cases oq9 h1;rfl
 refine⟨.ref s.heap.objs.size,_,I.laid kp (X9 _) (show ObjOk X.prog X.w _ h' _ (.lst (es.map λn=>V.ref n.2.1))from⟨by rw[X5];exact hl,es.map λn=>Value.ref n.2.1,c,kvx es,by rw[<-he];simpa using e⟩),rfl,q _ (I.hok.fresh (X9 _))⟩
theorem kwa{K:PySem.W.Frag}{H:Hp}:∀{es:List Ent},(∀n∈es,PuR K H n.1.1 (.ref n.2.1))->RepA K H true (es.map (·.1.1)) (es.map λn=>V.ref n.2.1) []
 |[],_=>by unfold RepA;exact⟨rfl,rfl⟩
 |n::es,h=>by
  rw[List.map_cons,List.map_cons];unfold RepA;exact⟨_,_,[],[],rfl,rfl,qv7 (h n X2),kwa λm hm=>h m (lc9 _ hm)⟩
theorem qkf{K:PySem.W.Frag}:Ad1 K (λv H Q=>vkq K [v] H Q) W3:=by
 intro H x s Q ok hf k;unfold W3 at hf;cases hx:x.d with
 | dct kvs=>
  rw[show(x.o,x.d).2=D.dct kvs from hx]at hf;have hf:(if kvs.length<=big/\unm kvs=true then some (Own.rt,D.lst (kvs.map (·.1)))else none)=some s:=hf
  split at hf
  rotate_left
  ·cases hf
  rename_i av;cases oq9 hf;have okL:RepL K H true (.dct kvs) x.v x.as:=by rw[<-hx];exact Qq ok
  unfold RepL at okL;obtain⟨a,xs,bs,ev,rp,q4,eas⟩:=okL;obtain⟨es,ep,g1,g2,g3,g4,g5,g6,g7⟩:=DcA.un q4 av.2;refine⟨a,es,ep,by rw[ev],g1,g2,g3,λl hl=>k ⟨.rt,.lst (kvs.map (·.1)),.ref l,[l]⟩ _ rfl rfl ⟨wJ hl,⟨l,_,[],rfl,?_,wV,rfl⟩,λb hb=>?_,by simp[Sl.own],λb hb=>?_⟩⟩
  ·rw[g5];exact(kwa g6).kp (Kp.of_same (wJ hl))
  ·have:b=l:=by simpa [Sl.own]using hb
   exact this▸hl
  ·simp[Sl.frz]at hb
 |_=>rw[show(x.o,x.d).2=_ from hx]at hf;cases hf
end Q
namespace Q
open PySem PySem.Spec PyProof.Rows L2 L3
noncomputable def wqt(kr:Bool):R2:=λx y H Q=>∃a b,x=.bl a/\y=.bl b/\Q (.bl (kr != (a==b))) H
theorem ww7{X:Cx}:OpR X (compareOp .Is) (wqt false):=by
 intro pins s σ H x y v u Q I rx ry h;obtain⟨a,b,rfl,rfl,q⟩:=h;cases rx;cases ry;exact is_bool (kx3 I (by simpa using q) rfl)
theorem qw4{X:Cx}:OpR X (compareOp .IsNot) (wqt true):=by
 intro pins s σ H x y v u Q I rx ry h;obtain⟨a,b,rfl,rfl,q⟩:=h;cases rx;cases ry;exact isnot_bool (kx3 I q (by cases a<;>cases b<;>rfl))
theorem qjj{K:PySem.W.Frag}{H:Hp}{x:Sl}{a:Bool}(ok:x.ok K H)(h:x.d=.bl a):x.v=.bl a:=by
 have:=RepO.wk ok;rw[h]at this;unfold RepL at this;exact this.1
theorem wqk{K:PySem.W.Frag}:Ad2 K (wqt false) (pu2 wv1):=by
 intro H x y s Q ox oy hf k;unfold pu2 wv1 at hf;cases hx:x.d with
 | bl a=>cases hy:y.d with
  |bl b=>
   rw[show(x.o,x.d).2=D.bl a from hx,show(y.o,y.d).2=D.bl b from hy]at hf;cases oq9 hf;exact⟨a,b,qjj ox hx,qjj oy hy,by rw[show(false != (a==b))=(a==b)by cases a<;>cases b<;>rfl];exact k ⟨.dp,.bl _,.bl _,[]⟩ H rfl rfl x8⟩
  |_=>rw[show(x.o,x.d).2=D.bl a from hx,show(y.o,y.d).2=_ from hy]at hf;cases hf
 |_=>rw[show(x.o,x.d).2=_ from hx]at hf;cases hf
theorem kzs{K:PySem.W.Frag}:Ad2 K (wqt true) (pu2 K8):=by
 intro H x y s Q ox oy hf k;unfold pu2 K8 at hf;cases hx:x.d with
 | bl a=>cases hy:y.d with
  |bl b=>
   rw[show(x.o,x.d).2=D.bl a from hx,show(y.o,y.d).2=D.bl b from hy]at hf;cases oq9 hf;exact⟨a,b,qjj ox hx,qjj oy hy,by rw[show(true != (a==b))=(!(a==b))by cases a<;>cases b<;>rfl];exact k ⟨.dp,.bl _,.bl _,[]⟩ H rfl rfl x8⟩
  |_=>rw[show(x.o,x.d).2=D.bl a from hx,show(y.o,y.d).2=_ from hy]at hf;cases hf
 |_=>rw[show(x.o,x.d).2=_ from hx]at hf;cases hf
theorem kzo:∀x y s,pu2 K8 x y=some s->∃k,s.2=.bl k:=by
 intro x y s h;unfold pu2 K8 at h
 split at h
 ·cases oq9 h;exact⟨_,rfl⟩
 ·cases h
end Q
namespace Q
open PySem PySem.Spec PyProof.Rows L2 L3
theorem wj7{X:Cx}{Z:Fx0}{q:Bool}:QA X Z q [] []:=Zq xj fun σ H Q ay=>ex8 ay λE L r m w hc xc k=>by
 cases oq9 hc;exact k _ _ rfl [] L H rfl m w Step.refl λ_=>⟨λ_ _ z=>z,λ_ z=>(nomatch z)⟩
end Q
namespace Q
open PySem PySem.Spec PyProof.Rows L2 L3
theorem vw3{K:PySem.W.Frag}{H:Hp}{x:Sl}(ok:x.ok K H)(ht:YK x.sd=true)(nd:x.own.Nodup):∃cs,RepL K H false x.d x.v cs/\(∀a∈cs,a∈x.own)/\cs.Nodup:=by
 obtain⟨o,d,v,as⟩:=x;unfold YK at ht;rw [Bool.or_eq_true]at ht;rcases ht with ht|ht
 ·unfold vK at ht;rw[Bool.or_eq_true]at ht;rcases ht with ht|ht
  ·have ho:o=.dp:=by
    have ht:(o==Own.dp)=true:=ht;cases o with
    |dp=>rfl
    |no=>cases ht
    |rt=>cases ht
   subst ho;exact⟨as,ok,λa h=>h,nd⟩
  ·obtain⟨_,r⟩:=RepL.pu (g':=false) (RepO.wk ok) ht;exact⟨[],r,λ_ h=>(nomatch h),Xs⟩
 ·rw[Bool.and_eq_true]at ht;have ho:o=.rt:=by
   have ht:(o==Own.rt)=true:=ht.1;cases o with
   |rt=>rfl
   |no=>cases ht
   |dp=>cases ht
  subst ho;cases d with
  | lst ds=>
   have hp:D.pures ds=true:=ht.2;obtain⟨a,xs,bs,e,r,h,e2⟩:=(show RepR K H (.lst ds) v as from ok);obtain⟨_,r2⟩:=RepA.pu (g':=false) r hp;refine⟨[a],?_,λb hb=>?_,by simp⟩
   ·unfold RepL;exact⟨a,xs,[],e,r2,.inl ⟨h,rfl⟩⟩
   ·rw[List.mem_singleton.mp hb];show a∈as.take 1;rw[e2];exact X2
  |_=>cases ht.2
end Q
namespace PySem
section
variable {prog:Program}{w:World}{K:Type}[DecidableEq K]{knd:HeapKind prog w K}{A:Around}{E:Value->Shared->Prop}{s:Shared}
theorem jqs{d a:Addr}{xs:List (K×Addr×Value)}{k:K}{v:Value}{Q:Value->Shared->Prop}(hu:knd.room A)(fy:knd.is s.heap k a)(hm:s.heap.DictOfH knd d xs)
  (h1:∀p,atKey xs k=some p->Q p.2 { s with toks:=s.toks+knd.draws k })
  (h2:atKey xs k=none->∀h',h'.DictOfH knd d (storedH xs k a v)->Heap.SameBut d s.heap h'->Q v { s with heap:=h',toks:=s.toks+knd.draws k })
  (hsz:xs.length<=sizeLine:=by size_fits):
  wpAny (model prog w) A (dictSetDefault d (.ref a) v) Q E s:=by
 obtain⟨o,es,ep,ho,hc,hd,he,his,hn⟩:=hm;unfold dictSetDefault
 try with_reducible refine Yb ?_
 refine X0 (knd.pyHash hu fy ?_);refine X0 (wpAny_dictFind_heap (s:={ s with toks:=s.toks+knd.draws k }) hu fy ho hd he his hn ?_ ?_)
 ·intro ig;have hnot:k∉xs.map (·.1):=not_mem_keys_of_get ig;refine X0 (wpAny_rule (X0 (wpAny_updateDictKeys (hz:=by have e:=size_of_entries he;omega) (s:={ s with toks:=s.toks+knd.draws k }) ho hd (X4 (h2 (atKey_none_of_get ig) _ ⟨_,_,ep+1,Heap.get?_update_self _ ho (Obj.isFreed_of_dict (Obj.data_mapDictKeys hd _)),
   hc.mapDictKeys _,Obj.data_mapDictKeys hd _,?_,?_,?_⟩ (Heap.SameBut.update ..))))))
  ·rw[storedH_new (atKey_none_of_get ig)];simp[he,entryOfKey]
  ·rw[storedH_new (atKey_none_of_get ig)];intro x hx;rcases List.mem_append.mp hx with hx|hx
   ·exact knd.keeps (his x hx) ho hd (Heap.SameBut.update ..)
   ·simp only[List.mem_singleton]at hx;subst hx;exact knd.keeps fy ho hd (Heap.SameBut.update ..)
  ·rw[storedH_new (atKey_none_of_get ig)];rw[Y0,X7];refine⟨hn,by simp,?_⟩;intro x hx y hy;simp only[List.map_cons,List.map_nil,List.mem_singleton]at hy;subst hy;exact λe=>hnot (e▸hx)
 ·intro j p hj;refine X0 (wpAny_dictEntries (s:={ s with toks:=s.toks+knd.draws k }) ho hd ?_);rw[entry_at he j,hj];exact X0 (wpAny_rule (X4 (h1 _ (atKey_of_get hn hj))))
theorem jvq(knd:HeapKind prog w K)(d a:Addr)(hd:(d==sysModules)=false)(jf:Value):
  MeetsIn prog w (Builtin.«dict.setdefault» ⟨[.ref d,.ref a,jf],[]⟩) (λA R s=>knd.room A.in1/\∃k xs,knd.is s.heap k a/\s.heap.DictOfH knd d xs/\xs.length<=sizeLine /\
   (∀p,atKey xs k=some p->R (.ok (.ret p.2)) { s with toks:=s.toks+knd.draws k }) /\
   (atKey xs k=none->∀h',h'.DictOfH knd d (storedH xs k a jf)->Heap.SameBut d s.heap h'->R (.ok (.ret jf)) { s with heap:=h',toks:=s.toks+knd.draws k })):=
 .of_wp λA R s ⟨hu,k,xs,fy,hm,hz,h1,h2⟩=>by
  unfold Builtin.«dict.setdefault»;refine X0 ?_;unfold Builtin.Dict.keyAndDefault;refine X0 (wpAny_notOrdered_dict hm.typeIs ?_);show wpAny _ _ (pure (d,Value.ref a,some jf)) _ _ s;refine X4 ?_;show wpAny _ _ (if(d==sysModules)=true then _ else(dictSetDefault d (.ref a) jf >>= _)) _ _ s;rw[Xe (by rw[hd];exact Bool.false_ne_true)];exact X0 (jqs (hsz:=hz) hu fy hm (λp hp=>X4 ⟨p.2,rfl,h1 p hp⟩) λhn h' hm' iz=>X4 ⟨jf,rfl,h2 hn h' hm' iz⟩)
end
end PySem
namespace Q
open PySem PySem.Spec PyProof.Rows L2 L3
noncomputable def PV(K:PySem.W.Frag)(H:Hp):List Nat->D->V->V->Prop
 |[],_,v,u=>u=v
 |n::p,.tup ds,v,u=>∃a xs x d,v=.ref a/\SqT K H a xs/\xs[n]?=some x/\ds[n]?=some d/\PV K H p d x u
 |n::p,.lst ds,v,u=>∃a xs x d,v=.ref a/\H a=some (.lst xs)/\xs[n]?=some x/\ds[n]?=some d/\PV K H p d x u
 |_::_,_,_,_=>False
section
variable {K:PySem.W.Frag}{H:Hp}
theorem PV.snoc:∀{p:List Nat} {n:Nat} {d:D} {v u:V},PV K H (p++[n]) d v u->∃d' w,PV K H p d v w/\PV K H [n] d' w u
 |[],n,d,v,u,h=>⟨d,v,rfl,h⟩
 |m::p,n,.tup ds,v,u,⟨a,xs,x,d,e,q,ex,ed,h⟩=>by
  obtain⟨d',w,h1,h2⟩:=PV.snoc (p:=p) h;exact⟨d',w,⟨a,xs,x,d,e,q,ex,ed,h1⟩,h2⟩
 |m::p,n,.lst ds,v,u,⟨a,xs,x,d,e,q,ex,ed,h⟩=>by
  obtain⟨d',w,h1,h2⟩:=PV.snoc (p:=p) h;exact⟨d',w,⟨a,xs,x,d,e,q,ex,ed,h1⟩,h2⟩
 |_::_,_,.non,_,_,h=>h.elim
 |_::_,_,.bl _,_,_,h=>h.elim
 |_::_,_,.int _,_,_,h=>h.elim
 |_::_,_,.str _,_,_,h=>h.elim
 |_::_,_,.dct _,_,_,h=>h.elim
 |_::_,_,.obj _ _,_,_,h=>h.elim
theorem PV.one{n:Nat}{d:D}{v u:V}(h:PV K H [n] d v u):∃a xs,v=.ref a/\(H a=some (.lst xs)\/SqT K H a xs)/\xs[n]?=some u:=by
 cases d with
 |tup ds=>
  obtain⟨a,xs,x,d,e,q,ex,ed,h⟩:=h;have h:u=x:=h;subst h;exact⟨a,xs,e,.inr q,ex⟩
 |lst ds=>
  obtain⟨a,xs,x,d,e,q,ex,ed,h⟩:=h;have h:u=x:=h;subst h;exact⟨a,xs,e,.inl q,ex⟩
 |_=>exact h.elim
structure Kx (H H':Hp)(as bs:List Addr):Prop where
 tup:∀a xs,H a=some (.tup xs)->H' a=some (.tup xs)
 frz:∀a o u,H a=some (.frz o u)->H' a=some (.frz o u)
 out:∀b∈as,b∉bs->∀ob,H b=some ob->H' b=some ob
theorem Kx.kp{H':Hp}{as bs cs:List Addr}(k:Kx H H' as bs)(h:∀b∈cs,b∈as/\b∉bs):Kp H H' cs:=⟨k.tup,k.frz,λa ha=>k.out a (h a ha).1 (h a ha).2⟩
theorem RepA.hole:∀{n:Nat} {ds:List D} {xs:List V} {as:List Addr} {dn:D},RepA K H false ds xs as->as.Nodup->ds[n]?=some dn->∃x bs,xs[n]?=some x/\RepL K H false dn x bs/\bs.Nodup/\(∀b∈bs,b∈as) /\
  ∀(H':Hp) (qt:D) (df:List Addr),Kx H H' as bs->RepL K H' false qt x df->df.Nodup->(∀b∈as,b∉bs->b∉df)->∃gr,RepA K H' false (ds.set n qt) xs gr/\gr.Nodup/\∀b∈gr,(b∈as/\b∉bs)\/b∈df
 | _,[],_,_,_,_,_,e=>by simp at e
 | 0,d::ds,xs,as,dn,h,nd,e=>by
  have e:d=dn:=by simpa using e
  subst e;unfold RepA at h;obtain⟨x,r,bs,es,rfl,rfl,h1,h2⟩:=h;rw[X7]at nd;refine⟨x,bs,rfl,h1,nd.1,λb hb=>ll9 _ hb,λH' qt df kx r' ls hd=>?_⟩;have he:∀b∈es,b∈bs++es/\b∉bs:=λb hb=>⟨lr9 _ hb,λz=>nd.2.2 b z b hb rfl⟩
  refine⟨df++es,?_,?_,λb hb=>?_⟩
  ·rw[List.set_cons_zero];unfold RepA;exact⟨x,r,df,es,rfl,rfl,r',h2.kp (kx.kp he)⟩
  ·rw[X7];refine⟨ls,nd.2.1,λa ha b hb lp=>?_⟩;subst lp;exact hd a (he a hb).1 (he a hb).2 ha
  ·rcases List.mem_append.mp hb with z|z
   ·exact .inr z
   ·exact .inl (he b z)
 | n+1,d::ds,xs,as,dn,h,nd,e=>by
  unfold RepA at h;obtain⟨x,r,bs,es,rfl,rfl,h1,h2⟩:=h;rw[X7]at nd;obtain⟨y,fs,q1,q2,q3,q4,q5⟩:=RepA.hole (n:=n) h2 nd.2.1 (by simpa using e);have hb:∀b∈bs,b∈bs++es/\b∉fs:=λb hb=>⟨ll9 _ hb,λz=>nd.2.2 b hb b (q4 b z) rfl⟩
  refine⟨y,fs,by simpa using q1,q2,q3,λb hb=>lr9 _ (q4 b hb),λH' qt df kx r' ls hd=>?_⟩;obtain⟨gr,a1,a2,a3⟩:=q5 H' qt df ⟨kx.tup,kx.frz,λb hb=>kx.out b (lr9 _ hb)⟩ r' ls (λb hb=>hd b (lr9 _ hb));refine⟨bs++gr,?_,?_,λb hb2=>?_⟩
  ·rw[List.set_cons_succ];unfold RepA;exact⟨x,r,bs,gr,rfl,rfl,h1.kp (kx.kp hb),a1⟩
  ·rw[X7];refine⟨nd.1,a2,λa ha b hb2 lp=>?_⟩;subst lp;rcases a3 a hb2 with z|z
   ·exact nd.2.2 a ha a z.1 rfl
   ·exact hd a (hb a ha).1 (hb a ha).2 z
  ·rcases List.mem_append.mp hb2 with z|z
   ·exact .inl (hb b z)
   ·exact(a3 b z).imp (λz=>⟨lr9 _ z.1,z.2⟩) id
theorem RepL.hole:∀{p:List Nat} {d d1:D} {v:V} {as:List Addr},RepL K H false d v as->as.Nodup->D.at p d=some d1->∃v1 gi,PV K H p d v v1/\RepL K H false d1 v1 gi/\gi.Nodup/\(∀b∈gi,b∈as) /\
  ∀ (H':Hp) (d':D) (df:List Addr),Kx H H' as gi->RepL K H' false d' v1 df->df.Nodup->(∀b∈as,b∉gi->b∉df)->∃gr,RepL K H' false (D.put d' p d) v gr/\gr.Nodup/\∀b∈gr,(b∈as/\b∉gi)\/b∈df
 | [],d,d1,v,as,h,nd,e=>by
  cases oq9 (show some d=some d1 from e);exact⟨v,as,rfl,h,nd,λ_ h=>h,λH' d' df kx r' ls hd=>⟨df,r',ls,λb hb=>.inr hb⟩⟩
 | n::p,.tup ds,d1,v,as,h,nd,e=>by
  unfold D.at at e;cases hn:ds[n]? with
  | none=>rw[hn]at e;cases e
  | some dn=>
   rw[hn]at e;unfold RepL at h;obtain⟨a,xs,e1,sq,ra⟩:=h;obtain⟨x,bs,q1,q2,q3,q4,q5⟩:=RepA.hole ra nd hn;obtain⟨v1,gi,p1,p2,p3,p4,p5⟩:=RepL.hole (p:=p) q2 q3 e;refine⟨v1,gi,⟨a,xs,x,dn,e1,sq,q1,hn,p1⟩,p2,p3,λb hb=>q4 b (p4 b hb),λH' d' df kx r' ls hd=>?_⟩;obtain⟨cs,c1,c2,c3⟩:=p5 H' d' df ⟨kx.tup,kx.frz,λb hb=>kx.out b (q4 b hb)⟩ r' ls (λb hb=>hd b (q4 b hb));obtain⟨gr,a1,a2,a3⟩:=q5 H' _ cs ⟨kx.tup,kx.frz,λb hb hn=>kx.out b hb λz=>hn (p4 b z)⟩ c1 c2 (λb hb hn z=>by
    rcases c3 b z with z|z
    ·exact hn z.1
    ·exact hd b hb (λz=>hn (p4 b z)) z)
   refine⟨gr,?_,a2,λb hb=>?_⟩
   ·unfold D.put;rw[hn];dsimp only;unfold RepL;exact⟨a,xs,e1,Kp.tupT (as:=[]) ⟨kx.tup,kx.frz,λ_ h=>nomatch h⟩ sq,a1⟩
   ·rcases a3 b hb with z|z
    ·exact .inl ⟨z.1,λy=>z.2 (p4 b y)⟩
    ·exact(c3 b z).imp (λz=>⟨q4 b z.1,z.2⟩) id
 | n::p,.lst ds,d1,v,as,h,nd,e=>by
  unfold D.at at e;cases hn:ds[n]? with
  | none=>rw[hn]at e;cases e
  | some dn=>
   rw[hn]at e;unfold RepL at h;obtain⟨a,xs,fs,e1,ra,sq⟩:=h;rcases sq with⟨sq,rfl⟩|⟨z,_⟩
   rotate_left
   ·cases z
   rw[List.nodup_cons]at nd;obtain⟨x,bs,q1,q2,q3,q4,q5⟩:=RepA.hole ra nd.2 hn;obtain⟨v1,gi,p1,p2,p3,p4,p5⟩:=RepL.hole (p:=p) q2 q3 e;have mj:a∉gi:=λz=>nd.1 (q4 a (p4 a z))
   refine⟨v1,gi,⟨a,xs,x,dn,e1,sq,q1,hn,p1⟩,p2,p3,λb hb=>lc9 _ (q4 b (p4 b hb)),λH' d' df kx r' ls hd=>?_⟩;obtain⟨cs,c1,c2,c3⟩:=p5 H' d' df ⟨kx.tup,kx.frz,λb hb=>kx.out b (lc9 _ (q4 b hb))⟩ r' ls (λb hb=>hd b (lc9 _ (q4 b hb)));obtain⟨gr,a1,a2,a3⟩:=q5 H' _ cs ⟨kx.tup,kx.frz,λb hb hn=>kx.out b (lc9 _ hb) λz=>hn (p4 b z)⟩ c1 c2 (λb hb hn z=>by
    rcases c3 b z with z|z
    ·exact hn z.1
    ·exact hd b (lc9 _ hb) (λz=>hn (p4 b z)) z)
   have h3:∀b∈gr,(b∈fs/\b∉gi)\/b∈df:=λb hb=>by
    rcases a3 b hb with z|z
    ·exact .inl ⟨z.1,λy=>z.2 (p4 b y)⟩
    ·exact(c3 b z).imp (λz=>⟨q4 b z.1,z.2⟩) id
   refine⟨a::gr,?_,List.nodup_cons.mpr ⟨λz=>?_,a2⟩,λb hb=>?_⟩
   ·unfold D.put;rw[hn];dsimp only;unfold RepL;exact⟨a,xs,gr,e1,a1,.inl ⟨kx.out a X2 mj _ sq,rfl⟩⟩
   ·rcases h3 a z with z|z
    ·exact nd.1 z.1
    ·exact hd a X2 mj z
   ·rcases List.mem_cons.mp hb with rfl|hb
    ·exact .inl ⟨X2,mj⟩
    ·exact(h3 b hb).imp (λz=>⟨lc9 _ z.1,z.2⟩) id
 |_::_,.non,_,_,_,_,_,e=>by cases e
 |_::_,.bl _,_,_,_,_,_,e=>by cases e
 |_::_,.int _,_,_,_,_,_,e=>by cases e
 |_::_,.str _,_,_,_,_,_,e=>by cases e
 |_::_,.dct _,_,_,_,_,_,e=>by cases e
 |_::_,.obj _ _,_,_,_,_,_,e=>by cases e
theorem xz{y:Sl}(h:y.o=.dp):y.own=y.as:=by unfold Sl.own;rw[h]
theorem World.hole{L:Ls}{y:Sl}{p:List Nat}{d1:D}(w:World K H (some y::L))(ho:y.o=.dp)(h:D.at p y.d=some d1):∃y1:Sl,y1.o=.dp/\y1.d=d1/\PV K H p y.d y.v y1.v/\World K H (some y1::L) /\
  ∀ (He:Hp) (Le:Ls) (z:Sl),World K He (some z::Le)->Step H (some y1::L) He (some z::Le)->z.o=.dp->z.v=y1.v->∃y':Sl,y'.o=.dp/\y'.d=D.put z.d p y.d/\y'.v=y.v/\World K He (some y'::Le)/\Step H (some y::L) He (some y'::Le):=by
 have ok:RepL K H false y.d y.v y.as:=by
  have:=w.ok y X2;unfold Sl.ok at this;rw[ho]at this;exact this
 have nd:=w.nd;rw [jz,xz ho,X7]at nd;have ds:=w.ds;obtain⟨v1,gi,p1,p2,p3,p4,p5⟩:=RepL.hole ok nd.1 h;have al:∀b∈y.as,H b≠none:=λb hb z=>by
  rcases w.own_al (a:=b) (by rw[jz,xz ho];exact ll9 _ hb)with⟨_,q⟩|⟨_,q⟩|⟨_,q⟩<;>· rw[z]at q;cases q
 refine⟨⟨.dp,d1,v1,gi⟩,rfl,rfl,p1,⟨λx hx=>?_,?_,λa ha=>?_⟩,λHe Le z wz st zo zv=>?_⟩
 ·rcases List.mem_cons.mp hx with e|hx
  ·cases e;exact p2
  ·exact w.ok x (lc9 _ hx)
 ·rw[jz,X7];exact⟨p3,nd.2.1,λa ha b hb=>nd.2.2 a (p4 a ha) b hb⟩
 ·have oh:a∈j7 (some y::L):=by
   rw[jz]at ha ⊢;rcases List.mem_append.mp ha with ha|ha
   ·exact ll9 _ (by rw[xz ho];exact p4 a ha)
   ·exact lr9 _ ha
  have:=ds a oh;rw[qk]at this ⊢;intro q;rcases List.mem_append.mp q with q|q
  ·cases q
  ·exact this (lr9 _ q)
 ·have okz:RepL K He false z.d v1 z.as:=by
   have:=wz.ok z X2;unfold Sl.ok at this;rw[zo,zv]at this;exact this
  have ndz:=wz.nd;rw[jz,xz zo,X7]at ndz;have no1:∀b∈y.as,b∉gi->b∉j7 (some (⟨.dp,d1,v1,gi⟩:Sl)::L):=λb hb hn q=>by
   rw[jz]at q;rcases List.mem_append.mp q with q|q
   ·exact hn q
   ·exact nd.2.2 b hb b q rfl
  have noz:∀b∈y.as,b∉gi->b∉j7 (some z::Le):=λb hb hn q=>by
   rcases st.own b q with q|q
   ·exact no1 b hb hn q
   ·exact al b hb q
  have nof:∀b∈y.as,b∉gi->b∉jW Le:=λb hb hn q=>by
   rcases st.frz b (by rw[qk];exact lr9 _ q)with q|q|q
   ·rw[qk]at q;rcases List.mem_append.mp q with q|q
    ·cases q
    ·exact ds b (by rw[jz,xz ho];exact ll9 _ hb) (by rw[qk];exact lr9 _ q)
   ·exact no1 b hb hn q
   ·exact al b hb q
  have tupk:∀a xs,H a=some (.tup xs)->He a=some (.tup xs):=λa xs e=>st.keep a _ e λq=>by
   have q2:a∈j7 (some y::L):=by
    rw[jz]at q ⊢;exact List.mem_append.mpr ((List.mem_append.mp q).imp (λq=>by rw[xz ho];exact p4 a q) id)
   rcases w.own_al q2 with⟨_,q⟩|⟨_,q⟩|⟨_,q⟩<;>· rw[e]at q;cases q
  have frzk:∀a o u,H a=some (.frz o u)->He a=some (.frz o u):=λa o u e=>st.keep a _ e λq=>by
   have q2:a∈j7 (some y::L):=by
    rw[jz]at q ⊢;exact List.mem_append.mpr ((List.mem_append.mp q).imp (λq=>by rw[xz ho];exact p4 a q) id)
   rcases w.own_al q2 with⟨_,q⟩|⟨_,q⟩|⟨_,q⟩<;>· rw[e]at q;cases q
  obtain⟨gr,a1,a2,a3⟩:=p5 He z.d z.as ⟨tupk,frzk,λb hb hn ob e=>st.keep b ob e (no1 b hb hn)⟩ okz ndz.1 (λb hb hn q=>noz b hb hn (by rw[jz,xz zo];exact ll9 _ q));have sub:∀b∈j7 (some z::Le),b∈j7 (some y::L)\/H b=none:=λb hb=>(st.own b hb).imp (λq=>by
   rw[jz]at q ⊢;exact List.mem_append.mpr ((List.mem_append.mp q).imp (λq=>by rw[xz ho];exact p4 b q) id)) id
  refine⟨⟨.dp,D.put z.d p y.d,y.v,gr⟩,rfl,rfl,rfl,⟨λx hx=>?_,?_,λa ha q=>?_⟩,⟨λa ob e hn=>st.keep a ob e λq=>hn ?_,λa ha=>?_,λa ha=>?_⟩⟩
  ·rcases List.mem_cons.mp hx with e|hx
   ·cases e;exact a1
   ·exact wz.ok x (lc9 _ hx)
  ·rw[jz,X7];refine⟨a2,ndz.2.1,λa ha b hb lp=>?_⟩;subst lp;rcases a3 a ha with q|q
   ·exact noz a q.1 q.2 (by rw[jz];exact lr9 _ hb)
   ·exact ndz.2.2 a q a hb rfl
  ·have q:a∈jW Le:=by
    rw[qk]at q;rcases List.mem_append.mp q with q|q
    ·cases q
    ·exact q
   rw[jz]at ha;have fz:a∈jW (some z::Le):=by rw[qk];exact lr9 _ q
   rcases List.mem_append.mp ha with ha|ha
   ·rcases a3 a ha with r|r
    ·exact nof a r.1 r.2 q
    ·exact wz.ds a (by rw[jz,xz zo];exact ll9 _ r) fz
   ·exact wz.ds a (by rw[jz];exact lr9 _ ha) fz
  ·rw[jz]at q ⊢;exact List.mem_append.mpr ((List.mem_append.mp q).imp (λq=>by rw[xz ho];exact p4 a q) id)
  ·rw[jz]at ha;rcases List.mem_append.mp ha with ha|ha
   ·rcases a3 a ha with q|q
    ·exact .inl (by rw[jz,xz ho];exact ll9 _ q.1)
    ·exact sub a (by rw[jz,xz zo];exact ll9 _ q)
   ·exact sub a (by rw[jz];exact lr9 _ ha)
  ·have q:a∈jW Le:=by
    rw[qk]at ha;rcases List.mem_append.mp ha with q|q
    ·cases q
    ·exact q
   rcases st.frz a (by rw[qk];exact lr9 _ q)with r|r|r
   ·refine .inl ?_;rw[qk]at r ⊢;rcases List.mem_append.mp r with r|r
    ·cases r
    ·exact lr9 _ r
   ·refine .inr (.inl ?_);rw[jz]at r ⊢;exact List.mem_append.mpr ((List.mem_append.mp r).imp (λq=>by rw[xz ho];exact p4 a q) id)
   ·exact .inr (.inr r)
end
end Q
namespace Q
open PySem PySem.Spec PyProof.Rows L2 L3
abbrev tP(K:PySem.W.Frag)(i:Nat)(p:List Nat):TE:=fun σ H Q=>∃d v u,σ[i]?=some (some v)/\PV K H p d v u/\Q u H
theorem XJ{xs:List V}{n:Nat}{x:V}(h:xs[n]?=some x):atI xs (n:Int)=some x:=by
 have hn:n<xs.length:=(List.getElem?_eq_some_iff.mp h).1;have e:L2.ixN xs.length (n:Int)=some n:=by
  unfold L2.ixN;rw[Xa (Int.natCast_nonneg n)];simp[hn]
 unfold atI;rw[e];exact h
section
variable {X:Cx}{Z:Fx0}{pn:List Nat}{q:Bool}{c:Ex}{e ep:Expr}{i:Nat}{p:List Nat}{pos:Pos}
theorem qvn(K:PySem.W.Frag)(h:PE X e (zV i)):PE X e (tP K i []):=qz h fun σ H Q ⟨d,v,u,hv,hu,q⟩=>by
 have hu:u=v:=hu;subst hu;exact⟨u,hv,q⟩
theorem qjf{K:PySem.W.Frag}{z:Int}{j:Nat}{cg:Pos}(n:Nat)(h:PE X e (tP K i p))(be:Wz (.Constant (.int z) j cg))(hK:autoParam (X.K=K) Ŕ)(hz:autoParam (z=(n:Int)) Ŕ):PE X (.Subscript e (.Constant (.int z) j cg) pos) (tP K i (p++[n])):=
 qz (vjb (hK▸qjv) h qvy be) fun σ H Q ⟨d,v,u,hv,hu,q⟩=>by
  subst hz;obtain⟨d',w,h1,h2⟩:=hu.snoc;obtain⟨a,xs,e1,sq,ex⟩:=h2.one;refine⟨d,v,w,hv,h1,?_⟩;rcases sq with sq|sq
  ·exact .inl ⟨a,xs,n,u,e1,rfl,.inl (.inl sq),XJ ex,q⟩
  ·exact .inr (.inl ⟨a,xs,n,u,e1,rfl,sq,XJ ex,q⟩)
theorem qj0{K:PySem.W.Frag}{H:Hp}{L:Ls}{y:Sl}(w:World K H L)(h:L[i]?=some (some y)):World K H (some y::L.set i none)/\Step H L H (some y::L.set i none):=by
 have wn:World K H (none::L):=⟨λy hy=>w.ok y (by simpa using hy),by simpa using w.nd,by simpa using w.ds⟩;have sn:Step H L H (none::L):=⟨λ_ _ z _=>z,λa z=>.inl (by simpa using z),λa z=>.inl (by simpa using z)⟩;exact⟨wn.perm (W9 h),sn.trans (Step.refl.perm (List.Perm.refl _) (W9 h))⟩
theorem qv8{K:PySem.W.Frag}{H:Hp}{x:Sl}(ok:x.ok K H)(h:x.d.pure=true):RepL K H false x.d x.v []:=(RepL.pu (g':=false) (RepO.wk ok) h).2
theorem vxy{K:PySem.W.Frag}{H:Hp}{l:Addr}{xs:List V}(h:H l=some (.lst xs)):tyV K "list" (.ref l) H:=.inl ⟨rfl,xs,.inl (.inl h)⟩
theorem vzz(hc:QE X Z q c e):QE X Z q (WV c) e:=qz hc fun σ H Q ay=>ex8 ay λE L r m w hr xc k=>by
 unfold WV at hr;rcases x9 hr with⟨E1,s,h1,h2⟩|⟨E1,cc,h1,h2⟩
 ·refine⟨E,L,_,m,w,h1,(λ_ _ z=>by cases z),λE' s' z x L' H' e1 e2 m' w' st sm=>?_⟩;injection z with z1 z2;subst z1 z2
  split at h2
  rotate_left
  ·cases h2
  rename_i hown;cases oq9 h2;have xn:x.own.Nodup:=by
   have:=w'.nd;rw[jz]at this;exact(List.nodup_append.mp this).1
  obtain⟨cs,rx,li,hcn⟩:=vw3 w'.head (by unfold Sl.sd;rw[e1,e2];exact hown) xn;have nd:=w'.nd;rw[jz,X7]at nd;refine k _ _ rfl ⟨.dp,x.d,x.v,cs⟩ L' H' rfl e2 m' ⟨λy hy=>?_,?_,λa ha=>?_⟩ ⟨st.keep,λa ha=>?_,λa ha=>?_⟩ λhq=>⟨(sm hq).1,λb hb=>(sm hq).2 b (li b hb)⟩
  ·rcases List.mem_cons.mp hy with z|z
   ·cases z;exact rx
   ·exact w'.ok y (lc9 _ z)
  ·rw[jz,X7];exact⟨hcn,nd.2.1,λa ha b hb=>nd.2.2 a (li a ha) b hb⟩
  ·have oh:a∈j7 (some x::L'):=by
    rw[jz]at ha ⊢;exact List.mem_append.mpr ((List.mem_append.mp ha).imp (li a) id)
   intro q2;rw[qk]at q2;refine w'.ds a oh ?_;rw[qk];exact lr9 _ ((List.mem_append.mp q2).elim (λz=>nomatch z) id)
  ·refine st.own a ?_;rw[jz]at ha ⊢;exact List.mem_append.mpr ((List.mem_append.mp ha).imp (li a) id)
  ·refine st.frz a ?_;rw[qk]at ha ⊢;exact lr9 _ ((List.mem_append.mp ha).elim (λz=>nomatch z) id)
 ·exact⟨E,L,_,m,w,h1,xc.map h2,λE' s' z=>by cases z⟩
end
end Q
namespace PySem
section
variable {prog:Program}{w:World}{A:Around}{E:Value->Shared->Prop}{s:Shared}
noncomputable def qzf(h:Heap)(d:Addr)(n:Nat):Prop:=∃o es ep,h.get? d=some o/\o.cls=.type "dict"/\o.data=.dict es ep/\es.size=n
theorem kjt(d:Addr)(hd:(d==sysModules)=false):
  MeetsIn prog w (Builtin.«dict.__len__» ⟨[.ref d],[]⟩) (λ_ R s=>∃n,qzf s.heap d n/\R (.ok (.ret (.int n s.toks))) { s with toks:=s.toks+1 }):=
 .of_wp λA R s ⟨n,⟨o,es,ep,ho,hc,hdat,hz⟩,h⟩=>by
  show wpAny _ _ (dictSize d >>= _) _ _ s;unfold dictSize;refine X0 (X0 (wpAny_dictEntries ho hdat (X4 ?_)));show wpAny _ _ (Builtin.Dict.pendingCount d >>= _) _ _ s;refine X0 (wpAny_pendingCount_other hd ?_);refine wpAny_ret_mkInt ?_;rw[Nat.add_zero,hz];exact h
theorem kq2{d:Addr}{n:Nat}{Q:Value->Shared->Prop}(hd:(d==sysModules)=false)(hm:qzf s.heap d n)(dz:(n:Int)<2 ^ 63)
  (h:Q (.int n (s.toks+1)) { s with toks:=s.toks+1+1 }):wpAny (model prog w) A (Builtin.«len» ⟨[.ref d],[]⟩) (λfin s'=>∃r,fin=.done (.ret r)/\Q r s') E s:=by
 have ht:s.TypeIs (.ref d) "dict":=by obtain⟨o,es,ep,ho,hc,_⟩:=hm;exact⟨o,ho,hc⟩
 unfold Builtin.«len»;refine X0 (m:=oneArg "len" _) (X4 ?_);refine X0 (m:=callSpecial? (.ref d) (Str.ofString "__len__")) (wpAny_callSpecial?_slot (name:=Str.ofString "__len__") ht F.slot_dict_len
  (call_meetsIn F.slot_dict_len ht F.entry_dict_len (F.args_dict_len_1 _) (kjt d hd) ⟨n,hm,?_⟩))
 show wpAny _ _ _ _ _ { s with toks:=s.toks+1 };refine X0 (Yb (X4 ?_));refine X0 (wpAny_letGo ?_);show wpAny _ _ (if((n:Nat):Int)<0 then _ else _) _ _ _;rw[Xe (by omega)];show wpAny _ _ (if((n:Nat):Int)>=2 ^ 63 then _ else _) _ _ _;rw[Xe (by omega)];exact X0 (wpAny_mkInt (X4 ⟨_,rfl,h⟩))
theorem kq7{d:Addr}{n:Nat}{Q:Value->Shared->Prop}(hd:(d==sysModules)=false)(hm:qzf s.heap d n)(dz:(n:Int)<2 ^ 63)
  (h:Q (.int n (s.toks+1)) { s with toks:=s.toks+1+1 }):wpAny (model prog w) A (call (.builtin "len") [.ref d]) Q E s:=
 Calls.call_function_entry kind_len plain_len entry_len (args_len1 _) (kq2 hd hm dz h)
end
end PySem
namespace Q
open PySem PySem.Spec PyProof.Rows L2 L3
noncomputable def vzq(K:PySem.W.Frag):List V->Hp->VK->Prop:=λxs H Q=>∃a ks vs,xs=[.ref a]/\DcN K H a ks vs/\Q (.int ks.length) H
theorem kxd{X:Cx}(K:PySem.W.Frag):CallR X (.builtin "len") (vzq K):=by
 intro pins s σ H xs us Q I r ⟨a,ks,vs,e,⟨es,ep,hH,hs,hl,_,hk,_⟩,q⟩;subst e;cases r with
 | cons r1 r2=>
  cases r2;cases r1;obtain⟨ob,gc,g1,g2,g3,g4⟩:=vxa I hH;have av:ks.length=gc.size:=by
   have:=congrArg List.length g4;rw[X5,Ya]at this;rw[hk,X5];exact this.symm
  have hz:es.length=ks.length:=by rw[hk,X5]
  exact kq7 (n:=ks.length) hs ⟨ob,gc,ep,g1,g2.1,g3,av.symm⟩ (by rw[sizeLine_eq]at hl;omega) ⟨.int ks.length,H,I.tok _,⟨_,rfl⟩,q⟩
theorem qzc{K:PySem.W.Frag}:Ad1 K (λv H Q=>vzq K [v] H Q) (pu1 WW):=by
 intro H x s Q ok hf k;have hf:(WW x.d).map (λd=>(Own.dp,d))=some s:=hf;cases hd:x.d with
 | dct kvs=>
  rw[hd]at hf;unfold WW at hf;dsimp only at hf
  by_cases hu:unm kvs=true
  ·rw[Xa hu]at hf;cases oq9 hf;obtain⟨a,xs,e,dn⟩:=vqg ok hd hu;refine⟨a,kvs.map (·.1),xs,by rw[e],dn,?_⟩;rw[X5];exact k ⟨.dp,.int kvs.length,.int kvs.length,[]⟩ H rfl rfl (kj0 (λ_ _ h=>h) KJ)
  ·rw[Xe hu]at hf;cases hf
 |_=>rw[hd]at hf;cases hf
section
variable {X:Cx}{pins:List (Addr×Obj)}{σ:L2.St}{H:Hp}{s:Shared}{a b:Addr}{es:List Ent}{A:Around}{E:Value->Shared->Prop}{k:Kd}{r:Value}
theorem vk2{ep:Nat}{Q:Value->Shared->Prop}(hu:A.units+64<cLine)(I:Inv X pins σ H s)(e:H a=some (qK a es ep))(hs:(a==sysModules)=false)(h2:es.length<=sizeLine)(h3:(es.map (·.1)).Nodup)(h5:∀x∈es,PuR X.K H x.1.1 (.ref x.2.1))(hk:PuR X.K H k.1 (.ref b))
  (h1:∀p,atKey es k=some p->∀s',Inv X pins σ H s'->Q p.2 s') (h4:atKey es k=none->∀ep' s',Inv X pins σ (upd H a (qK a (storedH es k b r) ep')) s'->Q r s'):
  wpAny (model X.prog X.w) A (call (.builtin "dict.setdefault") [.ref a,.ref b,r]) Q E s:=by
 have dd:=vqf I e h3 h5;refine call_meetsIn PySem.F.slot_dict_setdefault dd.typeIs PySem.F.entry_dict_setdefault (PySem.F.args_dict_setdefault_3 _ _ _) (jvq (kzz X.prog X.w) a b hs r) ⟨?_,k,es,jzy I hk rfl,dd,h2,λp hp=>h1 p hp _ (I.tok _),λhn h' dd' hss=>?_⟩
 ·exact vv4 hu
 ·obtain⟨q,ds,ep',hq,g2,g3,g4,_,_⟩:=dd';exact h4 hn ep' _ (qxo I (by rw[e];exact True.intro) hss ⟨q,hq⟩ ⟨⟨q,ds,hq,g2,g3,g4⟩,⟨q,hq⟩,λh1 h2 ⟨o,ds,a1,a2⟩ k=>⟨o,ds,k o a1,a2⟩⟩)
end
abbrev qzl(K:PySem.W.Frag)(td ty tx:TE):TE:=fun σ H Q=>td σ H λx H1=>∃a,x=.ref a/\(∃es ep,H1 a=some (qK a es ep))/\ty σ H1 λy H2=>tx σ H2 λz H3=>∃b k es ep,y=.ref b/\H3 a=some (qK a es ep)/\(a==sysModules)=false/\es.length<=sizeLine/\(es.map (·.1)).Nodup/\(∀x∈es,PuR K H3 x.1.1 (.ref x.2.1))/\PuR K H3 k.1 (.ref b) /\
 (∀p,atKey es k=some p->∃v,RelV v p.2/\Q v H3)/\(atKey es k=none->∀r ep',RelV z r->Q z (upd H3 a (qK a (storedH es k b r) ep')))
section
variable {X:Cx}{o e f:Expr}{apos aq:Pos}{td ty tx:TE}
theorem qku(hu:X.A.units+64<cLine)(ho:PE X o td)(he:PE X e ty)(hf:PE X f tx)(m:M2 X o "setdefault" apos e f aq):PE X (.Call (.Attribute o "setdefault" apos) [e,f] [] aq) (qzl X.K td ty tx):=by
 intro pins s σ H Q I h;refine wpAny_Call_method m.base m.few m.line PySem.F.plainAttrs_dict PySem.F.slot_dict_setdefault PySem.F.type_dict_setdefault (thn (ho pins s σ H _ I h) λu s1 ⟨x,H1,I1,rx,a,ex,⟨es0,ep0,d⟩,q1⟩=>?_);subst ex;obtain rfl:u=Value.ref a:=rx;obtain⟨ob,gc,g1,g2,g3,g4⟩:=vxa I1 d;refine⟨⟨ob,g1,g2.1⟩,λb z=>by cases z;exact⟨ob,g1,g2.2.1⟩,?_⟩;rw[m.trees];refine Ys rfl (Calls.evalArgs_plain (Calls.spliced_cons (thn (he pins s1 σ H1 _ I1 q1) λiv s2 ⟨y,H2,I2,ry,q2⟩=>
  Calls.spliced_cons (thn (hf pins s2 σ H2 _ I2 q2) λfv s3 ⟨z,H3,I3,rz,b,k,es,ep,ey,ea,hs,hl,hn,h5,hk,q4,q5⟩=>Calls.spliced_nil ?_))))
 subst ey;obtain rfl:iv=Value.ref b:=ry;exact vk2 hu I3 ea hs hl hn h5 hk (λp hp s4 I4=>by obtain⟨v,rv,q3⟩:=q4 p hp;exact⟨v,H3,I4,rv,q3⟩) λcx ep' s4 I4=>⟨z,_,I4,rz,q5 cx fv ep' rz⟩
end
theorem qx6 {K : PySem.W.Frag} {H : Hp} {k : Kd}: ∀{kvs : List (D × D)} {xs : List V} {bs : List Addr} {es : List Ent}, RepP K H true kvs xs bs -> kvs.map (·.1) = es.map (·.1.1) -> Vals xs (es.map (·.2.2)) -> D.pures (kvs.map (·.2)) = true ->
    (∀ p, atKey es k = some p -> ∃d v, x6 kvs k.1 = some d /\ RelV v p.2 /\ RepL K H false d v [] /\ d.pure = true) /\ (atKey es k = none -> x6 kvs k.1 = none)
  | [], _, _, [], _, _, _, _=>⟨λp h=>(by cases h), λ_=>rfl⟩
  | [], _, _, _::_, _, h, _, _=>by cases h
  | _ :: _, _, _, [], _, h, _, _=>by cases h
  | (q, d)::kvs, xs, bs, e::es, hr, hk, hv, hp=>by
    unfold RepP at hr;obtain⟨x, r, b1, c1, rfl, _, h1, h2⟩:= hr;rw [List.map_cons, List.map_cons]at hk;injection hk with k1 k2;rw [List.map_cons]at hv hp;cases hv with
    | cons v1 v2=>
      unfold D.pures at hp;rw [Bool.and_eq_true]at hp;have ih:= qx6 (k:= k) h2 k2 v2 hp.2;have k1 : q = e.1.1:= k1
      by_cases he : e.1 = k
      · have hq : q = k.1:= by rw[k1, he]
        have hg : x6 ((q, d)::kvs) k.1 = some d:= by unfold x6; rw[List.find?_cons_of_pos (by simp[hq])]; rfl
        have ha : atKey (e::es) k = some e.2:= by
          obtain⟨ek, ev⟩:= e;have he : ek = k:= he;simp[atKey, he]
        refine⟨λp nu=> ?_, λhn=> ?_⟩
        · rw[ha]at nu
          cases oq9 nu;exact⟨d, x, hg, v1, (RepL.pu (g':= false) h1 hp.1).2, hp.1⟩
        · rw[ha]at hn; cases hn
      · have hq : q≠k.1:= λz=>he (Subtype.ext (by rw[<-k1]; exact z))
        have hg : x6 ((q, d)::kvs) k.1 = x6 kvs k.1:= by unfold x6; rw[List.find?_cons_of_neg (by simp[hq])]
        have ha : atKey (e::es) k = atKey es k:= by
          obtain⟨ek, ev⟩:= e;have he : ¬ek = k:= he;simp[atKey, he]
        rw[hg, ha];exact ih
section
variable {X:Cx}{Z:Fx0}{pn:List Nat}{q qa:Bool}{kc vc a b:Ex}{o ke ve ea eb:Expr}{pos cg apos aq:Pos}
theorem vzy{i:Nat}(hu:X.A.units+64<cLine)(ho:PE X o (zV i))(hk:QV X Z true kc ke)(hv:QV X Z true vc ve)(hK:autoParam (X.K=Z.K) Ŕ)(hm:M2 X o "setdefault" apos ke ve aq:=by exact⟨rfl,rfl,rfl,rfl⟩):QE X Z false (qz0 i kc vc) (.Call (.Attribute o "setdefault" apos) [ke,ve] [] aq):=
 qz (hK▸qku hu ho hk hv hm) fun σ H Q ay=>ex8 ay λE L r m w hc xc k=>by
  unfold qz0 at hc
  by_cases hD:wqy E[i]?=true
  rotate_left
  ·rw[Xe hD]at hc;cases hc
  rw[Xa hD]at hc;obtain⟨kvs0,h0,hu0⟩:∃kvs,E[i]?=some (some (.rt,.dct kvs))/\unm kvs=true:=by
   unfold wqy at hD
   split at hD
   ·rename_i kvs h;exact⟨kvs,h,hD⟩
   ·cases hD
  obtain⟨x0,a1,a2,a3,a4⟩:=m.get h0;obtain⟨l0,xs0,el0,⟨es0,ep0,hH0,_⟩⟩:=vqg (w.ok x0 (wQ a1)) a3 hu0;refine⟨x0.v,a4,l0,el0,⟨es0,ep0,hH0⟩,?_⟩;refine wK m w hc xc λE2 s2 h2 y L2 H2 e3 e4 m2 w2 ir rj qc bn fj=>?_
  refine wK m2 w2 h2 (xc.step bn) λE3 s3 h3 t L3 H3 e5 e6 m3 w3 ok3 oe sr3 dj sm3=>?_
  split at h3
  rotate_left
  ·cases h3
  rename_i kvs hE
  split at h3
  rotate_left
  ·cases h3
  rename_i gz;obtain⟨fy,av,hunm,mf,hps⟩:=gz;obtain⟨z,b1,b2,b3,b4⟩:=m3.get hE;have hzv:z.v=x0.v:=by rw[a4]at b4;exact(oq9 (oq9 b4)).symm
  have okz:RepR Z.K H3 (.dct kvs) z.v z.as:=by
   have:=w3.ok z (wQ b1);unfold Sl.ok at this;rw[b2,b3]at this;exact this
  obtain⟨l,xs,bs,c1,c2,c3,c4⟩:=okz;have hll:l=l0:=by
   have:V.ref l=V.ref l0:=by rw[<-c1,hzv,el0]
   injection this
  subst hll;obtain⟨es,ep,d1,d2,d3,d4,d5,d6,d7⟩:=DcA.un c3 hunm;have ok2':y.ok Z.K H3:=RepO.kp ir (Kp.of_same (sm3 rfl));obtain⟨b,eb,pb⟩:=kqf ok2' (by rw[e4];exact fy);have ln:jZ 6 y.d=true:=by
   have:xY y.d=true:=by rw[e4];exact fy
   unfold xY at this;rw[Bool.and_eq_true]at this;exact this.1
  have ht:=qv8 ok3 (by rw[e6];exact mf);obtain⟨g1,g2⟩:=qx6 (k:=⟨y.d,ln⟩) c2 d5 d7 hps;have hyk:(⟨y.d,ln⟩:Kd).1=s2.2:=e4;have gf:es.length<sizeLine:=by
   have:=congrArg List.length d5;rw[X5,X5]at this;rw[<-this];exact av
  refine⟨b,⟨y.d,ln⟩,es,ep,eb,d1,d2,d3,d4,d6,pb,λp hp=>?_,λhn rr ep' hrr=>?_⟩
  ·obtain⟨d,v',q1,q2,q3,q4⟩:=g1 p hp;rw[hyk]at q1;rw[q1]at h3;cases oq9 h3;exact⟨v',q2,k _ _ rfl ⟨.dp,d,v',[]⟩ L3 H3 rfl rfl m3 (w3.consPu q3 rfl) (K5 (x:=⟨.dp,d,v',[]⟩) (bn.trans dj) (λb hb=>nomatch hb) rfl) λz=>nomatch z⟩
  ·have q1:=g2 hn;rw[hyk]at q1;rw[q1]at h3;cases oq9 h3;have pj:=vqi es (⟨y.d,ln⟩:Kd);rw[hn]at pj;have hnm:y.d∉es.map (·.1.1):=of_decide_eq_false pj.symm;rw[storedH_new hn];have rt:RepL Z.K H3 true s3.2 t.v []:=by rw[<-e6];exact(RepL.pu (g':=true) (RepO.wk ok3) (by rw[e6];exact mf)).2
   have rp:=kw9 (q:=s2.2) rt c2;rw[Xr]at rp;obtain⟨w4,jn⟩:=qvm (ep':=ep') (T:=[]) (i:=i) (y:=z) (es':=es++[(⟨y.d,ln⟩,b,rr)]) (xs':=xs++[t.v]) (cs:=bs) (kvs':=kvs++[(s2.2,s3.2)]) (by simpa using w3) b1 d1 b2 c4 c1 rp (λa h=>.inl h) d2 (by rw[Xi,Yj];omega) (by
    rw[Y0,X7];refine⟨d4,List.nodup_cons.mpr ⟨Xv,Xs⟩,λp nu q hq e=>?_⟩;have:q=⟨y.d,ln⟩:=List.mem_singleton.mp hq;subst this e;obtain⟨n,lv,hn2⟩:=List.mem_map.mp nu;exact hnm (List.mem_map.mpr ⟨n,lv,by rw[hn2]⟩)) (by rw[Y0,Y0,d5,<-e4];rfl) (λn nl=>by
    rcases List.mem_append.mp nl with z|z
    ·exact d6 n z
    ·rw[List.mem_singleton.mp z];exact pb) (by rw[Y0];exact kvw d7 hrr)
   have ht2:RepL Z.K (upd H3 l (qK l (es++[(⟨y.d,ln⟩,b,rr)]) ep')) false s3.2 t.v []:=by
    rw[<-e6];refine ht.kp ⟨λa zs e=>?_,λa o u e=>?_,λa ha=>nomatch ha⟩
    ·rw[kJ (λz=>by subst z;rw[d1]at e;cases e)];exact e
    ·rw[kJ (λz=>by subst z;rw[d1]at e;cases e)];exact e
   have mm:=m3.set (x:=⟨.rt,.dct (kvs++[(s2.2,s3.2)]),z.v,l::bs⟩) i;rw[Vj b4]at mm;exact k _ _ rfl ⟨.dp,s3.2,t.v,[]⟩ _ _ rfl rfl mm (w4.consPu ht2 rfl) (K5 (x:=⟨.dp,s3.2,t.v,[]⟩) ((bn.trans dj).trans (by simpa using jn)) (λb hb=>nomatch hb) rfl) λz=>nomatch z
end
end Q
namespace Q
open PySem PySem.Spec PyProof.Rows L2 L3
noncomputable def spM(K:PySem.W.Frag)(mg:Str->Option Value)(n:Nat)(f:Fn):Sp:=λvs H Q E=>∃(xs:List Sl) (y:Sl) (r:Res Sd),vs=xs.map Sl.v++[y.v]/\xs.length=n/\World K H ((xs++[y]).map some)/\f ((xs++[y]).map Sl.sd)=some r /\
 (∀E' c,r=.exc E' c->∀C H',mg c=some (.ref C)->Step H ((xs++[y]).map some) H' []->E (.ref C) none H') /\
 ∀E' a,r=.ok E' a->∃sd,E'[n]?=some (some sd)/\∀(x y':Sl) H',x.o=a.1->x.d=a.2->y'.o=sd.1->y'.d=sd.2->y'.v=y.v->World K H' [some x,some y']->Step H ((xs++[y]).map some) H' [some x,some y']->Q x.v H'
theorem qqy{K:PySem.W.Frag}{mg:Str->Option Value}{n:Nat}{f:Fn}{ps:List Str}(hn:ps.length=n+1):∀vs H Q E,spM K mg n f vs H Q E->vs.length=ps.length:=λvs H Q E ⟨xs,y,r,e,hl,_⟩=>by rw[e,Xi,X5,hl,hn];rfl
theorem kqt{L:Ls}{x y:Sl}{i:Nat}(h:L[i]?=some (some y)):(sls [some x,some y]).Sublist (sls (some x::L)):=by
 have:y∈sls L:=mem_sls.mpr (wQ h);show(x::[y]).Sublist (x::sls L);exact(List.singleton_sublist.mpr this).cons₂ x
theorem qxc{X:Cx}{K:PySem.W.Frag}{mg:Str->Option Value}{N:List Str}{n nn:Nat}{B:Sm}{body:List Stmt}{H:Hp}{vs:List V}{Q:VK}{E:XK}(hN:N.length=nn)(t:QSs X ⟨K,mg,E⟩ [n] B body)(h:spM K mg n (fn nn B) vs H Q E):
  ∃t,PSs X body t/\t { nx:=λ_ H'=>Q .non H',rt:=Q } (L2.start N vs) H:=by
 refine⟨_,t,?_⟩;obtain⟨xs,y,r,rfl,hl,w,hf,hx,hk⟩:=h;unfold fn at hf;rw[X5,Y9]at hf;have m:=kj3 (xs++[y]) (nn - (xs++[y]).length);have e1:L2.start N (xs.map Sl.v++[y.v])=(xs++[y]).map (λx=>some x.v)++List.replicate (nn - (xs++[y]).length) none:=by
  unfold L2.start;rw[show xs.map Sl.v++[y.v]=(xs++[y]).map Sl.v by simp,Y9,X5,hN];rfl
 have hy0:(L2.start N (xs.map Sl.v++[y.v]))[n]?=some (some y.v):=by
  rw[e1,Xq (by simp[hl])];simp[hl]
 have wL:World K H ((xs++[y]).map some++List.replicate (nn - (xs++[y]).length) none):=w.same (by simp);have sL:Step H ((xs++[y]).map some) H ((xs++[y]).map some++List.replicate (nn - (xs++[y]).length) none):=Step.refl.same (List.Perm.refl _) (by simp);have fin:∀{E1:En} {σ':L2.St} {L':Ls} {sd:Sd},E1[n]?=some (some sd)->Pn [n] (L2.start N (xs.map Sl.v++[y.v])) σ'->Mt E1 σ' L'->∃y':Sl,L'[n]?=some (some y')/\y'.o=sd.1/\y'.d=sd.2/\y'.v=y.v:=λhE p m'=>by
  obtain⟨y',a1,a2,a3,a4⟩:=m'.get hE;refine⟨y',a1,a2,a3,?_⟩;have:=p n (List.mem_singleton.mpr rfl);rw[a4,hy0]at this;exact oq9 (oq9 this)
 cases hB:B ((xs++[y]).map (λx=>some x.sd)++List.replicate (nn - (xs++[y]).length) none)with
 | none=>rw[show(some∘Sl.sd)=(λx:Sl=>some x.sd)from rfl,hB]at hf;cases hf
 | some g=>
  rw[show(some∘Sl.sd)=(λx:Sl=>some x.sd)from rfl,hB]at hf;refine⟨_,_,g,e1▸m,wL,hB,?_⟩;cases g with
  |nx E1=>
   cases oq9 hf;intro σ' L' H' p m' w' s';obtain⟨sd,hE,hk⟩:=hk _ _ rfl;obtain⟨y',b1,b2,b3,b4⟩:=fin hE p m';have wx:World K H' (some (⟨.dp,.non,.non,[]⟩:Sl)::L'):=w'.consPu (show RepL K H' false .non .non []from kxx) rfl;have sx:Step H ((xs++[y]).map some) H' (some (⟨.dp,.non,.non,[]⟩:Sl)::L'):=K5 (x:=⟨.dp,.non,.non,[]⟩) (sL.trans s') (λb hb=>(nomatch hb)) rfl;exact hk ⟨.dp,.non,.non,[]⟩ y' H' rfl rfl b2 b3 b4 (wx.sub (kqt b1)) (sx.sub (kqt b1))
  |rt E1 a=>
   cases oq9 hf;intro x σ' L' H' e2 e3 p m' w' s';obtain⟨sd,hE,hk⟩:=hk _ _ rfl;obtain⟨y',b1,b2,b3,b4⟩:=fin hE p m';exact hk x y' H' e2 e3 b2 b3 b4 (w'.sub (kqt b1)) ((sL.trans s').sub (kqt b1))
  |xc E1 c=>
   cases oq9 hf;intro C σ' L' H' hm _ m' w' s';exact hx _ _ rfl C H' hm ((sL.trans s').sub (by simp))
  |ct E1=>cases hf
  |bk E1=>cases hf
noncomputable def tAM(Z:Fx0)(q:Bool)(cs:List Ex)(i:Nat):TA:=fun σ H Q=>∃E L r,Mt E σ L/\World Z.K H L/\v4 cs E=some r/\Xc Z σ H L r /\
 ∀E' ys,r=.ok E' ys->∀(xs:List Sl) L' H',xs.map Sl.sd=ys->Mt E' σ L'->World Z.K H' (xs.map some++L')->Step H L H' (xs.map some++L')->(q=true->kj H H'/\∀b∈j7 (xs.map some),H b=none)->∃v,σ[i]?=some (some v)/\Q (xs.map Sl.v++[v]) H'
section
variable {X:Cx}{Z:Fx0}{q:Bool}{c:Ex}{cs:List Ex}{e:Expr}{es:List Expr}{pos p:Pos}{x:Str}{ps:List Str}{k n i:Nat}{f:Fn}
theorem wxm(h:PE X e (zV i))(b8:autoParam (starEach [e] X.env=(false,eval e X.env)::starEach [] X.env) Ŕ):PA X [e] (tAM Z q [] i):=Zq (wv h xj b8) fun σ H Q ay=>ex8 ay λE L r m w hc xc k=>by
 cases oq9 hc;obtain⟨v,hv,q⟩:=k _ _ rfl [] L H rfl m w Step.refl λ_=>⟨λ_ _ z=>z,λ_ z=>(nomatch z)⟩
 exact⟨v,hv,q⟩
theorem wqu(h:QE X Z q c e)(hs:PA X es (tAM Z q cs i))(b8:autoParam (starEach (e::es) X.env=(false,eval e X.env)::starEach es X.env) Ŕ):PA X (e::es) (tAM Z q (c::cs) i):=
 Zq (wv h hs b8) fun σ H Q ay=>ex8 ay λE L r m w hc xc k=>by
  refine VX m w (show bnd (c E) _=some r from hc) xc λE1 s h1 x L1 H1 e1 e2 m1 w1 st sm=>?_
  have s1:Step H L H1 L1:=st.trans Step.drop;rcases x9 h1 with⟨E2,ys,h2,h3⟩|⟨E2,cc,h2,h3⟩
  ·cases oq9 h3;refine⟨E1,L1,_,m1,w1.tail,h2,(λ_ _ z=>by cases z),λE' ys' z xs L2 H2 e3 m2 w2 bn fj=>?_⟩;injection z with z1 z2;subst z1 z2;obtain⟨w3,dj⟩:=wv0 (T:=[some x]) w1 bn w2;refine k _ _ rfl (x::xs) L2 H2 (by rw[List.map_cons,e3];simp[Sl.sd,e1,e2]) m2 w3 (st.trans dj) λhq=>?_
   obtain⟨a1,a2⟩:=sm hq;obtain⟨b1,b2⟩:=fj hq;refine⟨v3 a1 b1,λb hb=>?_⟩;rw[List.map_cons,jz]at hb;rcases List.mem_append.mp hb with z|z
   ·exact a2 b z
   ·exact xZ a1 (b2 b z)
  ·exact⟨E1,L1,_,m1,w1.tail,h2,(xc.step s1).map h3,λE' s' z=>by cases z⟩
theorem qzt{L:Ls}{y:Sl}(h:L[i]?=some (some y)):(sls L).Perm (y::sls (L.set i none)):=by
 have:=(W9 h).filterMap id;exact this
theorem qvl(D:kW X.prog X.w X.K X.mg X.base k x ps (spM Z.K Z.mg n f))(hr:Room k X.A)(g:xv X Z.EX)(ha:PA X (e::es) (tAM Z q cs i))(hn:autoParam (cs.length=n) Ŕ)(hg:autoParam (Gl X x) Ŕ)(cj:autoParam ((x==("__debug__":Str))=false) ŕ)
  (he:autoParam (starEach (e::es) X.env=(false,eval e X.env)::starEach es X.env) Ŕ) (be:autoParam ((backTo pos (starEach es X.env)).any (·.1)=false) Ŕ):
  QE X Z false (Z9 f i cs) (.Call (.Name x p) (e::es) [] pos):=qz (vq2 D hr g ha hg cj he be) fun σ H Q ay=>ex8 ay λE L r m w hc xc kk=>by
 rcases x9 (show bnd (v4 cs E) _=some r from hc)with⟨E1,ys,h1,h2⟩|⟨E1,cc,h1,h2⟩
 rotate_left
 ·exact⟨E,L,_,m,w,h1,xc.map h2,λE' s' z=>by cases z⟩
 refine⟨E,L,_,m,w,h1,(λ_ _ z=>by cases z),λE' ys' z xs L1 H1 e1 m1 w1 st sm=>?_⟩;injection z with z1 z2;subst z1 z2;have av:xs.length=n:=by rw[<-hn,<-jw6 h1,<-e1,X5]
 have hyl:ys.length=n:=by rw[<-hn];exact jw6 h1
 split at h2
 rotate_left
 ·cases h2
 rename_i x0 hE;obtain⟨o0,d0⟩:=x0;obtain⟨y,a1,a2,a3,a4⟩:=m1.get hE;refine⟨y.v,a4,?_⟩;dsimp only;rw [Xr];obtain⟨wl,sl⟩:=jw9 w1;have pm:(sls ((xs.map Sl.let).map some++L1)).Perm (sls ((xs.map Sl.let++[y]).map some++L1.set i none)):=by
  have e2:∀A B:Ls,sls (A++B)=sls A++sls B:=λA B=>List.filterMap_append ..
  rw[Y0,Xp,e2,e2];exact List.Perm.append_left _ (qzt a1)
 have wl2:=wl.same pm;have lw:Step H L H1 ((xs.map Sl.let++[y]).map some++L1.set i none):=(st.trans sl).trans (Step.refl.same (List.Perm.refl _) pm);cases hf:f (letAll ys++[(o0,d0)])with
 | none=>rw[hf]at h2;cases h2
 | some fr=>
  rw[hf]at h2;refine⟨xs.map Sl.let,y,fr,by rw[Y9];rfl,by rw[X5];exact av,wl2.left,?_,λE' c ee C H' hm s'=>?_,λE' a ee=>?_⟩
  ·rw[Y0,kvd,e1];show f (letAll ys++[(y.o,y.d)])=some fr;rw[a2,a3];exact hf
  ·subst ee;cases oq9 h2;obtain⟨w2,s2⟩:=stay wl2 s' ⟨λ_ z=>(nomatch z),Xs,λ_ z=>(nomatch z)⟩;exact xc _ _ rfl C _ H' hm (kva i m1) w2 (lw.trans s2)
  ·subst ee;dsimp only at h2
   split at h2
   rotate_left
   ·cases h2
   rename_i x' hE';cases oq9 h2;rw[hyl]at hE';refine⟨x',hE',λx y' H' e2 e3 e4 e5 e6 w' s'=>?_⟩;obtain⟨w2,s2⟩:=stay wl2 s' w';have mn:([some x,some y']++L1.set i none).Perm (some y'::(some x::L1.set i none)):=List.Perm.swap ..;have w3:=(w2.perm mn).set (i:=i+1);rw[List.set_cons_succ,List.set_set]at w3;have s3:Step H L H' (some x::L1.set i (some y')):=by
    have:=(lw.trans (s2.perm (List.Perm.refl _) mn)).trans (Step.set (i:=i+1));rw[List.set_cons_succ,List.set_set]at this;exact this
   have mm:=Qv (i:=i) (x:=y') (s:=x') m1 e4 e5;rw[e6,Vj a4]at mm;exact kk _ _ rfl x _ H' e2 e3 mm w3 s3 λz=>nomatch z
end
end Q
namespace Q
open PySem PySem.Spec PyProof.Rows L2 L3
abbrev vz3(K:PySem.W.Frag)(UC:Addr)(tb:XK->TS)(ts:TS):TS:=λD σ H=>∃E:XK,tb E D σ H/\∀x Cv H',E Cv none H'->H' x=none->∃C,Cv=.ref C/\PySem.W.exmOne K (.ref C) (.ref UC)=some true/\XCls K C/\ts D σ H'
theorem vvp{X:Cx}{ux:Str}{np fm pos:Pos}{UC:Addr}{st b0:Stmt}{d8:List Stmt}{tb:XK->TS}{ts:TS}(top:xw X)(hU:X.mg ux=some (.ref UC))(hb:PSX X st tb)
  (hs:∀x,PSs (tX X x) (b0::d8) ts) (hg:autoParam (Gl X ux) Ŕ) (cj:autoParam ((ux==("__debug__":Str))=false) ŕ):
  PS X (.Try [st] [.ExceptHandler (some (.Name ux np)) none (b0::d8) fm] [] [] pos) (vz3 X.K UC tb ts):=by
 intro pins s σ H D I ⟨E,h1,h2⟩;refine wpAny_Try_except (wpAny_execs_cons (Z4 (hb E pins s σ H D I h1) (λf s1 q=>?_) (λe s1 q=>?_)))
 ·cases f with
  |next=>exact Yo (Yo q)
  |ret v=>exact q
  |brk=>exact q
  |cont=>exact q
 ·obtain⟨H',x,Cv,rfl,I1,f1,q1⟩:=q;refine kwp top rfl I1 f1 λL T s2 _ t2=>Vq t2 λs3 t3=>?_
  obtain⟨C,rfl,hm,xc,ht⟩:=h2 x Cv H' q1 t3.fx.1;refine wpAny_handleBy_cons (codeAny_handlers_test ?_) (λz=>nomatch z);obtain⟨vs,ho,hv⟩:=t3.f.ex;have I3:Inv (tX X x) pins σ H' s3:=qjx t3.inv;refine VW I3 hg hU ?_ cj;have at3:PySem.W.InstAt s3.heap x { cls:=.ref C,data:=.fields vs } C none:=⟨ho,rfl,rfl,trivial⟩;refine Lk (PySem.W.exm_one t3.inv.kIn at3.type hm) ?_;show codeAny _ _ _ _ s3;refine codeAny_handlers_suite (Vq t3 λs4 t4=>?_);have I4:Inv (tX X x) pins σ H' s4:=qjx t4.inv;refine Z4 (hs x pins s4 _ _ _ I4 ht) (λf s6 q=>?_) λ_ _ z=>z.elim
  have bk:∀{σ6:L2.St} {H6:Hp},Inv (tX X x) pins σ6 H6 s6->Inv X pins σ6 H6 s6:=λz=>qwz I.ok z
  cases f with
  |next=>
   obtain⟨σ6,H6,I6,q6⟩:=q;exact⟨_,_,bk I6,q6⟩
  |brk=>
   obtain⟨σ6,H6,I6,q6⟩:=q;exact⟨_,_,bk I6,q6⟩
  |cont=>
   obtain⟨σ6,H6,I6,q6⟩:=q;exact⟨_,_,bk I6,q6⟩
  |ret v=>
   obtain⟨v',σ6,H6,I6,r6,q6⟩:=q;exact⟨v',_,_,bk I6,r6,q6⟩
section
variable {X:Cx}{Z:Fx0}{pn:List Nat}{q:Bool}{b:Ex}{e:Expr}{pos:Pos}
theorem qqp{UC:Addr}{cs:List Str}{B h:Sm}{tb:XK->TS}{D:Ends}{σ:L2.St}{H:Hp}(hK:X.K=Z.K)(ca:VJ X.K Z.mg UC cs)
  (hb:∀(EX:XK) E L r,Mt E σ L->World Z.K H L->B E=some r->(∀E' c,r=.xc E' c->∀C L' H',Z.mg c=some (.ref C)->Mt E' σ L'->World Z.K H' L'->Step H L H' L'->EX (.ref C) none H')->((∀E' c,r≠.xc E' c)->FlP Z pn D σ H L r)->tb EX D σ H)
  (hr:tS Z pn (Kq cs B h) D σ H):vz3 X.K UC tb (tS ⟨Z.K,Z.mg,λ_ _ _=>False⟩ pn h) D σ H:=by
 obtain⟨E,L,r,m,w,hr,k⟩:=hr;have hr:Kq cs B h E=some r:=hr;cases hB:B E with
 | none=>unfold Kq at hr;rw[hB]at hr;cases hr
 | some rb=>
  refine⟨λCv _ H'=>∃E1 c C L1,rb=.xc E1 c/\Cv=.ref C/\Z.mg c=some (.ref C)/\Mt E1 σ L1/\World Z.K H' L1/\Step H L H' L1,hb _ E L rb m w hB (λE' c e C L' H' hm m' w' st=>⟨E',c,C,L',e,rfl,hm,m',w',st⟩) (λcx=>?_),?_⟩
  ·unfold Kq at hr;rw[hB]at hr;cases rb with
   | xc E1 c1=>exact absurd rfl (cx E1 c1)
   | nx E1=>cases oq9 hr;exact k
   | ct E1=>cases oq9 hr;exact k
   | bk E1=>cases oq9 hr;exact k
   | rt E1 x=>cases oq9 hr;exact k
  ·rintro x Cv H' ⟨E1,c,C,L1,rfl,rfl,hm,m1,w1,gj⟩ hx;unfold Kq at hr;rw[hB]at hr;dsimp only at hr
   by_cases hc:c∈cs
   ·rw[Xa hc]at hr;obtain⟨C',g1,g2,g3,g4⟩:=ca c hc;rw[hm]at g1;cases oq9 g1;refine⟨C,rfl,g3,g4,?_⟩;cases hh:h E1 with
    |none=>rw[hh]at hr;cases hr
    |some rh=>
     rw[hh]at hr;have k2:=k.step gj Pn.refl;refine⟨E1,L1,rh,m1,w1,hh,?_⟩;cases rh with
     |xc E2 c2=>cases hr
     |nx E2=>cases oq9 hr;exact k2
     |ct E2=>cases oq9 hr;exact k2
     |bk E2=>cases oq9 hr;exact k2
     |rt E2 x=>cases oq9 hr;exact k2
   ·rw[Xe hc]at hr;cases hr
theorem vzw{ux:Str}{np fm jh:Pos}{UC:Addr}{b0:Stmt}{d8:List Stmt}{cs:List Str}{h:Sm}(top:xw X)(hU:X.mg ux=some (.ref UC))(hK:X.K=Z.K)(ca:VJ X.K Z.mg UC cs)(hb:QEX X Z q b e)
  (hs:∀x,QSs (tX X x) ⟨Z.K,Z.mg,λ_ _ _=>False⟩ pn h (b0::d8)) (jc:autoParam (swapsWith e none pos.line X.env=pure false) Ŕ) (hg:autoParam (Gl X ux) Ŕ) (cj:autoParam ((ux==("__debug__":Str))=false) ŕ):
  QS X Z pn (Kq cs (Qz b) h) (.Try [.Expr e pos] [.ExceptHandler (some (.Name ux np)) none (b0::d8) fm] [] [] jh):=
 xX (vvp top hU (qjg hb jc) hs hg cj) λD σ H hr=>qqp hK ca (λEX E L r m w hB hx hk=>by
  have hB:ofE (b E) (λE _=>some (.nx E))=some r:=hB;rcases jw2 hB with⟨E1,s,h1,h2⟩|⟨E1,c,h1,rfl⟩
  ·cases oq9 h2;refine⟨E,L,_,m,w,h1,(λ_ _ z=>by cases z),λE' s' z x L' H' e1 e2 m' w' st sm=>?_⟩;injection z with z1 z2;subst z1 z2;exact hk (λ_ _ z=>nomatch z) σ L' H' Pn.refl m' w'.tail (st.trans Step.drop)
  ·exact⟨E,L,_,m,w,h1,(λE' c' e C L' H' hm m' w' st=>by injection e with z1 z2;subst z1 z2;exact hx _ _ rfl C L' H' hm m' w' st),λE' s' z=>by cases z⟩) hr
theorem RepA.rev{K:PySem.W.Frag}{H:Hp}{g:Bool}:∀{ds:List D} {xs:List V} {bs:List Addr},RepA K H g ds xs bs->∃cs,RepA K H g ds.reverse xs.reverse cs/\∀a∈cs,a∈bs
 |[],xs,bs,h=>⟨bs,by unfold RepA at h;obtain⟨rfl,rfl⟩:=h;unfold RepA;exact⟨rfl,rfl⟩,λ_ h=>h⟩
 |d::ds,xs,bs,h=>by
  unfold RepA at h;obtain⟨x,r,b1,c1,rfl,rfl,h1,h2⟩:=h;obtain⟨cs,r2,hc⟩:=RepA.rev h2;rw[List.reverse_cons,List.reverse_cons];refine⟨cs++b1,RepA.snoc h1 r2,λa ha=>?_⟩;rcases List.mem_append.mp ha with z|z
  ·exact lr9 _ (hc a z)
  ·exact ll9 _ z
theorem wvn{o:Expr}{i:Nat}(ho:PE X o (zV i))(hK:autoParam (X.K=Z.K) Ŕ)(hm:MtR X "list.reverse" qjd){apos aq f7:Pos}
  (bf:autoParam (attributeBase o "reverse" X.env (eval o X.env)=eval o X.env) Ŕ) (bg:autoParam ((apos.endLine==aq.line)=true) Ŕ)
  (jc:autoParam (swapsWith (.Call (.Attribute o "reverse" apos) [] [] aq) none f7.line X.env=pure false) Ŕ):
  QS X Z pn (V3 i) (.Expr (.Call (.Attribute o "reverse" apos) [] [] aq) f7):=
 xX (kz3 (vw1 Z.K PySem.F.plainAttrs_list PySem.F.slot_list_reverse PySem.F.type_list_reverse hm ho bf bg hK) jc) λDe σ H ay=>ex7 ay λE L r m w cu k=>by
 unfold V3 at cu
 split at cu
 rotate_left
 ·cases cu
 rename_i ds hE;cases oq9 cu;obtain⟨y,a1,a2,a3,a4⟩:=m.get hE;have oky:RepR Z.K H (.lst ds) y.v y.as:=by
  have:=w.ok y (wQ a1);unfold Sl.ok at this;rw[a2,a3]at this;exact this
 obtain⟨l,xs,bs,c1,c2,c3,c4⟩:=oky;obtain⟨cs,r2,hc⟩:=c2.rev;obtain⟨w2,s2⟩:=kz1 (T:=[]) (o':=.rt) (ds':=ds.reverse) (xs':=xs.reverse) (by simpa using w) a1 c3 c4 (by unfold Sl.own;rw[a2,c4];simp) c1 r2 (.inl ⟨rfl,λa ha=>.inl (hc a ha)⟩);refine⟨y.v,a4,by rw[c1];exact vxy c3,l,xs,c1,rfl,c3,?_⟩;have mm:=m.set (x:=⟨.rt,.lst ds.reverse,y.v,l::cs⟩) i;rw[Vj a4]at mm;exact k σ _ _ Pn.refl mm w2 (by simpa using s2)
end
end Q
namespace Q
open PySem PySem.Spec PyProof.Rows L2 L3
theorem qws{P:Program}{w:PySem.World}{K:PySem.W.Frag}{mg mb:Str->Option Value}{CX:CXT}{k:Nat}{fa a:Addr}{fd:FuncData}{x:Str}{sp:Sp}{s₁:Shared}{vs:List Value}{ns:List Int}
  (KX:K.In s₁.heap) (hns:s₁.heap.Ns mainGlobals mg) (hb:s₁.heap.Ns builtinsNs mb) (p7:∀x:Str,x≠"__name__"->mb x=bootBuiltins x) (hlim:s₁.heap.NoLimit) (hg:s₁.gens=#[])
  (ha:s₁.heap.get? a=some { cls:=.type "list",data:=.seq vs.toArray }) (hi:IntsAre vs ns) (hl:ns.length<=sizeLine) (hr:Room k callerA)
  (F:∀base:Heap,K.In base->base.Ns mainGlobals mg->FnOk P w K mg base CX k fa fd [x] sp) (rm:∀(s:Shared) (u:Value),BindsTo s fd ⟨[u],[]⟩ [(x,u)])
  (i9:∀H:Hp,wx6 H->LsR K H a (ns.map V.int)->sp [.ref a] H (λv _=>v=.bl true) λ_ _ _=>False)
  (hCX:∀H e s',CX [] H s₁ (λ_ _ _=>False) e s'->False):
  codeAny (model P w) callerA (.call (.ref fa) ⟨[.ref a],[]⟩) (λr s'=>r=.ok (.ret (.bool true))/\OldK s₁.heap s'.heap/\s'.os=s₁.os/\AllBare s'.gens) s₁:=by
 have rv:=kvy hi;have lenV:=hi.length;have kh:∀H:Hp,wx6 H->LsR K H a (ns.map V.int)->HOk P w H s₁.heap->(∀b,H b≠none->b=a)->(H a≠none->K.lookup a=none) ->
   codeAny (model P w) callerA (.call (.ref fa) ⟨[.ref a],[]⟩) (λr s'=>r=.ok (.ret (.bool true))/\OldK s₁.heap s'.heap/\s'.os=s₁.os/\AllBare s'.gens) s₁:=by
  intro H hO hS hok hA hK;have il:∀{b:Addr} {o:Obj},s₁.heap.get? b=some o->H b=none->(JK s₁.heap H).get? b=some o:=λe n=>vjs e n
  have pe:∀{b:Addr} {o:Obj} {es:Array DictEntry} {ep:Nat},s₁.heap.get? b=some o->o.data=.dict es ep->H b=none:=fun {b o es ep} e d=>by
   cases q:H b with
   | none=>rfl
   | some u=>
    have e':b=a:=hA b (by rw[q];simp);subst e';rw[ha]at e;cases e;have d':Data.seq vs.toArray _=Data.dict es ep:=d;cases d'
  have nsK:∀{b:Addr} {m:Str->Option Value},s₁.heap.Ns b m->(JK s₁.heap H).Ns b m:=fun {b m} ⟨o,es,ep,e,d,r⟩=>⟨o,es,ep,il e (pe e d),d,r⟩
  have hKb:K.In (JK s₁.heap H):=λb o e=>il (KX b o e) (by
   cases q:H b with
   | none=>rfl
   | some u=>
    have e':b=a:=hA b (by rw[q];simp);subst e';rw[hK (by rw[q];simp)]at e;cases e)
  have hM:Mod K mg (JK s₁.heap H):=⟨hKb,nsK hns,⟨mb,nsK hb,p7⟩,let ⟨mc,h1,h2⟩:=hlim;⟨mc,nsK h1,h2⟩⟩;have e0:Env0 P w K mg (JK s₁.heap H) callerA [] s₁ H:=⟨rfl,hM,λb o e=>vwe e,Nat.le_of_eq (qx4 _ _),trivial,λb hb=>absurd (show b∈([]:List Addr)from hb) (by simp),hok,.of_eq hg⟩;refine codeAny_mono ((F _ hKb (nsK hns)).run callerA [] s₁ H ⟨[.ref a],[]⟩ [.ref a] [.ref a] _ _ hr e0 (rm s₁ (.ref a)) (.cons rfl .nil) (i9 H hO hS)) λr s' h=>?_
  cases r with
  | error e=>exact(hCX H e s' h).elim
  | ok fl=>
   cases fl with
   | next=>exact False.elim h
   | brk=>exact False.elim h
   | cont=>exact False.elim h
   | ret u=>
    obtain⟨v,H',os,bare,un,hok',r',q⟩:=h;have q':v=.bl true:=q;subst q';obtain rfl:u=Value.bool true:=r';refine⟨rfl,OldK.of_keep λb o e=>?_,os,bare⟩;cases q:H b with
    | none=>exact un.keep b o e q (by intro z;exact absurd (show b∈([]:List Addr)from z) (by simp)) (by simp)
    | some u=>
     rcases hO b with z|⟨ob,xs,z⟩
     ·rw[q]at z;cases z
     ·have z2:=un.frzs b ob _ z;obtain⟨e1,_⟩:=hok b _ z;obtain⟨e2,_⟩:=hok' b _ z2;rw[e]at e1;cases e1;exact e2
 cases hk:K.lookup a with
 | some o=>
  have e:=KX a o hk;rw[ha]at e;cases e;refine kh (λ_=>none) (λ_=>.inl rfl) (.inr ⟨vs.toArray,_,hk,by rw[X6,lenV];exact hl,by simpa using rv⟩) (λb u z=>by have z':(none:Option HO)=some u:=z;cases z') (λb z=>absurd rfl z) λz=>absurd rfl z
 | none=>
  refine kh (λb=>if b=a then some (.frz { cls:=.type "list",data:=.seq vs.toArray } (.lst (ns.map V.int)))else none) (λb=>?_) (.inl (.inr ⟨{ cls:=.type "list",data:=.seq vs.toArray },Xa rfl⟩)) (λb u z=>?_) (λb z=>?_) λ_=>hk
  ·by_cases hb:b=a
   ·exact .inr ⟨_,_,Xa hb⟩
   ·exact .inl (Xe hb)
  ·by_cases hb:b=a
   ·have z':=(Xa hb).symm.trans z;cases z';subst hb;exact⟨ha,by rw[X5];exact hl,vs,_,rv,ha⟩
   ·have z':=(Xe hb).symm.trans z;cases z'
  ·by_cases hb:b=a
   ·exact hb
   ·exact absurd (Xe hb) z
@[elab_as_elim] theorem wwc {P:List Value->Prop}(us:List Value)(e:us.length=1)(h:∀a,P [a]):P us:=by
 cases us with
 |nil=>cases e
 |cons a us=>cases List.eq_nil_of_length_eq_zero (Nat.succ.inj e);exact h a
@[elab_as_elim] theorem wxv {P:List Value->Prop}(us:List Value)(e:us.length=2)(h:∀a b,P [a,b]):P us:=by
 cases us with
 |nil=>cases e
 |cons a us=>exact wwc (P:=λl=>P (a::l)) us (Nat.succ.inj e) λb=>h a b
@[elab_as_elim] theorem wxu {P:List Value->Prop}(us:List Value)(e:us.length=3)(h:∀a b c,P [a,b,c]):P us:=by
 cases us with
 |nil=>cases e
 |cons a us=>exact wxv (P:=λl=>P (a::l)) us (Nat.succ.inj e) λb c=>h a b c
@[elab_as_elim] theorem wxt {P:List Value->Prop}(us:List Value)(e:us.length=4)(h:∀a b c d,P [a,b,c,d]):P us:=by
 cases us with
 |nil=>cases e
 |cons a us=>exact wxu (P:=λl=>P (a::l)) us (Nat.succ.inj e) λb c d=>h a b c d
@[elab_as_elim] theorem wxs {P:List Value->Prop}(us:List Value)(e:us.length=5)(h:∀a b c d f,P [a,b,c,d,f]):P us:=by
 cases us with
 |nil=>cases e
 |cons a us=>exact wxt (P:=λl=>P (a::l)) us (Nat.succ.inj e) λb c d f=>h a b c d f
@[elab_as_elim] theorem len6 {P:List Value->Prop}(us:List Value)(e:us.length=6)(h:∀a b c d f g,P [a,b,c,d,f,g]):P us:=by
 cases us with
 |nil=>cases e
 |cons a us=>exact wxs (P:=λl=>P (a::l)) us (Nat.succ.inj e) λb c d f g=>h a b c d f g
theorem jxx{K:PySem.W.Frag}{H:Hp}{g:Bool}:∀(ns:List Int),RepA K H g (ns.map D.int) (ns.map V.int) []
 |[]=>by unfold RepA;exact⟨rfl,rfl⟩
 |n::ns=>by
  rw[List.map_cons,List.map_cons];unfold RepA;exact⟨_,_,[],[],rfl,rfl,KJ,jxx ns⟩
theorem wki{K:PySem.W.Frag}{mg:Str->Option Value}{f:Fn}{H:Hp}{a:Addr}{ns:List Int}(h:∃E o,f [(.no,.lst (ns.map D.int))]=some (.ok E (o,.bl true)))(hs:LsR K H a (ns.map V.int))(hO:wx6 H):
  spF K mg 1 f [.ref a] H (λv _=>v=.bl true) λ_ _ _=>False:=by
 obtain⟨E,o,h⟩:=h;have key:∃as,RepL K H true (.lst (ns.map D.int)) (.ref a) as/\(∀b∈as,False):=by
  rcases hs with(hs|⟨ob,hs⟩)|hs
  ·rcases hO a with z|⟨_,_,z⟩<;>(rw[hs]at z;cases z)
  ·refine⟨[],?_,λb hb=>nomatch hb⟩;unfold RepL;exact⟨a,ns.map V.int,[],rfl,jxx ns,.inr ⟨rfl,.inl ⟨ob,hs⟩,rfl⟩⟩
  ·refine⟨[],?_,λb hb=>nomatch hb⟩;unfold RepL;exact⟨a,ns.map V.int,[],rfl,jxx ns,.inr ⟨rfl,.inr hs,rfl⟩⟩
 obtain⟨as,r,hn⟩:=key;refine⟨[⟨.no,.lst (ns.map D.int),.ref a,as⟩],_,rfl,rfl,?_,h,(λE' c z=>by cases z),λE' s z x H' e1 e2 w' st=>?_⟩
 ·exact⟨λx hx=>by rw[oq9 (List.mem_singleton.mp hx)];exact r,by simp[Sl.own],λb hb=>by simp[Sl.own]at hb⟩
 ·injection z with z1 z2;subst z2;exact XY w'.head e2
section
open PySem.W PySem.Calls
theorem walkQ{l:OpenLaw}{n k:Nat}{q:Program}{v6:List Str}{XP:(Str->Option Value)->Heap->Prop}{YP:PySem.World->Heap->Prop}{d:DefRec}{K:Params->Frag}{f:Fn}{x:Str}
  (hn:l.most=some n) (hn2:n<=sizeLine) (hdf:d.params.defaults=[]) (hr:Room k callerA)
  (hY:∀(w:PySem.World) (h:Heap),YP w h->(K w.params).In h)
  (F:∀(w:PySem.World) (mg:Str->Option Value) (fa:Addr) (h:Heap),(K w.params).In h->h.Ns mainGlobals mg->mg d.name=some (.ref fa) ->
   ∃fd:FuncData,(∀(s:Shared) (u:Value),BindsTo s fd ⟨[u],[]⟩ [(x,u)])/\∀base:Heap,(K w.params).In base->base.Ns mainGlobals mg->FnOk l.prog w (K w.params) mg base (CXE l.prog w) k fa fd [x] (spF (K w.params) mg 1 f))
  (i9:∀(ns:List Int),ns.length<=n->(∀i∈ns,Builtin.Int.intBits i<=1048576)->∃E o,f [(.no,.lst (ns.map D.int))]=some (.ok E (o,.bl true))):
  WalkO q v6 XP YP l.row.toRowW d [] (λf vs=>PySem.call f vs):=by
 intro w s0 s1 mg mb G Y fa o pm cd ei dV kV ho hd gm hD hmg hg args ng as m8 hlay hrd qu hlo;obtain rfl:dV=.none:=Dflts.none hD hdf;obtain rfl:kV=.none:=Dflts.noKw hD;obtain⟨a,vs,ns,rfl,rfl,hobj,qi,av⟩:=Att.script_of hn m8 qu;have sh:=kzp hlay;have KX:=hY w _ Y;obtain⟨fd,hb,hF⟩:=F w mg fa _ KX G.T.g hmg;refine enter_call (codeAny_mono (qws KX G.T.g G.T.b G.T.builtins G.T.nolimit hg hobj qi (Y4 av hn2) hr hF hb (λH hO hS=>wki (i9 ns av sh) hS hO) (λ_ _ _ ⟨_,_,_,_,_,_,_,_,_,_,_,_,_,_,_,z⟩=>z)) λr s' hq=>?_);obtain⟨rfl,h2,h3,h4⟩:=hq;exact⟨.inl ⟨.bool true,.bool true,[],rfl,λ_=>rfl,.bool true,Att.post_true l _,λ_=>⟨List.Pairwise.nil,λ_ hm=>(nomatch hm)⟩⟩,h2,h3,h4⟩
end
end Q
namespace Q
open PySem PySem.Spec PyProof.Rows L2 L3
section
variable {P:Program}{w:PySem.World}{K:PySem.W.Frag}{mg:Str->Option Value}{base h:Heap}{x:Str}{st:Stmt}{ps:List Str}{k:Nat}{sp:Sp}
noncomputable def Gf(K:PySem.W.Frag)(x:Str)(st:Stmt):Prop:=∃(f:Addr) (oc:Value) (od:Option Addr) (kV dc pm:Value) (an:Option Addr) (cd ct:Value) (sl:Array (Option Value)),PySem.W.nsIn K mainGlobals x=some (some (.ref f))/\K.lookup f=some ⟨oc,od,.func (PySem.W.fnOf x x (KK st) (zQ st) (k8 st) .none kV dc pm an cd ct),sl⟩/\PySem.W.codeIn K cd x=true/\PySem.W.keepIn K (.ref f)=true
theorem Gf.mk{f:Addr}{oc:Value}{od:Option Addr}{kV dc pm:Value}{an:Option Addr}{cd ct:Value}{sl:Array (Option Value)}(a:PySem.W.nsIn K mainGlobals x=some (some (.ref f)))(l:K.lookup f=some ⟨oc,od,.func (PySem.W.fnOf x x (KK st) (zQ st) (k8 st) .none kV dc pm an cd ct),sl⟩)(c:PySem.W.codeIn K cd x=true)(k:PySem.W.keepIn K (.ref f)=true):Gf K x st:=⟨f,oc,od,kV,dc,pm,an,cd,ct,sl,a,l,c,k⟩
theorem Gf.d(g:Gf K x st)(X:K.In h)(G:h.Ns mainGlobals mg)(ok:∀{f:Addr} {fd:FuncData},Fun K x x st f fd->FnOk P w K mg base (CXE P w) k f fd ps sp)
  (hb:∀(kV ei pm:Value) (an:Option Addr) (b6 ct:Value) (us:List Value),us.length=ps.length->bindArgs (PySem.W.fnOf x x (KK st) (zQ st) (k8 st) .none kV ei pm an b6 ct) ⟨us,[]⟩=pure (ps.zip us):=by
   intro _ _ _ _ _ _ us hl
   first
   |exact wwc us hl λ_=>rfl
   |exact wxv us hl λ_ _=>rfl
   |exact wxu us hl λ_ _ _=>rfl
   |exact wxt us hl λ_ _ _ _=>rfl
   |exact wxs us hl λ_ _ _ _ _=>rfl
   |exact len6 us hl λ_ _ _ _ _ _=>rfl):kW P w K mg base k x ps sp:=by
 obtain⟨f,oc,od,kV,dc,pm,an,cd,ct,sl,a,l,c,kp⟩:=g;exact⟨f,_,ok (ZZ l c kp),(ZZ l c kp).binds hb,kp,Y6 X G a⟩
theorem Gf.law{fa:Addr}{y:Str}(g:Gf K "law" st)(X:K.In h)(G:h.Ns mainGlobals mg)(iw:mg "law"=some (.ref fa))(ok:∀{base:Heap} {f:Addr} {fd:FuncData},Fun K "law" "law" st f fd->FnOk P w K mg base (CXE P w) k f fd [y] sp)
  (hb:∀(kV ei pm:Value) (an:Option Addr) (b6 ct:Value) (s:Shared) (v:Value),BindsTo s (PySem.W.fnOf "law" "law" (KK st) (zQ st) (k8 st) .none kV ei pm an b6 ct) ⟨[v],[]⟩ [(y,v)]:=by
   intros
   exact .of_eq rfl):
  ∃fd:FuncData,(∀(s:Shared) (v:Value),BindsTo s fd ⟨[v],[]⟩ [(y,v)])/\∀base:Heap,K.In base->base.Ns mainGlobals mg->FnOk P w K mg base (CXE P w) k fa fd [y] sp:=by
 obtain⟨f,oc,od,kV,dc,pm,an,cd,ct,sl,a,l,c,kp⟩:=g;have e:=iw.symm.trans (Y6 X G a);cases e;exact⟨_,hb kV dc pm an cd ct,λbase _ _=>ok (ZZ l c kp)⟩
end
end Q
namespace Q
open PySem L2
theorem mkS{N P:List Str}{sc:Scope}(h1:autoParam (sc.kind=.function) Ŕ)(h2:autoParam (sc.isCoroutine=false) Ŕ)(h3:autoParam (sc.isGenerator=false) Ŕ)(h4:autoParam (N.Nodup) ŗ)(h5:autoParam (N.take P.length=P) Ŕ)(h6:autoParam (∀x∈P,sc.names.lookup x=some .local\/sc.names.lookup x=some .cell) ŗ)(h7:autoParam (∀y∈sc.names,y.2≠.free) ŗ):FnScope N P sc:=⟨h1,h2,h3,h4,h5,h6,h7⟩
end Q
namespace Q
open PySem PySem.Spec PyProof.Rows L2 L3
section
variable {X:Cx}{Z:Fx0}{pn:List Nat}{q qa:Bool}{a b c:Ex}{e ea eb:Expr}{pos p:Pos}
theorem kI{z:Int}{j}:QE X Z true (cC (.int z)) (.Constant (.int z) j p):=q_C qvy λ_=>KJ
theorem ki{z:Int}{j}:QV X Z true (vE (cC (.int z))) (.Constant (.int z) j p):=j5 kI
theorem kN{j}:QE X Z true (cC .non) (.Constant .none j p):=q_C wjm λ_=>kxx
theorem kn{j}:QV X Z true (vE (cC .non)) (.Constant .none j p):=j5 kN
theorem kS{z:Str}{j}(h:autoParam (z.length<=sizeLine) ŕ):QE X Z true (cC (.str z)) (.Constant (.str z) j p):=q_C vq1 λ_=>kjj h
theorem ks{z:Str}{j}(h:autoParam (z.length<=sizeLine) ŕ):QV X Z true (vE (cC (.str z))) (.Constant (.str z) j p):=j5 (kS h)
theorem vv(i:Nat){x:Str}(hN:autoParam (X.N[i]?=some x) Ŕ)(hv:autoParam (Vis X.env.scope x) ř)(hd:autoParam ((x==("__debug__":Str))=false) ŕ)
  (gm:autoParam ((x==("__classdict__":Str))=false) ŕ):QV X Z true (vV i) (.Name x pos):=q_vV (pv i hN hv hd gm)
theorem cv(i:Nat){x:Str}(hN:autoParam (X.N[i]?=some x) Ŕ)(hv:autoParam (Vis X.env.scope x) ř)(hd:autoParam ((x==("__debug__":Str))=false) ŕ)
  (gm:autoParam ((x==("__classdict__":Str))=false) ŕ):QE X Z true (cV i) (.Name x pos):=q_V (pv i hN hv hd gm)
theorem kx(ha:QV X Z qa a ea)(hb:QV X Z true b eb)(hs:Wz eb:=by exact λ_ _=>rfl)(hK:autoParam (X.K=Z.K) Ŕ):QV X Z qa (j6 a b) (.Subscript ea eb pos):=q_ix ha hb hs hK
theorem qA{i:Nat}{y:Str}{cg:Pos}(hN:X.N.Nodup)(h:QE X Z q a ea)(hi:autoParam (X.N[i]?=some y) Ŕ)(hx:autoParam (Loc X.env.scope y) Ś)(hp:autoParam (i∉pn) ŕ)(hs:autoParam (swapsWith ea (some (.Name y cg)) pos.line X.env=pure false) Ŕ)(hf:autoParam (X.fn y=true\/X.env.scope.names.lookup y=some .local) Ř):
  QS X Z pn (jk i a) (.Assign [.Name y cg] ea pos):=wvs hN hi hx h hp hs hf
theorem gn{i:Nat}{x:Str}(hN:X.N.Nodup)(hi:autoParam (X.N[i]?=some x) Ŕ)(hx:autoParam (Loc X.env.scope x) Ś)(hf:autoParam (X.fn x=true\/X.env.scope.names.lookup x=some .local) Ř):PG X (.Name x pos) (Z8 i):=J8 hN hi hx hf
theorem gN{i:Nat}{x:Str}(hN:X.N.Nodup)(hi:autoParam (X.N[i]?=some x) Ŕ)(hx:autoParam (Loc X.env.scope x) Ś)(hf:autoParam (X.fn x=true\/X.env.scope.names.lookup x=some .local) Ř)(hp:autoParam (i∉pn) ŕ):QG X Z pn (.n i) (.Name x pos):=VY (J8 hN hi hx hf) hp
theorem qC{k m n:Nat}{x:Str}{ps:List Str}{f:Fn}{cs:List Ex}{es:List Expr}(D:kW X.prog X.w X.K X.mg X.base k x ps (spF Z.K Z.mg n f))(hr:Room m X.A)(ha:QA X Z q cs (e::es))(g:xv X Z.EX:=by exact QK)(gf:autoParam (k<=m) ŕ)(hn:autoParam (cs.length=n) Ŕ)(hg:autoParam (Gl X x) Ŕ)(cj:autoParam ((x==("__debug__":Str))=false) ŕ)
  (he:autoParam (starEach (e::es) X.env=(false,eval e X.env)::starEach es X.env) Ŕ) (be:autoParam ((backTo pos (starEach es X.env)).any (·.1)=false) Ŕ):
  QE X Z q (jK f cs) (.Call (.Name x p) (e::es) [] pos):=wj5 D (hr.mono gf) g ha hn hg cj he be
theorem qF{tg iter:Expr}{ss:List Stmt}{it:Ev (List D)}{t:Tg}{B:Sm}(hi:QI X Z q tg it iter)(hg:QG X Z pn t tg)(hb:QSs X Z pn B ss)(hp:PassesOwn (model X.prog X.w) X.A X.env X.xe:=by exact wju ⟨_,_,rfl,rfl⟩)(hc:autoParam (X.calm=true) Ŕ)(hs:autoParam (∀x,foldedSetIterable iter X.env x=pure x) Ŗ):QS X Z pn (wW it t B) (.For tg iter ss [] pos):=wvq hp hc hi hg hb hs
theorem oA(ha:QV X Z qa a ea)(hb:QV X Z true b eb)(hK:autoParam (X.K=Z.K) Ŕ):QE X Z qa (cF2 jJ a b) (.BinOp ea .Add eb pos):=xJ (wjz hK) wql ha hb
theorem oX(ha:QV X Z qa a ea)(hb:QV X Z true b eb)(hK:autoParam (X.K=Z.K) Ŕ):QE X Z qa (cF2 kX a b) (.BinOp ea .Mult eb pos):=xJ (wjx hK) vxk ha hb
theorem oM(ha:QV X Z qa a ea)(hb:QV X Z true b eb):QE X Z qa (cF2 (pu2 kQ) a b) (.BinOp ea .Mod eb pos):=xJ wjv wqh ha hb
theorem qP{i:Nat}{x:Str}{apos aq xp:Pos}(h:QE X Z q c e)(hN:autoParam (X.N[i]?=some x) Ŕ)(hv:autoParam (Vis X.env.scope x) ř)(hd:autoParam ((x==("__debug__":Str))=false) ŕ)
  (gm:autoParam ((x==("__classdict__":Str))=false) ŕ) (bf:autoParam (attributeBase (.Name x xp) "append" X.env (eval (.Name x xp) X.env)=eval (.Name x xp) X.env) Ŕ)
  (f8:autoParam (((backTo aq (starEach [e] X.env)).all (λx=>!x.1)&&(backToKw aq (keywordEach [] X.env)).all (λx=>x.1.isSome)
   && decide ([e].length+([]:List Keyword).length+(if([]:List Keyword).isEmpty then 0 else 1)<30))=true) Ŕ)
  (bg:autoParam ((apos.endLine==aq.line)=true) Ŕ) (hs:autoParam (starEach [e] X.env=(false,eval e X.env)::starEach [] X.env) Ŕ) (bi:autoParam ((backTo aq (starEach [] X.env)).any (·.1)=false) Ŕ) (hK:autoParam (X.K=Z.K) Ŕ)
  (jc:autoParam (swapsWith (.Call (.Attribute (.Name x xp) "append" apos) [e] [] aq) none pos.line X.env=pure false) Ŕ):
  QS X Z pn (qw qZ i c) (.Expr (.Call (.Attribute (.Name x xp) "append" apos) [e] [] aq) pos):=wvt (vq3 Z.K PySem.F.plainAttrs_list PySem.F.slot_list_append PySem.F.type_list_append qwg (pv i hN hv hd gm) (wv h xj hs) bf f8 bg hs bi hK) jc
theorem qL(ha:QV X Z q a ea)(hm:X.mg "len"=none)(hK:autoParam (X.K=Z.K) Ŕ)(hg:autoParam (Gl X "len") Ŕ)(he:autoParam (starEach [ea] X.env=(false,eval ea X.env)::starEach [] X.env) Ŕ)(be:autoParam ((backTo pos (starEach [] X.env)).any (·.1)=false) Ŕ):QE X Z q (cF1 (pu1 v9) a) (.Call (.Name "len" p) [ea] [] pos):=wqv (hK▸vxe X.K) wqi ha hm qz2 hg (by decide) (by decide) he be
theorem qT(ha:QV X Z q a ea)(hm:X.mg "tuple"=none)(hK:autoParam (X.K=Z.K) Ŕ)(hg:autoParam (Gl X "tuple") Ŕ)(he:autoParam (starEach [ea] X.env=(false,eval ea X.env)::starEach [] X.env) Ŕ)(be:autoParam ((backTo pos (starEach [] X.env)).any (·.1)=false) Ŕ):QE X Z q (cF1 Jz a) (.Call (.Name "tuple" p) [ea] [] pos):=zX (qxy hK) vkf ha hm vkc hg (by decide) (by decide) he be
variable {iter eg tg:Expr}{dw:List Expr}{scope:Scope}{it:Ev (List D)}{tt:Tg}{u:Ts}
theorem qm(o:Own)(k:Nat)(R:List Nat)(m:Nat)(N:List Str)(hi:QI X Z q tg it iter)
  (hg:N.Nodup->∀cl C s0 H0 fp,QG (lcE X scope N cl C s0 H0 fp Z.EX) Z ((List.range R.length).map (k + ·)) tt tg) (ht:∀cl C s0 H0 fp,PTs (lcE X scope N cl C s0 H0 fp Z.EX) dw (tT Z q u)) (he:∀cl C s0 H0 fp,QE (lcE X scope N cl C s0 H0 fp Z.EX) Z q c eg)
  (hN:autoParam (N.Nodup) ŗ) (gx:xv X Z.EX:=by exact QK) (top:xw X:=by exact⟨_,_,rfl,rfl⟩) (hR:autoParam (R.Nodup) ŕ) (hm:autoParam (X.N.length=m) Ŕ) (hr:autoParam (∀j∈R,j<m) ŕ) (hc:autoParam (X.calm=true) Ŕ) (hk:autoParam (scope.kind=.function) Ŕ) (l5:autoParam (QQ X.N X.env.scope scope N k R=true) Ŕ) (hs:autoParam (∀x,foldedSetIterable iter X.env x=pure x) Ŗ):
  QE X Z q (cLC o k R it tt u c) (.ListComp eg [⟨tg,iter,dw,0⟩] scope pos):=wxn N hi (hg hN) ht he gx top hR (hm▸hr) hc hk l5 hs
theorem qM{x:Str}{p':Pos}(o:Own)(k:Nat)(R:List Nat)(m:Nat)(N:List Str)(hi:QI X Z q (.Name x p') it iter)(he:∀cl C s0 H0 fp,QE (lcE X scope N cl C s0 H0 fp Z.EX) Z q c eg)
  (hN:autoParam (N.Nodup) ŗ) (gx:xv X Z.EX:=by exact QK) (top:xw X:=by exact⟨_,_,rfl,rfl⟩) (hR:autoParam (R.Nodup) ŕ) (hm:autoParam (X.N.length=m) Ŕ) (hr:autoParam (∀j∈R,j<m) ŕ) (hc:autoParam (X.calm=true) Ŕ) (hk:autoParam (scope.kind=.function) Ŕ) (l5:autoParam (QQ X.N X.env.scope scope N k R=true) Ŕ) (hs:autoParam (∀x,foldedSetIterable iter X.env x=pure x) Ŗ)
  (hg:N.Nodup->∀cl C s0 H0 fp,QG (lcE X scope N cl C s0 H0 fp Z.EX) Z ((List.range R.length).map (k + ·)) (.n 0) (.Name x p'):=by exact λh _ _ _ _ _=>VY (J8 (i:=0) h rfl (by first|exact Or.inl rfl|exact Or.inr rfl))):
  QE X Z q (cLC o k R it (.n 0) tYes c) (.ListComp eg [⟨.Name x p',iter,[],0⟩] scope pos):=wxn N hi (hg hN) (λ_ _ _ _ _=>vv8) he gx top hR (hm▸hr) hc hk l5 hs
end
end Q
namespace Q
open PySem PySem.Spec PyProof.Rows L2 L3
section
variable {X:Cx}
noncomputable def kxy:V->List V->Hp->VK->Prop:=λx vs H Q=>∃l xs k y,x=.ref l/\vs=[.int k,y]/\H l=some (.lst xs)/\xs.length<big/\0<=k/\k<=xs.length/\Q .non (upd H l (.lst (xs.take k.toNat++y::xs.drop k.toNat)))
theorem vww(ak:List Value)(u:Value)(k:Nat)(h:k<=ak.length):(ak.toArray.extract 0 k).push u++ak.toArray.extract k=(ak.take k++u::ak.drop k).toArray:=by
 apply Array.ext';simp;exact List.take_of_length_le (by simp)
theorem qwf:MtM X "list.insert" kxy:=by
 intro pins s σ H x vs v us Q I rx rv h;obtain⟨l,xs,k,y,rfl,rfl,hH,hb,h1,h2,q⟩:=h;cases rx;obtain⟨u1,u2,rfl,ru1,ru2⟩:=rv.two;obtain⟨t,rfl⟩:=ru1;obtain⟨z,ak,n,r,hl,e⟩:=I.lstM hH;unfold big at hb;have dz:Builtin.List.listFitsIndex k=true:=fitsIndex_both (by omega) (by unfold sizeLine at *;omega);have hk:k.toNat<=ak.length:=by omega
 refine call_meets F.slot_list_insert ⟨_,e,rfl⟩ F.entry_list_insert (F.args_list_insert_3 _ _ _) (AutoSeq1.list_insert_list_int_val_1 l ak.toArray n k t u2 (by simp[dz]) (by rw[X6];omega)) ⟨e,?_⟩;refine⟨.non,_,I.lset (its':=ak.take k.toNat++u2::ak.drop k.toNat) hH e ?_ ((r.take _).append (.cons ru2 (r.drop _))) ?_,rfl,q⟩
 ·show(ak.toArray.extract 0 (if k<0 then(k+((ak.toArray.size:Nat):Int)).toNat else min k.toNat ak.toArray.size)).push u2++ak.toArray.extract (if k<0 then(k+((ak.toArray.size:Nat):Int)).toNat else min k.toNat ak.toArray.size)=_;rw[Xe (by omega),X6,Nat.min_eq_left hk];exact vww ak u2 k.toNat hk
 ·rw[Xi,Z0,Xn,Z1];have e3:min k.toNat xs.length=k.toNat:=Nat.min_eq_left (by omega);rw[e3];show k.toNat+(xs.length - k.toNat+1)<=sizeLine;have:k.toNat+(xs.length - k.toNat+1)=xs.length+1:=by omega
  rw[this];exact hb
theorem RepA.ins{K:PySem.W.Frag}{H:Hp}{g:Bool}{d:D}{x:V}{cs:List Addr}(rx:RepL K H g d x cs):∀{ds:List D} {xs:List V} {bs:List Addr} (k:Nat),RepA K H g ds xs bs->∃es,RepA K H g (ds.take k++d::ds.drop k) (xs.take k++x::xs.drop k) es/\es.Perm (cs++bs)
 | ds,xs,bs,0,h=>⟨cs++bs,by rw[List.take_zero,List.drop_zero,List.take_zero,List.drop_zero,List.nil_append,List.nil_append];unfold RepA;exact⟨x,xs,cs,bs,rfl,rfl,rx,h⟩,List.Perm.refl _⟩
 | [],xs,bs,k+1,h=>by
  unfold RepA at h;obtain⟨rfl,rfl⟩:=h;refine⟨cs++[],?_,List.Perm.refl _⟩;show RepA K H g [d] [x] _;unfold RepA;exact⟨x,[],cs,[],rfl,rfl,rx,by unfold RepA;exact⟨rfl,rfl⟩⟩
 | d0::ds,xs,bs,k+1,h=>by
  unfold RepA at h;obtain⟨x0,r0,b1,c1,rfl,rfl,h1,h2⟩:=h;obtain⟨es,r2,hp⟩:=RepA.ins rx k h2;refine⟨b1++es,?_,?_⟩
  ·rw[List.take_succ_cons,List.drop_succ_cons,List.take_succ_cons,List.drop_succ_cons,List.cons_append,List.cons_append];unfold RepA;exact⟨x0,_,b1,es,rfl,rfl,h1,r2⟩
  ·refine(List.Perm.append_left b1 hp).trans ?_;rw[<-Xp,<-Xp];exact List.Perm.append_right _ Yk
end
section
variable {X:Cx}{Z:Fx0}{pn:List Nat}{q1 q2:Bool}{kc vc:Ex}{e1 e2 o:Expr}{j:Nat}
theorem qv9{K:PySem.W.Frag}{H:Hp}{x:Sl}{k:Int}(ok:x.ok K H)(hd:x.d=.int k):x.v=.int k:=by
 have h:=qv8 ok (by rw[hd];rfl);rw[hd]at h;unfold RepL at h;exact h.1
theorem wvp(ho:PE X o (zV j))(hk:QE X Z q1 kc e1)(hv:QE X Z q2 vc e2)(hK:autoParam (X.K=Z.K) Ŕ)(hm:MtR X "list.insert" kxy){apos aq f7:Pos}
  (bf:autoParam (attributeBase o "insert" X.env (eval o X.env)=eval o X.env) Ŕ)
  (f8:autoParam (((backTo aq (starEach [e1,e2] X.env)).all (λx=>!x.1)&&(backToKw aq (keywordEach [] X.env)).all (λx=>x.1.isSome)
   && decide ([e1,e2].length+([]:List Keyword).length+(if([]:List Keyword).isEmpty then 0 else 1)<30))=true) Ŕ)
  (bg:autoParam ((apos.endLine==aq.line)=true) Ŕ) (hs:autoParam (starEach [e1,e2] X.env=(false,eval e1 X.env)::starEach [e2] X.env) Ŕ) (fk:autoParam (starEach [e2] X.env=(false,eval e2 X.env)::starEach [] X.env) Ŕ) (bi:autoParam ((backTo aq (starEach [e2] X.env)).any (·.1)=false) Ŕ)
  (jc:autoParam (swapsWith (.Call (.Attribute o "insert" apos) [e1,e2] [] aq) none f7.line X.env=pure false) Ŕ):
  QS X Z pn (vzg j kc vc) (.Expr (.Call (.Attribute o "insert" apos) [e1,e2] [] aq) f7):=
 xX (kz3 (vq3 Z.K PySem.F.plainAttrs_list PySem.F.slot_list_insert PySem.F.type_list_insert hm ho (wv hk (wv hv xj fk) hs) bf f8 bg hs bi hK) jc) λDe σ H ay=>ex7 ay λE L r m w cu k=>by
 unfold vzg at cu
 by_cases lm:Kj E[j]?=true
 rotate_left
 ·rw[Xe lm]at cu;cases cu
 rw[Xa lm]at cu;obtain⟨o0,on,h0⟩:∃o0 on,E[j]?=some (some (o0,.lst on)):=by
  unfold Kj at lm
  split at lm
  ·rename_i o0 on h;exact⟨o0,on,h⟩
  ·cases lm
 obtain⟨x0,a1,a2,a3,a4⟩:=m.get h0;refine⟨x0.v,a4,vq8 (w.ok x0 (wQ a1)) a3,?_⟩;refine W5 m w cu k λE1 s h1 x L1 H1 e1 e2 m1 w1 st _=>?_
 split at h1
 rotate_left
 ·cases h1
 rename_i kk fk;have hxv:x.v=.int kk:=qv9 w1.head (e2.trans fk);rw[hxv];obtain⟨v',c1,c2,c3⟩:=wxr (q:=q2) (G:=λv y H2=>kxy v [.int kk,y] H2 λ_ H3=>De.nx σ H3) m1 w1.tail h1 (k.step (st.trans Step.drop) Pn.refl) λl x xs ds ds' d bs cs H1 gg hf hH ra rx fin=>by
  unfold wkx at hf
  split at hf
  rotate_left
  ·cases hf
  rename_i hc;cases oq9 hf;obtain⟨es,re,hp⟩:=RepA.ins rx kk.toNat ra;exact⟨l,xs,kk,x,rfl,rfl,hH,by rw[<-ra.len];exact hc.2.2,hc.1,by rw[<-ra.len];exact hc.2.1,fin _ es re (λa ha=>((List.mem_append.mp (hp.mem_iff.mp ha))).symm) λhn=>(hp.trans Yk).nodup_iff.mpr hn⟩
 have:v'=x0.v:=by rw[a4]at c1;exact(oq9 (oq9 c1)).symm
 subst this;exact c3
end
theorem Gf.d0{P:Program}{w:PySem.World}{K:PySem.W.Frag}{mg:Str->Option Value}{base h:Heap}{x:Str}{st:Stmt}{p:Str}{k:Nat}{sp:Sp}(g:Gf K x st)(X:K.In h)(G:h.Ns mainGlobals mg)(ok:∀{f:Addr} {fd:FuncData},Fun K x x st f fd->FnOk0 P w K mg base k f fd [p] sp)
  (hb:∀(kV ei pm:Value) (an:Option Addr) (b6 ct:Value) (us:List Value),us.length=[p].length->bindArgs (PySem.W.fnOf x x (KK st) (zQ st) (k8 st) .none kV ei pm an b6 ct) ⟨us,[]⟩=pure ([p].zip us):=by
   intro _ _ _ _ _ _ us hl;exact wwc us hl λ_=>rfl):wv7 P w K mg base k x [p] sp:=by
 obtain⟨f,oc,od,kV,dc,pm,an,cd,ct,sl,a,l,c,kp⟩:=g;exact⟨f,_,ok (ZZ l c kp),(ZZ l c kp).binds hb,kp,Y6 X G a⟩
end Q
namespace Q
open PySem PySem.Spec PyProof.Rows L2 L3
abbrev tPC(K:PySem.W.Frag)(i m:Nat)(q:List Nat)(p:Nat->List Nat):TE:=fun σ H Q=>∃n d v u dm vm,(σ[m]?=some (some vm)/\PV K H q dm vm (.int (.ofNat n)))/\σ[i]?=some (some v)/\PV K H (p n) d v u/\Q u H
section
variable {X:Cx}{Z:Fx0}{pn:List Nat}{e e2 ep:Expr}{i j m:Nat}{p p2 q:List Nat}{pos:Pos}{A1 A2 A3 C:Sm}{s1 s2 s3:Stmt}{ss:List Stmt}
theorem vvk{K:PySem.W.Frag}(h:PE X e (tP K i p))(h2:PE X e2 (tP K m q))(be:Wz e2)(hK:autoParam (X.K=K) Ŕ):PE X (.Subscript e e2 pos) (tPC K i m q λn=>p++[n]):=
 qz (vjb (hK▸qjv) h h2 be) fun σ H Q ⟨n,d,v,u,dm,vm,⟨hm,hq⟩,hv,hu,k⟩=>by
  obtain⟨d',w,h1,h2⟩:=hu.snoc;obtain⟨a,xs,e1,sq,ex⟩:=h2.one;refine⟨d,v,w,hv,h1,dm,vm,.int (.ofNat n),hm,hq,?_⟩;rcases sq with sq|sq
  ·exact .inl ⟨a,xs,n,u,e1,rfl,.inl (.inl sq),XJ ex,k⟩
  ·exact .inr (.inl ⟨a,xs,n,u,e1,rfl,sq,XJ ex,k⟩)
theorem qvo{K:PySem.W.Frag}{z:Int}{jj:Nat}{cg:Pos}{p:Nat->List Nat}(c:Nat)(h:PE X e (tPC K i m q p))(be:Wz (.Constant (.int z) jj cg))(hK:autoParam (X.K=K) Ŕ)(hz:autoParam (z=(c:Int)) Ŕ):PE X (.Subscript e (.Constant (.int z) jj cg) pos) (tPC K i m q λn=>p n++[c]):=
 qz (vjb (hK▸qjv) h qvy be) fun σ H Q ⟨n,d,v,u,dm,vm,hm,hv,hu,k⟩=>by
  subst hz;obtain⟨d',w,h1,h2⟩:=hu.snoc;obtain⟨a,xs,e1,sq,ex⟩:=h2.one;refine⟨n,d,v,w,dm,vm,hm,hv,h1,?_⟩;rcases sq with sq|sq
  ·exact .inl ⟨a,xs,c,u,e1,rfl,.inl (.inl sq),XJ ex,k⟩
  ·exact .inr (.inl ⟨a,xs,c,u,e1,rfl,sq,XJ ex,k⟩)
theorem wja{K:PySem.W.Frag}{H:Hp}{x:Sl}{n:Nat}(ok:x.ok K H)(hp:x.d.pure=true)(h:D.at q x.d=some (.int (.ofNat n))):PV K H q x.d x.v (.int (.ofNat n)):=by
 obtain⟨v1,gi,h1,h2,_⟩:=RepL.hole (qv8 ok hp) Xs h;unfold RepL at h2;rw[h2.1]at h1;exact h1
theorem qv3{A B:Sm}{E E':En}(h:j4 A B E=some (.nx E')):∃E1,A E=some (.nx E1)/\B E1=some (.nx E'):=by
 unfold j4 at h;cases ha:A E with
 |none=>rw[ha]at h;cases h
 |some f=>
  rw[ha]at h;cases f with
  |nx E1=>exact⟨E1,rfl,h⟩
  |_=>cases h
theorem wvr{y:Str}{cg:Pos}(hN:X.N.Nodup)(hj:X.N[j]?=some y)(hx:Loc X.env.scope y)(hP:PE X ep (tPC Z.K i m q λn=>p++[n]++p2))
  (h1:QS X Z (i::j::pn) A1 s1) (h2:QS X Z (i::j::pn) A2 s2) (h3:QS X Z (i::j::pn) A3 s3) (hC:QSs X Z pn C ss)
  (md:autoParam (i≠j) ŕ) (him:autoParam (i≠m) ŕ) (hpn:autoParam (j∉pn) ŕ) (hs:autoParam (swapsWith ep (some (.Name y cg)) pos.line X.env=pure false) Ŕ) (hf:autoParam (X.fn y=true\/X.env.scope.names.lookup y=some .local) Ř):
  QSs X Z pn (ZX i j m q p p2 (j4 A1 (j4 A2 A3)) C) (.Assign [.Name y cg] ep pos::s1::s2::s3::ss):=
 kz2 (jx9 (vkw hN hj hx hP hs hf) (jx9 h1 (jx9 h2 (jx9 h3 hC)))) λDe σ H ay=>ex7 ay λE L r mt w cu k=>by
 unfold ZX at cu
 split at cu
 rotate_left
 ·cases cu
 rename_i d om dm hE hM
 split at cu
 rotate_left
 ·cases cu
 rename_i hpj
 split at cu
 rotate_left
 ·cases cu
 rename_i n hq
 split at cu
 rotate_left
 ·cases cu
 rename_i d1 iq
 split at cu
 rotate_left
 ·cases cu
 rename_i E3 hB
 split at cu
 rotate_left
 ·cases cu
 rename_i d2 hE3;obtain⟨E1,hA1,hB⟩:=qv3 hB;obtain⟨E2,hA2,hA3⟩:=qv3 hB;obtain⟨y0,a1,a2,a3,a4⟩:=mt.get hE;obtain⟨ym,b1,b2,b3,b4⟩:=mt.get hM;obtain⟨w0,s0⟩:=qj0 w a1;obtain⟨y1,c1,c2,c3,c4,c5⟩:=w0.hole a2 (by rw[a3];exact iq);refine⟨n,y0.d,y0.v,y1.v,ym.d,ym.v,⟨b4,wja (w.ok ym (wQ b1)) (by rw[b3];exact hpj.1) (by rw[b3];exact hq)⟩,a4,by simpa using c3,?_⟩;have m1:=Qv (i:=j) (x:=y1) (s:=(.dp,d1)) (kva i mt) c1 c2;have w1:=c4.set (i:=j);refine⟨_,_,_,m1,w1,hA1,fun σ1 L1 H1 p1 m1 w1 gj=>⟨E1,L1,_,m1,w1,hA2,fun σ2 L2 H2 pp2 m2 w2 bn=>⟨E2,L2,_,m2,w2,hA3,fun σ3 L3 H3 p3 m3 w3 dj=>?_⟩⟩⟩;have n6:Pn (i::j::pn) (σ.set j (some y1.v)) σ3:=(p1.trans pp2).trans p3;have o7:j < σ.length:=by rw[<-mt.len.1];exact hpj.2
 have hσj:σ3[j]?=some (some y1.v):=by rw[n6 j (lc9 _ X2),Y2 o7]
 have hσi:σ3[i]?=some (some y0.v):=by rw[n6 i X2,Xx md.symm];exact a4
 obtain⟨z,z1,z2,z3,z4⟩:=m3.get hE3;obtain⟨w4,s4⟩:=qj0 w3 z1;have hzv:z.v=y1.v:=by rw[hσj]at z4;exact(oq9 (oq9 z4)).symm
 obtain⟨y',g1,g2,g3,g4,g5⟩:=c5 _ _ z w4 (Step.set.trans (gj.trans (bn.trans (dj.trans s4)))) z2 hzv;have mm:=Qv (i:=i) (x:=y') (s:=(.dp,Q.D.put d2 (p++[n]++p2) d)) (kva j m3) g1 (by rw[g2,z3,a3]);rw[g3,Vj hσi]at mm;refine⟨_,_,r,mm,g4.set,cu,k.step (s0.trans (g5.trans Step.set)) λa ha=>?_⟩;have cx:j≠a:=λe=>hpn (e▸ha)
 rw[n6 a (lc9 _ (lc9 _ ha)),Xx cx]
end
end Q
namespace Q
open PySem
noncomputable def out(f:Fn)(xs:List Sd):Option (Sd ⊕ Str):=match f xs with
 |some (.ok _ y)=>some (.inl y)
 |some (.exc _ c)=>some (.inr c)
 |none=>none
theorem vq7(n:Nat)(h:300<=n):(10:Nat) ^ 70<2 ^ n:=Xh (show(10:Nat) ^ 70<2 ^ 240 by decide) (Nat.pow_le_pow_right (by decide) (by omega))
theorem wkd:(10:Nat) ^ 70<2 ^ 4096:=vq7 4096 (by decide)
theorem mul_l{o1 o2:Own}{a b:Int}(h1:-18446744073709551616<a)(h2:a<18446744073709551616):J3 (o1,.int a) (o2,.int b)=some (.dp,.int (a*b)):=by
 have:Kw a b=true:=by
  have:Zk a=true:=by unfold Zk;rw[Xf (show -(2 ^ 64)<a by omega),Xf (show a<2 ^ 64 by omega)];rfl
  unfold Kw;rw[this];rfl
 show(if Kw a b=true then _ else _)=_;rw[Xa this]
theorem wwb{o1 o2:Own}{a b:Int}(h1:-(10 ^ 70)<a)(h2:a<10 ^ 70)(h3:-(10 ^ 70)<b)(h4:b<10 ^ 70):J3 (o1,.int a) (o2,.int b)=some (.dp,.int (a*b)):=by
 have lg:∀{c:Int},c.natAbs<10 ^ 70->c.natAbs.log2<2000000:=fun {c} h=>by
  rcases Nat.eq_zero_or_pos c.natAbs with h0|hp
  ·rw[h0];decide
  ·exact Nat.lt_trans ((Nat.log2_lt (Nat.ne_of_gt hp)).mpr (Nat.lt_trans h wkd)) (by decide)
 have ha:a.natAbs.log2<2000000:=lg (by omega);have hb:b.natAbs.log2<2000000:=lg (by omega);have:Kw a b=true:=by unfold Kw;rw[Xf ha,Xf hb];simp
 show(if Kw a b=true then _ else _)=_;rw[Xa this]
theorem add_i{o1 o2:Own}{a b:Int}:jJ (o1,.int a) (o2,.int b)=some (.dp,.int (a+b)):=rfl
theorem sub_i{a b:Int}:wq5 (.int a) (.int b)=some (.int (a - b)):=rfl
theorem div_i{a b:Int}(h:0<b)(h2:b<10 ^ 70):xW (.int a) (.int b)=some (.int (a / b)):=by
 have hb:b.natAbs.log2<9000:=by
  exact(Nat.log2_lt (by omega)).mpr (Nat.lt_trans (show b.natAbs<10 ^ 70 by omega) (vq7 9000 (by decide)))
 show(if 0<b/\b.natAbs.log2<9000 then some (a / b)else none).map _=_;rw[Xa ⟨h,hb⟩];rfl
theorem mod_i{a b:Int}(h:0<b):kQ (.int a) (.int b)=some (.int (a % b)):=by
 show(if 0<b then some (a % b)else none).map _=_;rw[Xa h];rfl
theorem pow_i{a b:Int}(h1:0<=b)(h2:b<=1000)(h3:-1000000<a)(h4:a<1000000):WK (.int a) (.int b)=some (.int (a ^ b.toNat)):=by
 show(if 0<=b/\b<=1000000/\a.natAbs<2 ^ 64 then some (a ^ b.toNat)else none).map _=_;rw[Xa ⟨h1,by omega,by omega⟩];rfl
theorem xq{a b:Int}:fEq (.int a) (.int b)=some (.bl (a==b)):=rfl
theorem KZ{a b:Str}:fEq (.str a) (.str b)=some (.bl (a==b)):=rfl
theorem lt_ii{a b:Int}:fLt (.int a) (.int b)=some (.bl (decide (a<b))):=rfl
theorem gt_ii{a b:Int}:fGt (.int a) (.int b)=some (.bl (decide (b<a))):=rfl
theorem le_ii{a b:Int}:fLe (.int a) (.int b)=some (.bl (decide (a<=b))):=rfl
theorem ge_ii{a b:Int}:fGe (.int a) (.int b)=some (.bl (decide (b<=a))):=rfl
theorem wq{xs:List D}{i:Int}{d:D}(h0:0<=i)(h:xs[i.toNat]?=some d):jY (.lst xs) (.int i)=some d:=by
 show((ixN xs.length i).bind λj=>xs[j]?)=some d;have hl:i.toNat<xs.length:=(List.getElem?_eq_some_iff.mp h).1;unfold ixN;rw[Xa h0,Xa (by omega)];exact h
theorem ix_t{xs:List D}{i:Int}{d:D}(h0:0<=i)(h:xs[i.toNat]?=some d):jY (.tup xs) (.int i)=some d:=by
 show((ixN xs.length i).bind λj=>xs[j]?)=some d;have hl:i.toNat<xs.length:=(List.getElem?_eq_some_iff.mp h).1;unfold ixN;rw[Xa h0,Xa (by omega)];exact h
theorem len_l{xs:List D}:v9 (.lst xs)=some (.int xs.length):=rfl
theorem len_t{xs:List D}:v9 (.tup xs)=some (.int xs.length):=rfl
theorem qwy(ns:List Int)(i:Int)(h0:0<=i)(h1:i<ns.length):jY (.lst (ns.map D.int)) (.int i)=some (.int (ns.getD i.toNat 0)):=by
 have:i.toNat<ns.length:=by omega
 refine wq h0 ?_;simp[this]
theorem wwf(xs:List D)(i:Int)(h0:0<=i)(h1:i<xs.length):jY (.lst xs) (.int i)=some (xs.getD i.toNat .non):=by
 have:i.toNat<xs.length:=by omega
 refine wq h0 ?_;simp[this]
theorem vjp(xs:List D)(i:Int)(h0:0<=i)(h1:i<xs.length):jY (.tup xs) (.int i)=some (xs.getD i.toNat .non):=by
 have:i.toNat<xs.length:=by omega
 refine ix_t h0 ?_;simp[this]
theorem J6(xs:List D)(i:Int)(h0:0<=i)(h1:i<xs.length):xs.getD i.toNat .non∈xs:=by
 have:i.toNat<xs.length:=by omega
 rw[X3,X1 this];exact Xk this
theorem Wq{o1 o2:Own}{a b:List D}(h1:o1≠.dp)(h2:o2≠.dp)(hl:a.length+b.length<10000):jJ (o1,.lst a) (o2,.lst b)=some (.rt,.lst (a++b)):=by
 show(if a.length+b.length<=big/\v6 (o1,.lst a)/\v6 (o2,.lst b)then _ else _)=_;rw[Xa ⟨by unfold big;omega,by cases o1<;>simp_all [v6],by cases o2<;>simp_all [v6]⟩]
theorem Wj{o:Own}{xs:List D}(h:o≠.dp):Jz (o,.lst xs)=some (.no,.tup xs):=by
 show(if v6 (o,.lst xs)then _ else _)=_;rw[Xa (by cases o<;>simp_all [v6])]
abbrev XP:=Str->Prop
theorem nd{α:Sort _}{a b:α}(h:a=b):a=b:=h
@[irreducible] noncomputable def Eo {α:Type} (m:Option (Res α)) (P:En->α->Prop) (X:XP):Prop:=match m with
 |some (.ok E a)=>P E a
 |some (.exc _ c)=>X c
 |none=>False
@[irreducible] noncomputable def Vo {α:Type} (m:Option α) (P:α->Prop):Prop:=match m with
 |some a=>P a
 |none=>False
@[irreducible] noncomputable def Oo (f:Fn) (xs:List Sd) (P:Sd->Prop) (X:XP):Prop:=match f xs with
 |some (.ok _ y)=>P y
 |some (.exc _ c)=>X c
 |none=>False
@[irreducible] noncomputable def Po (r:Option Fl) (N C:En->Prop) (R:Sd->Prop) (X:XP):Prop:=match r with
 |some (.nx E)=>N E
 |some (.ct E)=>C E
 |some (.rt _ x)=>R x
 |some (.xc _ c)=>X c
 |_=>False
abbrev noX:XP:=λ_=>False
section
variable {α β:Type}{P:En->α->Prop}{X:XP}{N C:En->Prop}{R:Sd->Prop}{E:En}
theorem zK{a:α}:Eo (some (.ok E a)) P X=P E a:=nd (by with_unfolding_all rfl)
theorem qxn{c:Str}:Eo (some (.exc E c):Option (Res α)) P X=X c:=nd (by with_unfolding_all rfl)
theorem qxl:Eo (none:Option (Res α)) P X=False:=nd (by with_unfolding_all rfl)
theorem kz{m:Option (Res β)}{f:En->β->Option (Res α)}:Eo (bnd m f) P X=Eo m (λE a=>Eo (f E a) P X) X:=by
 cases m with
 |none=>with_unfolding_all rfl
 |some r=>cases r<;>with_unfolding_all rfl
theorem vo_some{a:α}{P:α->Prop}:Vo (some a) P=P a:=nd (by with_unfolding_all rfl)
theorem vo_map{x:Option β}{f:β->α}{P:α->Prop}:Vo (x.map f) P=Vo x (λa=>P (f a)):=by cases x<;>with_unfolding_all rfl
theorem JX{x:Option α}:Eo (val E x) P X=Vo x (P E):=by cases x<;>with_unfolding_all rfl
theorem ZK{E:En}:Po (some (.nx E)) N C R X=N E:=nd (by with_unfolding_all rfl)
theorem ww0{E:En}:Po (some (.ct E)) N C R X=C E:=nd (by with_unfolding_all rfl)
theorem wjf{E:En}{x:Sd}:Po (some (.rt E x)) N C R X=R x:=nd (by with_unfolding_all rfl)
theorem wvz{E:En}{c:Str}:Po (some (.xc E c)) N C R X=X c:=nd (by with_unfolding_all rfl)
theorem kz4:Po none N C R X=False:=nd (by with_unfolding_all rfl)
theorem Q2{m:Option (Res α)}{f:En->α->Option Fl}:Po (ofE m f) N C R X=Eo m (λE a=>Po (f E a) N C R X) X:=by
 cases m with
 |none=>with_unfolding_all rfl
 |some r=>cases r<;>with_unfolding_all rfl
theorem vkx{a b:Sm}:Po (j4 a b E) N C R X=Po (a E) (λE=>Po (b E) N C R X) C R X:=by
 unfold j4 Po;cases a E with
 |none=>with_unfolding_all rfl
 |some r=>cases r<;>with_unfolding_all rfl
theorem wjg{x:Option β}{f:β->Fl}:Po (x.map f) N C R X=Vo x (λa=>Po (some (f a)) N C R X):=by cases x<;>with_unfolding_all rfl
theorem Eo.mono{m:Option (Res α)}{P':En->α->Prop}(h:Eo m P X)(k:∀E a,P E a->P' E a):Eo m P' X:=by
 cases m with
 |none=>with_unfolding_all exact h
 |some r=>cases r with
  |ok E a=>with_unfolding_all exact k E a h
  |exc E c=>with_unfolding_all exact h
theorem Oo.mono{f:Fn}{xs:List Sd}{P P':Sd->Prop}(h:Oo f xs P X)(k:∀y,P y->P' y):Oo f xs P' X:=by
 unfold Oo at h ⊢;cases hf:f xs with
 |none=>rw[hf]at h;with_unfolding_all exact h
 |some r=>rw[hf]at h;cases r with
  |ok E a=>with_unfolding_all exact k a h
  |exc E c=>with_unfolding_all exact h
theorem Oo.out{f:Fn}{xs:List Sd}{P:Sd->Prop}(h:Oo f xs P noX):∃E y,f xs=some (.ok E y)/\P y:=by
 unfold Oo at h;cases hf:f xs with
 |none=>rw[hf]at h;with_unfolding_all exact(show False from h).elim
 |some r=>rw[hf]at h;cases r with
  |ok E a=>with_unfolding_all exact⟨E,a,rfl,h⟩
  |exc E c=>with_unfolding_all exact(show False from h).elim
theorem qx{n:Nat}{b:Sm}{xs:List Sd}{P:Sd->Prop}(h:Po (b (xs.map some++List.replicate (n - xs.length) none)) (λ_=>P (.dp,.non)) (λ_=>False) P X):Oo (fn n b) xs P X:=by
 unfold Oo fn;unfold Po at h;cases hb:b (xs.map some++List.replicate (n - xs.length) none)with
 |none=>rw[hb]at h;with_unfolding_all exact h
 |some r=>rw[hb]at h;cases r<;>with_unfolding_all exact h
theorem vx7{f:Fn}{cs:List Ex}{P:En->Sd->Prop}:Eo (jK f cs E) P X=Eo (v4 cs E) (λE xs=>Oo f (letAll xs) (P E) X) X:=by
 unfold jK;rw[kz]
 congr 1
 funext E xs;unfold Oo;cases f (letAll xs)with
 |none=>with_unfolding_all rfl
 |some r=>cases r<;>with_unfolding_all rfl
noncomputable def wv5(d:D){α:Type}(a b:Option α):Option α:=match d with
 |.bl k=>if k=true then a else b
 |_=>none
theorem vxf(a b:Ex):ZJ a b E=bnd (a E) λE x=>wv5 x.2 (b E) (some (.ok E (.dp,.bl false))):=by
 unfold ZJ wv5
 congr 1
 funext E x;cases x.2 with
 |bl k=>cases k<;>with_unfolding_all rfl
 |_=>with_unfolding_all rfl
theorem wqc(a b:Ex):cOr a b E=bnd (a E) λE x=>wv5 x.2 (some (.ok E (.dp,.bl true))) (b E):=by
 unfold cOr wv5
 congr 1
 funext E x;cases x.2 with
 |bl k=>cases k<;>with_unfolding_all rfl
 |_=>with_unfolding_all rfl
theorem kz5{tg:Tg}{b:Sm}(I:En->List D->Prop)(hs:∀E d ds,I E (d::ds)->Vo (tg.put d E) λE1=>Po (b E1) (λE2=>I E2 ds) (λE2=>I E2 ds) R X)(h1:∀E,I E []->N E):∀ds E,I E ds->Po (J4 tg b ds E) N C R X
 | [],E,h=>by with_unfolding_all exact h1 E h
 | d::ds,E,h=>by
  have h2:=hs E d ds h;unfold J4;cases hp:tg.put d E with
  | none=>rw[hp]at h2;with_unfolding_all exact(show False from h2).elim
  | some E1=>
   rw[hp]at h2;have h2:Po (b E1) (λE2=>I E2 ds) (λE2=>I E2 ds) R X:=by with_unfolding_all exact h2
   dsimp only;cases hb:b E1 with
   |none=>rw[hb]at h2;with_unfolding_all exact(show False from h2).elim
   |some r=>
    rw[hb]at h2;cases r with
    |nx E2=>with_unfolding_all exact kz5 I hs h1 ds E2 h2
    |ct E2=>with_unfolding_all exact kz5 I hs h1 ds E2 h2
    |rt E2 x=>with_unfolding_all exact h2
    |xc E2 c=>with_unfolding_all exact h2
    |bk E2=>with_unfolding_all exact(show False from h2).elim
theorem Jq{it:Ev (List D)}{tg:Tg}{b:Sm}(I:En->List D->Prop)(h0:Eo (it E) I X)(hs:∀E d ds,I E (d::ds)->Vo (tg.put d E) λE1=>Po (b E1) (λE2=>I E2 ds) (λE2=>I E2 ds) R X)(h1:∀E,I E []->N E):Po (wW it tg b E) N C R X:=by
 show Po (ofE (it E) λE ds=>J4 tg b ds E) N C R X;rw[Q2]
 with_unfolding_all exact h0.mono λE ds h=>kz5 I hs h1 ds E h
theorem vj7{t:Ts}{b:Sm}(I:Nat->En->Prop)(hs:∀n E,I n E->Eo (t E) (λE1 k=>if k=true then Po (b E1) (λE2=>∃m,m<n/\I m E2) (λE2=>∃m,m<n/\I m E2) R X else N E1) X):∀n E,I n E->Po (sWhile t b E) N C R X:=by
 intro n
 induction n using Nat.strongRecOn with
 | _ n ih=>
  intro E h;have h2:=hs n E h;rw [sWhile];cases ht:t E with
  | none=>rw[ht]at h2;with_unfolding_all exact(show False from h2).elim
  | some r=>
   rw [ht]at h2;cases r with
   | exc E1 c=>with_unfolding_all exact h2
   | ok E1 k=>
    cases k with
    | false=>with_unfolding_all exact h2
    | true=>
     have h2:Po (b E1) (λE2=>∃m,m<n/\I m E2) (λE2=>∃m,m<n/\I m E2) R X:=by with_unfolding_all exact h2
     dsimp only;cases hb:b E1 with
     |none=>rw[hb]at h2;with_unfolding_all exact(show False from h2).elim
     |some r=>
      rw[hb]at h2;cases r with
      |nx E2=>exact(show ∃m,m<n/\I m E2 by with_unfolding_all exact h2).elim λm hh=>ih m hh.1 E2 hh.2
      |ct E2=>exact(show ∃m,m<n/\I m E2 by with_unfolding_all exact h2).elim λm hh=>ih m hh.1 E2 hh.2
      |rt E2 x=>with_unfolding_all exact h2
      |xc E2 c=>with_unfolding_all exact h2
      |bk E2=>with_unfolding_all exact(show False from h2).elim
theorem qxm{tg:Tg}{t:Ts}{c:Ex}{P:En->List Sd->Prop}(J:En->List D->List Sd->Prop)(hs:∀B d ds acc,J B (d::ds) acc->Vo (tg.put d B) λB1=>Eo (t B1) (λB2 k=>if k=true then Eo (c B2) (λB3 y=>J B3 ds (acc++[y])) X else J B2 ds acc) X)(h1:∀B acc,J B [] acc->P B acc):∀ds B acc,J B ds acc->Eo (lcL tg t c ds B acc) P X
 | [],B,acc,h=>by with_unfolding_all exact h1 B acc h
 | d::ds,B,acc,h=>by
  have h2:=hs B d ds acc h;unfold lcL;cases hp:tg.put d B with
  | none=>rw[hp]at h2;with_unfolding_all exact(show False from h2).elim
  | some B1=>
   rw[hp]at h2;have h2:Eo (t B1) (λB2 k=>if k=true then Eo (c B2) (λB3 y=>J B3 ds (acc++[y])) X else J B2 ds acc) X:=by with_unfolding_all exact h2
   dsimp only;rw[kz];refine h2.mono λB2 k h3=>?_
   cases k with
   |false=>with_unfolding_all exact qxm J hs h1 ds B2 acc h3
   |true=>
    show Eo (bnd (c B2) _) P X;rw[kz]
    with_unfolding_all exact Eo.mono (P:=λB3 y=>J B3 ds (acc++[y])) h3 λB3 y h4=>qxm J hs h1 ds B3 _ h4
theorem XQ{o:Own}{k:Nat}{r:List Nat}{it:Ev (List D)}{tg:Tg}{t:Ts}{c:Ex}{P:En->Sd->Prop}(J:En->En->List D->List Sd->Prop)(h0:Eo (it E) (λE1 ds=>J E1 (V5 k r E1) ds []) X)
  (hs:∀E1 B d ds acc,J E1 B (d::ds) acc->Vo (tg.put d B) λB1=>Eo (t B1) (λB2 k=>if k=true then Eo (c B2) (λB3 y=>J E1 B3 ds (acc++[y])) X else J E1 B2 ds acc) X) (h1:∀E1 B acc,J E1 B [] acc->Eo (mkL o (Jk k r B E1) acc) P X):Eo (cLC o k r it tg t c E) P X:=by
 unfold cLC;rw[kz];refine h0.mono λE1 ds hJ=>?_
 have:=qxm (P:=λB acc=>Eo (mkL o (Jk k r B E1) acc) P X) (J E1) (hs E1) (h1 E1) ds _ _ hJ;cases hl:lcL tg t c ds (V5 k r E1) []with
 |none=>rw[hl]at this;with_unfolding_all exact(show False from this).elim
 |some q=>rw[hl]at this;cases q<;>with_unfolding_all exact this
end
theorem mulT_i{o1:Own}{a:Int}{y:Sd}:kX (o1,.int a) y=J3 (o1,.int a) y:=by
 unfold kX;with_unfolding_all rfl
theorem mulT_l{o1:Own}{a:List D}{y:Sd}:kX (o1,.lst a) y=J3 (o1,.lst a) y:=by
 unfold kX;with_unfolding_all rfl
noncomputable def sl(q:Option (Option Sd)):Option Sd:=match q with
 |some (some x)=>some x
 |_=>none
theorem sl_some{x:Sd}:sl (some (some x))=some x:=nd (by with_unfolding_all rfl)
noncomputable def wx2(d:D)(a b:Prop):Prop:=match d with
 |.bl k=>if k=true then a else b
 |_=>False
theorem andP_bl{k:Bool}{a b:Prop}:wx2 (.bl k) a b=if k=true then a else b:=nd (by with_unfolding_all rfl)
noncomputable def Wo{α:Type}(m:Option α)(E:En)(P:En->α->Prop):Prop:=Vo m (P E)
theorem wo_some{α:Type}{a:α}{E:En}{P:En->α->Prop}:Wo (some a) E P=P E a:=by unfold Wo;exact vo_some
theorem wo_map{α β:Type}{x:Option β}{f:β->α}{E:En}{P:En->α->Prop}:Wo (x.map f) E P=Wo x E (λE a=>P E (f a)):=by unfold Wo;exact vo_map
noncomputable def Oe(f:Fn)(xs:List Sd)(E:En)(P:En->Sd->Prop)(X:XP):Prop:=Oo f xs (P E) X
noncomputable def intP(d:D)(P:Int->Prop):Prop:=match d with
 |.int i=>P i
 |_=>False
noncomputable def Ie(d:D)(E:En)(P:En->Int->Prop):Prop:=intP d (P E)
theorem ie_i{i:Int}{E:En}{P:En->Int->Prop}:Ie (.int i) E P=P E i:=nd (by with_unfolding_all rfl)
section
variable {P:En->Sd->Prop}{T:En->Bool->Prop}{X:XP}{N C:En->Prop}{R:Sd->Prop}{E:En}{e:Option Sd}{a b c:Ex}{t u:Ts}{i:Nat}
theorem w_seq{a b:Sm}:Po (j4 a b (e::E)) N C R X=Po (a (e::E)) (λE=>Po (b E) N C R X) C R X:=vkx
theorem w_asg:Po (jk i c (e::E)) N C R X=Eo (c (e::E)) (λE x=>N (E.set i (some x))) X:=by unfold jk;rw[Q2];with_unfolding_all rfl
theorem w_ret:Po (jQ c (e::E)) N C R X=Eo (c (e::E)) (λ_ x=>R x) X:=by unfold jQ;rw[Q2];with_unfolding_all rfl
theorem w_pass:Po (kZ (e::E)) N C R X=N (e::E):=nd (by with_unfolding_all rfl)
theorem w_if{a b:Sm}:Po (sIf t a b (e::E)) N C R X=Eo (t (e::E)) (λE k=>if k=true then Po (a E) N C R X else Po (b E) N C R X) X:=by
 unfold sIf;rw[Q2];congr 1;funext E k;cases k<;>with_unfolding_all rfl
theorem w_tup{is:List Nat}:Po (Qw is c (e::E)) N C R X=Eo (c (e::E)) (λE x=>Vo (Tg.put (.t is) x.2 E) N) X:=by
 unfold Qw;rw[Q2];congr 1;funext E x;rw[wjg];with_unfolding_all rfl
theorem w_vV:Eo (vV i (e::E)) P X=Wo (sl (e::E)[i]?) (e::E) P:=by
 unfold vV Wo;cases(e::E)[i]? with
 |none=>with_unfolding_all rfl
 |some q=>cases q<;>with_unfolding_all rfl
theorem w_cV:Eo (cV i (e::E)) P X=Wo (sl (e::E)[i]?) (e::E) (λE x=>P (E.set i (some (.no,x.2))) (.no,x.2)):=by
 unfold cV Wo;cases(e::E)[i]? with
 |none=>with_unfolding_all rfl
 |some q=>cases q<;>with_unfolding_all rfl
theorem w_cMv:Eo (cMv i (e::E)) P X=Wo (sl (e::E)[i]?) (e::E) (λE x=>P (E.set i none) x):=by
 unfold cMv Wo;cases(e::E)[i]? with
 |none=>with_unfolding_all rfl
 |some q=>cases q<;>with_unfolding_all rfl
theorem w_cC{d:D}:Eo (cC d (e::E)) P X=P (e::E) (.dp,d):=nd (by with_unfolding_all rfl)
theorem w_vE:Eo (vE c (e::E)) P X=Eo (c (e::E)) (λE x=>P E (.no,x.2)) X:=by unfold vE;rw[kz];with_unfolding_all rfl
theorem w_cH:Eo (cH c (e::E)) P X=Eo (c (e::E)) (λE x=>if x.1=.no then P E (.no,x.2)else if x.2.pure=true then P E (.dp,x.2)else False) X:=by
 unfold cH;rw[kz]
 congr 1
 funext E x
 by_cases h:x.1=.no
 ·rw[Xa h,Xa h];with_unfolding_all rfl
 ·rw[Xe h,Xe h]
  by_cases h2:x.2.pure=true
  ·rw[Xa h2,Xa h2];with_unfolding_all rfl
  ·rw[Xe h2,Xe h2];with_unfolding_all rfl
theorem w_f1{f:Sd->Option Sd}:Eo (cF1 f a (e::E)) P X=Eo (a (e::E)) (λE x=>Wo (f x) E P) X:=by
 unfold cF1;rw[kz];congr 1;funext E x;exact JX
theorem w_f2{f:Sd->Sd->Option Sd}:Eo (cF2 f a b (e::E)) P X=Eo (a (e::E)) (λE x=>Eo (b E) (λE y=>Wo (f x y) E P) X) X:=by
 unfold cF2;rw[kz];congr 1;funext E x;rw[kz];congr 1;funext E y;exact JX
theorem w_ix:Eo (j6 a b (e::E)) P X=Eo (a (e::E)) (λE x=>Eo (b E) (λE y=>Wo (jY x.2 y.2) E (λE d=>P E (sub x.1,d))) X) X:=by
 unfold j6;rw[kz];congr 1;funext E x;rw[kz];congr 1;funext E y;rw[JX];exact vo_map
theorem w_tE:Eo (tE c (e::E)) T X=Eo (c (e::E)) (λE x=>Wo (truth x.2) E T) X:=by
 unfold tE;rw[kz];congr 1;funext E x;exact JX
theorem w_tEQ:Eo (tEQ c (e::E)) T X=Eo (c (e::E)) (λE x=>Wo (truthQ x.2) E T) X:=by
 unfold tEQ;rw[kz];congr 1;funext E x;exact JX
theorem w_tAnd:Eo (tAnd t u (e::E)) T X=Eo (t (e::E)) (λE k=>if k=true then Eo (u E) T X else T E false) X:=by
 unfold tAnd;rw[kz];congr 1;funext E k;cases k<;>with_unfolding_all rfl
theorem w_tOr:Eo (tOr t u (e::E)) T X=Eo (t (e::E)) (λE k=>if k=true then T E true else Eo (u E) T X) X:=by
 unfold tOr;rw[kz];congr 1;funext E k;cases k<;>with_unfolding_all rfl
theorem w_tYes:Eo (tYes (e::E)) T X=T (e::E) true:=nd (by with_unfolding_all rfl)
theorem w_cIf:Eo (cIf t a b (e::E)) P X=Eo (t (e::E)) (λE k=>if k=true then Eo (a E) P X else Eo (b E) P X) X:=by
 unfold cIf;rw[kz];congr 1;funext E k;cases k<;>with_unfolding_all rfl
theorem w_cAnd:Eo (ZJ a b (e::E)) P X=Eo (a (e::E)) (λE x=>wx2 x.2 (Eo (b E) P X) (P E (.dp,.bl false))) X:=by
 rw[vxf,kz];congr 1;funext E x;cases x.2 with
 |bl k=>cases k<;>with_unfolding_all rfl
 |_=>with_unfolding_all rfl
theorem w_cOr:Eo (cOr a b (e::E)) P X=Eo (a (e::E)) (λE x=>wx2 x.2 (P E (.dp,.bl true)) (Eo (b E) P X)) X:=by
 rw[wqc,kz];congr 1;funext E x;cases x.2 with
 |bl k=>cases k<;>with_unfolding_all rfl
 |_=>with_unfolding_all rfl
theorem w_call{f:Fn}{cs:List Ex}:Eo (jK f cs (e::E)) P X=Eo (v4 cs (e::E)) (λE xs=>Oe f (letAll xs) E P X) X:=by with_unfolding_all exact vx7
theorem w_partN{P:En->Option Int->Prop}:Eo (V6 none (e::E)) P X=P (e::E) none:=nd (by with_unfolding_all rfl)
theorem w_partS{P:En->Option Int->Prop}:Eo (V6 (some c) (e::E)) P X=Eo (c (e::E)) (λE x=>Ie x.2 E (λE i=>P E (some i))) X:=by
 show Eo (bnd (c (e::E)) _) P X=_;rw[kz];congr 1;funext E x;unfold Ie;cases x.2<;>with_unfolding_all rfl
theorem w_sl{lo hi:Option Ex}:Eo (cSl a lo hi (e::E)) P X=Eo (a (e::E)) (λE x=>Eo (V6 lo E) (λE l=>Eo (V6 hi E) (λE h=>Wo (fSl x l h) E P) X) X) X:=by
 unfold cSl;rw[kz];congr 1;funext E x;rw[kz];congr 1;funext E l;rw[kz];congr 1;funext E h;exact JX
theorem w_idx:Eo (wv3 a b (e::E)) P X=Eo (a (e::E)) (λE x=>if isSq x.2=true then Eo (b E) (λE y=>Wo (qk5 x.2 y.2) E (λE d=>P E (.dp,d))) X else False) X:=by
 unfold wv3;rw[kz];congr 1;funext E x;cases isSq x.2 with
 |false=>with_unfolding_all rfl
 |true=>
  show Eo (bnd (b E) _) P X=_;rw[kz];rw[Xa rfl]
  congr 1;funext E y;rw[JX];unfold pu2;exact vo_map
theorem w_itS{P:En->List D->Prop}:Eo (itS c (e::E)) P X=Eo (c (e::E)) (λE x=>Wo (seqOf x.2) E P) X:=by
 unfold itS;rw[kz]
 congr 1
 funext E x;exact JX
theorem w_itEn{P:En->List D->Prop}:Eo (wkr c (e::E)) P X=Eo (c (e::E)) (λE x=>Wo (lstOf x.2) E (λE ds=>P E (xx 0 ds))) X:=by
 unfold wkr;rw[kz]
 congr 1
 funext E x;rw[JX];exact vo_map
end
theorem args_nil{e:Option Sd}{E:En}{P:En->List Sd->Prop}{X:XP}:Eo (v4 [] (e::E)) P X=P (e::E) []:=nd (by with_unfolding_all rfl)
theorem args_cons{e:Option Sd}{E:En}{c:Ex}{cs:List Ex}{P:En->List Sd->Prop}{X:XP}:Eo (v4 (c::cs) (e::E)) P X=Eo (c (e::E)) (λE x=>Eo (v4 cs E) (λE xs=>P E (x::xs)) X) X:=by
 show Eo (bnd (c (e::E)) λE x=>bnd (v4 cs E) λE xs=>some (.ok E (x::xs))) P X=_;rw[kz]
 congr 1
 funext E x;rw[kz]
 with_unfolding_all rfl
theorem eo_tup{e:Option Sd}{E:En}{cs:List Ex}{P:En->Sd->Prop}{X:XP}:Eo (qQ .no cs (e::E)) P X=Eo (v4 cs (e::E)) (λE xs=>P E (.no,.tup (xs.map (·.2)))) X:=by
 unfold qQ;rw[kz]
 with_unfolding_all rfl
theorem eo_lst{e:Option Sd}{E:En}{cs:List Ex}{P:En->Sd->Prop}{X:XP}:Eo (kK .rt cs (e::E)) P X=Eo (v4 cs (e::E)) (λE xs=>P E (.rt,.lst (xs.map (·.2)))) X:=by
 unfold kK;rw[kz]
 with_unfolding_all rfl
theorem Vv{c:Ex}{E:En}{P:En->List D->Prop}{X:XP}(h:Eo (c E) (λE x=>∃n:Int,x.2=.int n/\n<=1000/\-1000<=n/\P E (jV 0 n)) X):Eo (wj c E) P X:=by
 unfold wj;rw[kz];refine h.mono ?_;rintro E ⟨o,d⟩ ⟨n,rfl,h1,h2,h3⟩;have:vX n=true:=by unfold vX;rw[Xf (by omega),Xf (by omega)];with_unfolding_all rfl
 show Eo (if vX n=true/\n.toNat<=big then _ else _) P X;rw[Xa ⟨this,by unfold big;omega⟩]
 with_unfolding_all exact h3
theorem vwr{c c':Ex}{E:En}{P:En->List D->Prop}{X:XP}(h:Eo (c E) (λE x=>Eo (c' E) (λE y=>∃m n:Int,x.2=.int m/\y.2=.int n/\n<=1000/\-1000<=n/\m<=1000/\-1000<=m/\P E (jV m n)) X) X):Eo (wqx c c' E) P X:=by
 unfold wqx;rw[kz];refine h.mono ?_;rintro E ⟨o,d⟩ h;rw[kz];refine h.mono ?_;rintro E ⟨o',d'⟩ ⟨m,n,e1,rfl,h1,h2,h3,h4,h5⟩;have e1:d=.int m:=e1;subst e1;have a1:vX n=true:=by unfold vX;rw[Xf (by omega),Xf (by omega)];with_unfolding_all rfl
 have a2:vX m=true:=by unfold vX;rw[Xf (by omega),Xf (by omega)];with_unfolding_all rfl
 show Eo (if vX m=true/\vX n=true/\(n - m).toNat<=big then _ else _) P X;rw[Xa ⟨a2,a1,by unfold big;omega⟩]
 with_unfolding_all exact h5
theorem vqj{i:Nat}{c:Ex}{E:En}{o:Own}{xs:List D}{N C:En->Prop}{R:Sd->Prop}{X:XP}(h0:E[i]?=some (some (o,.lst xs)))
  (h:Eo (c E) (λE1 x=>∃o ys,E1[i]?=some (some (o,.lst ys))/\o≠.no/\ys.length<10000/\N (E1.set i (some (if o=.dp/\vK x then .dp else .rt,.lst (ys++[x.2]))))) X):Po (qw qZ i c E) N C R X:=by
 unfold qw;rw[h0,Xa (show Kj (some (some (o,.lst xs)))=true from rfl),Q2];refine h.mono ?_;rintro E1 x ⟨o,ys,h1,h2,h3,h4⟩;rw[h1];dsimp only;have hg:qZ ys x.2=some (ys++[x.2]):=by unfold qZ;rw[Xa (by unfold big;omega)]
 rw[Xe h2,hg]
 with_unfolding_all exact h4
theorem zj{i:Nat}{c:Ex}{E:En}{xs:List D}{N C:En->Prop}{R:Sd->Prop}{X:XP}(h0:E[i]?=some (some (.rt,.lst xs)))
  (h:Eo (c E) (λE1 x=>∃ys,E1[i]?=some (some (.rt,.lst ys))/\ys.length<10000/\N (E1.set i (some (.rt,.lst (ys++[x.2]))))) X):Po (qw qZ i c E) N C R X:=
 vqj h0 (h.mono λE1 x ⟨ys,h1,h2,h3⟩=>⟨.rt,ys,h1,by decide,h2,by rw[Xe (by rintro ⟨z,_⟩;cases z)];with_unfolding_all exact h3⟩)
theorem rng_ok{n:Int}(h1:-1000<=n)(h2:n<=1000):(vX n=true/\n.toNat<=big)=True:=by
 have:vX n=true:=by unfold vX;rw[Xf (by omega),Xf (by omega)];with_unfolding_all rfl
 with_unfolding_all exact eq_true ⟨this,by unfold big;omega⟩
theorem kkb{α:Type}{p:Prop}[Decidable p]{a:Option (Res α)}{P:En->α->Prop}{X:XP}:Eo (if p then a else none) P X=(p/\Eo a P X):=by
 by_cases h:p
 ·rw[Xa h];with_unfolding_all exact propext ⟨λz=>⟨h,z⟩,λz=>z.2⟩
 ·rw[Xe h];with_unfolding_all exact propext ⟨λz=>z.elim,λz=>h z.1⟩
theorem w_R1{c:Ex}{e:Option Sd}{E:En}{P:En->List D->Prop}{X:XP}:Eo (wj c (e::E)) P X=Eo (c (e::E)) (λE x=>Ie x.2 E λE n=>(vX n=true/\n.toNat<=big)/\P E (jV 0 n)) X:=by
 unfold wj;rw[kz];congr 1;funext E x;cases x.2 with
 |int n=>with_unfolding_all exact kkb
 |_=>with_unfolding_all rfl
theorem w_LR1{c:Ex}{e:Option Sd}{E:En}{P:En->Sd->Prop}{X:XP}:Eo (Wk c (e::E)) P X=Eo (c (e::E)) (λE x=>Ie x.2 E λE n=>(vX n=true/\n.toNat<=big)/\P E (.rt,.lst (jV 0 n))) X:=by
 unfold Wk;rw[kz];congr 1;funext E x;cases x.2 with
 |int n=>with_unfolding_all exact kkb
 |_=>with_unfolding_all rfl
theorem wka{E:En}{ys:List Sd}{P:En->Sd->Prop}{X:XP}(h:ys.all vK=true):Eo (mkL .dp E ys) P X=P E (.dp,.lst (ys.map (·.2))):=by
 unfold mkL;rw[Xa rfl,Xa h];with_unfolding_all rfl
theorem vze{o:Own}{xs:List D}{lo hi:Option Int}(h:o≠.dp):fSl (o,.lst xs) lo hi=some (.rt,.lst (Jj xs lo hi)):=by
 show(if v6 (o,.lst xs)then _ else _)=_;rw[Xa (by cases o<;>simp_all [v6])]
theorem sub_no:sub .no=.no:=nd (by with_unfolding_all rfl)
theorem sub_rt:sub .rt=.no:=nd (by with_unfolding_all rfl)
theorem sub_dp:sub .dp=.dp:=nd (by with_unfolding_all rfl)
theorem Oo.use{ι:Sort _}{f:Fn}{xs:List Sd}{g:ι->Sd}{S:ι->Prop}{E:En}{P:En->Sd->Prop}{X:XP}(h:Oo f xs (λy=>∃i,y=g i/\S i) X)(k:∀i,S i->P E (g i)):Oe f xs E P X:=h.mono λy ⟨i,e,s⟩=>e▸k i s
theorem Oo.use2{ι κ:Sort _}{f:Fn}{xs:List Sd}{g:ι->κ->Sd}{S:ι->κ->Prop}{E:En}{P:En->Sd->Prop}{X:XP}(h:Oo f xs (λy=>∃i j,y=g i j/\S i j) X)(k:∀i j,S i j->P E (g i j)):Oe f xs E P X:=h.mono λy ⟨i,j,e,s⟩=>e▸k i j s
theorem Oo.via{f:Fn}{xs:List Sd}{S:Sd->Prop}{E:En}{P:En->Sd->Prop}{X:XP}(h:Oo f xs S X)(k:∀y,S y->P E y):Oe f xs E P X:=h.mono k
theorem Q0{E:En}{ys:List Sd}{P:En->Sd->Prop}{X:XP}:Eo (mkL .rt E ys) P X=P E (.rt,.lst (ys.map (·.2))):=nd (by with_unfolding_all rfl)
theorem w_rz{c:Str}{e:Option Sd}{E:En}{N C:En->Prop}{R:Sd->Prop}{X:XP}:Po (sRz c (e::E)) N C R X=X c:=nd (by with_unfolding_all rfl)
noncomputable def Ox(f:Fn)(xs:List Sd)(E:En)(P:En->Sd->Prop)(Y:En->Str->Prop):Prop:=Oo f xs (P E) (Y E)
theorem Oo.ox{f:Fn}{xs:List Sd}{S:Sd->Prop}{W:XP}{E:En}{P:En->Sd->Prop}{Y:En->Str->Prop}(h:Oo f xs S W)(k:∀y,S y->P E y)(l:∀c,W c->Y E c):Ox f xs E P Y:=by
 unfold Ox Oo at *;cases hf:f xs with
 |none=>rw[hf]at h;with_unfolding_all exact h
 |some r=>rw[hf]at h;cases r with
  |ok E a=>with_unfolding_all exact k a h
  |exc E c=>with_unfolding_all exact l c h
theorem wjh{i:Nat}{m:Option Fl}{N C:En->Prop}{R:Sd->Prop}{X:XP}:Po (vkm i m) N C R X=Po m (λE=>N (E.set i none)) (λE=>C (E.set i none)) R noX:=by
 cases m with
 |none=>with_unfolding_all rfl
 |some r=>cases r<;>with_unfolding_all rfl
theorem w_tryE{cs:List Str}{i:Nat}{f:Fn}{as:List Ex}{h:Sm}{e:Option Sd}{E:En}{N C:En->Prop}{R:Sd->Prop}{X:XP}:Po (K7 cs i (Qz (K0 f as)) h (e::E)) N C R X =
  Eo (v4 as (e::E)) (λE xs=>Ox f (letAll xs) E (λE _=>N E) (λE c=>c∈cs/\Po (h (E.set i (some (.no,.obj c [])))) (λE=>N (E.set i none)) (λE=>C (E.set i none)) R noX)) noX:=by
 unfold K7 Qz K0;cases v4 as (e::E)with
 | none=>with_unfolding_all rfl
 | some r=>
  cases r with
  | exc E1 c=>with_unfolding_all rfl
  | ok E1 xs=>
   rw [zK];unfold Ox Oo;dsimp only;cases f (letAll xs)with
   | none=>with_unfolding_all rfl
   | some r=>
    cases r with
    | ok E2 y=>with_unfolding_all rfl
    | exc E2 c=>
     dsimp only[ofE]
     by_cases hc:c∈cs
     ·rw[Xa hc,wjh]
      with_unfolding_all exact propext ⟨λz=>⟨hc,z⟩,λz=>z.2⟩
     ·rw[Xe hc]
      with_unfolding_all exact propext ⟨λz=>(show False from z).elim,λz=>absurd z.1 hc⟩
theorem vqb{t:List (Str×Bool)}{c:Str}{k:Bool}{fs:List (Str×D)}(h:t.lookup c=some k):wY t (.obj c fs)=some (.bl k):=by unfold wY;dsimp only;rw[h];rfl
theorem Oo.any{f:Fn}{xs:List Sd}{P:Sd->Prop}{X:XP}(h:Oo f xs P noX):Oo f xs P X:=by
 unfold Oo at *;cases hf:f xs with
 |none=>rw[hf]at h;with_unfolding_all exact h
 |some r=>rw[hf]at h;cases r with
  |ok E a=>with_unfolding_all exact h
  |exc E c=>with_unfolding_all exact(show False from h).elim
section
variable {c kc vc:Ex}{e:Option Sd}{E:En}{X:XP}{N C:En->Prop}{R:Sd->Prop}
theorem vxx{P:En->Sd->Prop}:Eo (vk7 kc vc (e::E)) P X=Eo (kc (e::E)) (λE k=>Eo (vc E) (λE v=>xY k.2=true/\P E (.rt,.dct [(k.2,v.2)])) X) X:=by
 unfold vk7;rw[kz];congr 1;funext E k;rw[kz];congr 1;funext E v;rw[kkb,zK]
end
theorem wke{o:Own}{kvs:List (D×D)}(h:kvs.length<=10000)(hu:unm kvs=true):W3 (o,.dct kvs)=some (.rt,.lst (kvs.map (·.1))):=by
 unfold W3;dsimp only;rw[Xa ⟨by unfold big;omega,hu⟩]
section
variable {a b c:Ex}{cs:List Ex}{e:Option Sd}{E:En}{X:XP}{N C:En->Prop}{R:Sd->Prop}{P:En->Sd->Prop}{i r:Nat}{p:List Nat}{d:D}{ds:List D}
theorem vxw:Eo (WV c (e::E)) P X=Eo (c (e::E)) (λE x=>YK x=true/\P E (.dp,x.2)) X:=by
 unfold WV;rw[kz];congr 1;funext E x;rw[kkb,zK]
theorem vkj:Eo (qQ .dp cs (e::E)) P X=Eo (v4 cs (e::E)) (λE xs=>xs.all vK=true/\P E (.dp,.tup (xs.map (·.2)))) X:=by
 unfold qQ;rw[kz];congr 1;funext E x;rw[Xa rfl,kkb,zK]
end
section
variable {a b c kc vc:Ex}{cs:List Ex}{e:Option Sd}{E:En}{X:XP}{N C:En->Prop}{R:Sd->Prop}{P:En->Sd->Prop}{i r n:Nat}{t:Ts}
theorem qwm{kvs:List (D×D)}(h:unm kvs=true):WW (.dct kvs)=some (.int kvs.length):=Xa h
theorem vqz(h0:wqy E[i]?=true)(h:Eo (kc E) (λE1 k=>Eo (vc E1) (λE2 v=>∃kvs,E2[i]?=some (some (.rt,.dct kvs))/\(xY k.2=true/\kvs.length<10000/\unm kvs=true/\v.2.pure=true/\D.pures (kvs.map (·.2))=true) /\
  (∀d,x6 kvs k.2=some d->P E2 (.dp,d))/\(x6 kvs k.2=none->P (E2.set i (some (.rt,.dct (kvs++[(k.2,v.2)])))) (.dp,v.2))) X) X):Eo (qz0 i kc vc E) P X:=by
 unfold qz0;rw[Xa h0,kz];refine h.mono ?_;intro E1 k h1;rw[kz];refine h1.mono ?_;rintro E2 v ⟨kvs,e2,hc,h3,h4⟩;rw[e2];dsimp only;rw[Xa ⟨hc.1,by unfold big;omega,hc.2.2⟩];cases hg:x6 kvs k.2 with
 |none=>dsimp only;rw[zK];exact h4 hg
 |some d=>dsimp only;rw[zK];exact h3 d hg
noncomputable def WJ(s:Option (Option Sd))(Q:Sd->Prop):Prop:=match s with
 |some (some x)=>Q x
 |_=>False
noncomputable def Om(m:Option Fl)(n:Nat)(N:En->Prop)(P:Sd->Sd->Prop)(X:XP):Prop:=match m with
 |some (.nx E)=>N E
 |some (.rt E x)=>WJ E[n]? (P x)
 |some (.xc _ c)=>X c
 |_=>False
noncomputable def Oom(f:Fn)(xs:List Sd)(n:Nat)(P:Sd->Sd->Prop)(X:XP):Prop:=match f xs with
 |some (.ok E y)=>WJ E[n]? (P y)
 |some (.exc _ c)=>X c
 |none=>False
theorem qw6{nn:Nat}{b:Sm}{xs:List Sd}{P:Sd->Sd->Prop}(h:Om (b (xs.map some++List.replicate (nn - xs.length) none)) n (λE=>WJ E[n]? (P (.dp,.non))) P X):Oom (fn nn b) xs n P X:=by
 unfold Oom fn;cases hb:b (xs.map some++List.replicate (nn - xs.length) none)with
 |none=>rw[hb]at h;exact h.elim
 |some f=>
  rw[hb]at h;cases f with
  |nx E=>exact h
  |rt E x=>exact h
  |xc E c=>exact h
  |ct E=>exact h.elim
  |bk E=>exact h.elim
theorem Zx{a b:Sm}{P:Sd->Sd->Prop}(h:Om (a E) n (λE=>Om (b E) n N P X) P X):Om (j4 a b E) n N P X:=by
 unfold j4;cases ha:a E with
 |none=>rw[ha]at h;exact h.elim
 |some f=>
  rw[ha]at h;cases f with
  |nx E=>exact h
  |rt E x=>exact h
  |xc E c=>exact h
  |ct E=>exact h.elim
  |bk E=>exact h.elim
theorem qw7{P:Sd->Sd->Prop}(h:Eo (c E) (λE x=>WJ E[n]? (P x)) X):Om (jQ c E) n N P X:=by
 unfold jQ;cases hc:c E with
 |none=>rw[hc,qxl]at h;exact h.elim
 |some f=>
  rw[hc]at h;cases f with
  |ok E x=>rw[zK]at h;exact h
  |exc E c=>rw[qxn]at h;exact h
theorem wk0{a b:Sm}{P:Sd->Sd->Prop}(h:Eo (t E) (λE k=>if k=true then Om (a E) n N P X else Om (b E) n N P X) X):Om (sIf t a b E) n N P X:=by
 unfold sIf;cases hc:t E with
 | none=>rw[hc,qxl]at h;exact h.elim
 | some f=>
  rw[hc]at h;cases f with
  |ok E k=>
   rw[zK]at h;cases k with
   |true=>rw[Xa rfl]at h;exact h
   |false=>rw[Xe (by decide)]at h;exact h
  |exc E c=>rw[qxn]at h;exact h
theorem vjh{m:Option Fl}{P:Sd->Sd->Prop}(h:Po m N (λ_=>False) (λ_=>False) X):Om m n N P X:=by
 cases m with
 |none=>with_unfolding_all exact h
 |some f=>
  cases f with
  |nx E=>rw[ZK]at h;exact h
  |rt E x=>rw[wjf]at h;exact h.elim
  |xc E c=>with_unfolding_all exact h
  |ct E=>with_unfolding_all exact h
  |bk E=>with_unfolding_all exact h
theorem qka{f:Fn}(h:Eo (v4 cs E) (λE1 xs=>∃x,E1[i]?=some (some x)/\Oom f (letAll xs++[x]) xs.length (λy x'=>P (E1.set i (some x')) y) X) X):Eo (Z9 f i cs E) P X:=by
 unfold Z9;rw [kz];refine h.mono ?_;rintro E1 xs ⟨x,e1,h1⟩;rw [e1];dsimp only;unfold Oom at h1;cases hf:f (letAll xs++[x])with
 | none=>rw[hf]at h1;exact h1.elim
 | some rr=>
  rw[hf]at h1;cases rr with
  | exc E' c=>dsimp only;rw[qxn];exact h1
  | ok E' y=>
   dsimp only at h1 ⊢;unfold WJ at h1;cases hs:E'[xs.length]? with
   |none=>rw[hs]at h1;exact h1.elim
   |some s=>
    rw[hs]at h1;cases s with
    |none=>exact h1.elim
    |some x'=>dsimp only at h1 ⊢;rw[zK];exact h1
theorem Oom.mono{f:Fn}{xs:List Sd}{P Q:Sd->Sd->Prop}{X Y:XP}(h:Oom f xs n P X)(hp:∀y x,P y x->Q y x)(hx:∀c,X c->Y c):Oom f xs n Q Y:=by
 unfold Oom at h ⊢;cases hf:f xs with
 | none=>rw[hf]at h;exact h.elim
 | some rr=>
  rw[hf]at h;cases rr with
  | exc E' c=>exact hx c h
  | ok E' y=>
   dsimp only at h ⊢;unfold WJ at h ⊢;cases hs:E'[n]? with
   |none=>rw[hs]at h;exact h.elim
   |some s=>
    rw[hs]at h;cases s with
    |none=>exact h.elim
    |some x'=>exact hp _ _ h
theorem vzk{ds:List D}(h0:E[i]?=some (some (.rt,.lst ds)))(h:N (E.set i (some (.rt,.lst ds.reverse)))):Po (V3 i E) N C R X:=by
 unfold V3;rw[h0];dsimp only;rw[ZK];exact h
theorem vkk{cs:List Str}{f:Fn}{as:List Ex}{h:Sm}:Po (Kq cs (Qz (K0 f as)) h (e::E)) N C R X =
  Eo (v4 as (e::E)) (λE xs=>Ox f (letAll xs) E (λE _=>N E) (λE c=>c∈cs/\Po (h E) N C R noX)) noX:=by
 unfold Kq Qz K0;cases v4 as (e::E)with
 | none=>with_unfolding_all rfl
 | some r=>
  cases r with
  | exc E1 c=>with_unfolding_all rfl
  | ok E1 xs=>
   rw [zK];unfold Ox Oo;dsimp only;cases f (letAll xs)with
   | none=>with_unfolding_all rfl
   | some r=>
    cases r with
    | ok E2 y=>with_unfolding_all rfl
    | exc E2 c=>
     dsimp only[ofE]
     by_cases hc:c∈cs
     ·rw[Xa hc];cases h E1 with
      |none=>with_unfolding_all exact propext ⟨λz=>⟨hc,z⟩,λz=>z.2⟩
      |some r=>cases r<;>with_unfolding_all exact propext ⟨λz=>⟨hc,z⟩,λz=>z.2⟩
     ·rw[Xe hc]
      with_unfolding_all exact propext ⟨λz=>(show False from z).elim,λz=>absurd z.1 hc⟩
end
end Q
namespace C
open PySem Q
noncomputable def m_fits:Fn:=fn 4
  (j4 (jk 3 (cH (j6 (vV 0) (C9 1))))
  (j4 (sIf (tE (cF2 (pu2 fEq) (vV 3) (vE (cC (.str "any"))))) (jQ (cC (.bl true))) kZ)
  (j4 (sIf (tE (cF2 (pu2 fEq) (vV 3) (vE (cC (.str "fresh"))))) (jQ (cF2 (pu2 z5) (vV 2) (vV 1))) kZ)
  (jQ (cF2 (pu2 fEq) (j6 (vV 1) (vV 3)) (vV 2))))))
noncomputable def m_held_by:Fn:=fn 3
  (j4 (sIf (tE (cF2 (f2First fIsNon) (vV 0) (vE (cC .non)))) (jQ (cC .non)) kZ)
  (jQ (cIf (tE (cF2 (pu2 fEq) (vV 0) (vE (cC (.str "new"))))) (cV 2) (cH (j6 (vV 1) (vV 0))))))
noncomputable def m_filled:Fn:=fn 3
  (jQ (cF1 Jz (vE (cLC .rt 1 [1,2] (itS (cH (j6 (vV 0) (C9 3)))) (.n 0) tYes (jK m_held_by [(cV 0),(cV 1),(cV 2)])))))
noncomputable def m_first_standing:Fn:=fn 1
  (jQ (qQ .no [(cC (.int 0)),(cF2 kX (vE (qQ .no [(cC .non)])) (j6 (j6 (j6 (vV 0) (C9 1)) (C9 0)) (C9 0)))]))
noncomputable def m_steps_at:Fn:=fn 2
  (jQ (cH (j6 (j6 (j6 (vV 0) (C9 1)) (j6 (vV 1) (C9 0))) (C9 2))))
noncomputable def m_fitting:Fn:=fn 6
  (j4 (jk 4 (cH (j6 (vV 1) (C9 1))))
  (j4 (jk 5 (jK m_steps_at [(cV 0),(cV 1)]))
  (jQ (cLC .rt 2 [2,4,3] (wkr (cV 5)) (.t [0,1]) (tAnd (tE (cF2 (pu2 fEq) (j6 (vV 1) (C9 0)) (vV 2))) (tEQ (vE (jK m_fits [(cV 1),(cV 3),(cV 4)])))) (cV 0)))))
noncomputable def m_behind:Fn:=fn 5
  (j4 (jk 4 (cH (j6 (vE (jK m_steps_at [(cV 0),(cV 1)])) (vV 2))))
  (jQ (qQ .no [(cH (j6 (vV 4) (C9 2))),(jK m_filled [(cV 4),(cH (j6 (vV 1) (C9 1))),(cV 3)])])))
noncomputable def m__law_draw:Fn:=fn 4
  (j4 (jk 2 (cF2 kX (C9 1000) (vE (cF2 (pu2 WK) (C9 10) (C9 64)))))
  (j4 (jk 3 (cF2 jJ (vE (cF2 kX (vE (cF2 kX (vV 1) (vV 1))) (vV 1))) (C9 7)))
  (j4 (sIf (tE (cF2 (pu2 fLt) (vV 1) (vE (cF1 (pu1 v9) (vV 0))))) (jk 3 (cH (j6 (vV 0) (vV 1)))) (sIf (tE (cF2 (pu2 fGt) (vE (cF1 (pu1 v9) (vV 0))) (C9 0))) (jk 3 (cF2 kX (vE (cF2 jJ (vE (cF2 (pu2 kQ) (j6 (vV 0) (vE (cF2 (pu2 kQ) (vV 1) (vE (cF1 (pu1 v9) (vV 0)))))) (C9 1000003))) (C9 1))) (vV 3))) kZ))
  (jQ (cF2 (pu2 kQ) (vE (cF2 kX (vE (cF2 (pu2 kQ) (vV 3) (vV 2))) (vE (cF2 (pu2 WK) (C9 7919) (C9 15))))) (vV 2))))))
noncomputable def m__law_digits:Fn:=fn 4
  (j4 (jk 2 (kK .rt []))
  (j4 (wW (itS (cV 1)) (.n 3) (j4 (qw qZ 2 (cF2 (pu2 kQ) (vV 0) (vV 3)))
  (jk 0 (cF2 (pu2 xW) (vV 0) (vV 3)))))
  (jQ (cMv 2))))
noncomputable def m__law_signs:Fn:=fn 11
  (j4 (jk 2 (cC (.str "abcdefghijklmnopqrstuvwxyz")))
  (j4 (Qw [3,4,5] (jK m__law_digits [(cV 0),(kK .rt [(cC (.int 8)),(cC (.int 840)),(cC (.int 8))])]))
  (j4 (jk 4 (cF2 (pu2 kQ) (vV 4) (vE (cF2 jJ (vV 3) (C9 1)))))
  (j4 (jk 6 (kK .rt []))
  (j4 (wW (wj (vV 1)) (.n 7) (j4 (jk 8 (cC (.str "")))
  (j4 (wW (wj (vE (cF2 jJ (vV 3) (C9 1)))) (.n 9) (j4 (jk 10 (cF2 jJ (vE (cF2 (pu2 xW) (vV 0) (vE (cF2 jJ (C9 53761) (vE (cF2 kX (vE (cF2 kX (C9 26) (vV 9))) (vV 9))))))) (vE (cF2 kX (vE (cF2 kX (vV 7) (vE (cF2 jJ (vV 5) (C9 1))))) (vE (cF1 (pu1 JV) (vE (cF2 (pu2 fEq) (vV 9) (vV 4)))))))))
  (jk 8 (cF2 jJ (vV 8) (j6 (vV 2) (vE (cF2 (pu2 kQ) (vV 10) (C9 26))))))))
  (qw qZ 6 (cV 8)))))
  (jQ (cF1 kk8 (vV 6))))))))
noncomputable def m__law_name:Fn:=fn 1
  (j4 (sIf (tE (cF2 (pu2 fEq) (vE (cF2 (pu2 kQ) (vV 0) (C9 3))) (C9 0))) (jQ (cF2 (pu2 wq5) (vE (cF2 (pu2 kQ) (vE (cF2 (pu2 xW) (vV 0) (C9 3))) (C9 9))) (C9 4))) kZ)
  (jQ (cF2 jJ (vE (cF2 (pu2 wq5) (vE (cF2 (pu2 kQ) (vE (cF2 (pu2 xW) (vV 0) (C9 3))) (vE (cF2 (pu2 wq5) (vE (cF2 kX (C9 2) (vE (cF2 (pu2 WK) (C9 10) (C9 60))))) (C9 1))))) (vE (cF2 (pu2 WK) (C9 10) (C9 60))))) (C9 1))))
noncomputable def m__law_pool(dr:Fn):Fn:=fn 3
  (jQ (cLC .rt 1 [0,1] (wj (vV 2)) (.n 0) tYes (jK m__law_name [(jK dr [(cV 1),(cF2 jJ (vV 2) (vV 0))])])))
noncomputable def K6:Fn:=fn 1
  (jQ (qQ .no [(cF1 JJ (j6 (vV 0) (C9 0))),(cLC .rt 1 [] (itS (cH (j6 (vV 0) (C9 1)))) (.n 0) tYes (qQ .no [(cH (j6 (vV 0) (C9 0))),(cH (j6 (vV 0) (C9 1))),(cF1 JJ (j6 (vV 0) (C9 2)))]))]))
noncomputable def m__law_fits:Fn:=fn 3
  (j4 (sIf (tE (cF2 (pu2 fEq) (j6 (vV 0) (C9 1)) (vE (cC (.str "fresh"))))) (jQ (cF2 (pu2 z5) (vV 2) (vV 1))) kZ)
  (jQ (cOr (vE (cF2 (pu2 fEq) (j6 (vV 0) (C9 1)) (vE (cC (.str "any"))))) (cF2 (pu2 fEq) (j6 (vV 1) (j6 (vV 0) (C9 1))) (vV 2)))))
noncomputable def m__law_filled:Fn:=fn 5
  (j4 (jk 3 (kK .rt []))
  (j4 (wW (itS (cH (j6 (vV 0) (C9 3)))) (.n 4) (sIf (tOr (tE (cF2 (f2First fIsNon) (vV 4) (vE (cC .non)))) (tE (cF2 (pu2 fEq) (vV 4) (vE (cC (.str "new")))))) (qw qZ 3 (cH (j6 (vE (kK .rt [(cV 2),(cC .non)])) (vE (cF1 (pu1 JV) (vE (cF2 (f2First fIsNon) (vV 4) (vE (cC .non))))))))) (qw qZ 3 (cH (j6 (vV 1) (vV 4))))))
  (jQ (cF1 Jz (vV 3)))))
noncomputable def m__law_fitting:Fn:=fn 5
  (j4 (jk 4 (cH (j6 (j6 (j6 (vV 0) (C9 1)) (j6 (vV 1) (C9 0))) (C9 2))))
  (jQ (cLC .rt 1 [4,2,1,3] (wj (vE (cF1 (pu1 v9) (vV 4)))) (.n 0) (tAnd (tE (cF2 (pu2 fEq) (j6 (j6 (vV 1) (vV 0)) (C9 0)) (vV 2))) (tEQ (vE (jK m__law_fits [(cH (j6 (vV 1) (vV 0))),(cH (j6 (vV 3) (C9 1))),(cV 4)])))) (cV 0))))
noncomputable def m__law_behind:Fn:=fn 5
  (j4 (jk 4 (cH (j6 (j6 (j6 (j6 (vV 0) (C9 1)) (j6 (vV 1) (C9 0))) (C9 2)) (vV 2))))
  (jQ (qQ .no [(cH (j6 (vV 4) (C9 2))),(jK m__law_filled [(cV 4),(cH (j6 (vV 1) (C9 1))),(cV 3)])])))
end C
local macro_rules
 | `(tactic| simp![$ts,*])=>`(tactic| simp(config:={ maxSteps:=1000000,failIfUnchanged:=false,implicitDefEqProofs:=true }) (disch:=omega) only[↓Q.w_seq,↓Q.w_asg,↓Q.w_ret,↓Q.w_pass,↓Q.w_if,↓Q.w_tup,↓Q.w_vV,↓Q.w_cV,↓Q.w_cMv,↓Q.w_cC,↓Q.w_vE,↓Q.w_cH,↓Q.w_f1,↓Q.w_f2,↓Q.w_ix,↓Q.w_tE,↓Q.w_tEQ,↓Q.w_tAnd,↓Q.w_tOr,↓Q.w_tYes,↓Q.w_cIf,↓Q.w_cAnd,↓Q.w_cOr,↓Q.w_call,↓Q.w_partN,↓Q.w_partS,↓Q.w_sl,↓Q.w_idx,↓Q.w_itS,↓Q.w_itEn,↓Q.w_rz,↓Q.w_tryE,↓Q.w_R1,↓Q.w_LR1,Q.rng_ok,true_and,↓Q.ie_i,Q.isSq,Q.sl_some,↓Q.andP_bl,↓Q.vo_some,↓Q.vo_map,↓Q.wo_some,↓Q.wo_map,↓Q.args_nil,↓Q.args_cons,↓Q.eo_tup,↓Q.eo_lst,Q.letAll,Q.pu2,Q.pu1,Q.f2First,Q.fIsNon,Q.fNotNon,Q.isNon,List.map_cons,List.map_nil,List.cons_append,List.nil_append,Xn,List.length_nil,X5,Nat.reduceAdd,Nat.reduceSub,List.replicate,List.set_cons_zero,List.set_cons_succ,List.getElem?_cons_zero,List.getElem?_cons_succ,Q.len_l,Q.len_t,Q.lt_ii,Q.gt_ii,Q.le_ii,Q.ge_ii,Q.add_i,Q.sub_i,Q.div_i,Q.mod_i,Q.pow_i,Q.mulT_i,Q.mulT_l,Q.mul_l,Option.map_some,Q.truth,Q.truthQ,Q.D.pure,↓reduceIte,if_true,if_false,ite_true,ite_false,Q.sub_no,Q.sub_rt,Q.sub_dp,Bool.false_eq_true,reduceCtorEq,Bool.not_true,Bool.not_false,Q.Tg.put,Q.setAll,Q.seqOf,Q.lstOf,$ts,*])
namespace C
open Q PySem
abbrev most:Int:=1000*10 ^ 64
abbrev iL(ns:List Int):D:=.lst (ns.map D.int)
noncomputable def Dr(dr:Fn):Prop:=∀(ns:List Int) (k:Int),0<=k->k<=1000->Oo dr [(.no,iL ns),(.no,.int k)] (λy=>∃i,y=(.dp,.int i)/\0<=i/\i<most) noX
theorem W8(ns:List Int)(k:Int)(h0:0<=k)(h1:k<=1000):Oo m__law_draw [(.no,iL ns),(.no,.int k)] (λy=>∃i,y=(.dp,.int i)/\0<=i/\i<most) noX:=by
 have hkk:k*k<=1000*1000:=Int.mul_le_mul h1 h1 h0 (by decide);have hkk0:0<=k*k:=Int.mul_nonneg h0 h0;have hc:k*k*k<=1000*1000*1000:=Int.mul_le_mul hkk h1 h0 (by decide);have hc0:0<=k*k*k:=Int.mul_nonneg hkk0 h0;have hp:((7919:Int) ^ (Int.toNat 15))=7919 ^ 15:=rfl;have hm:(1000*(10:Int) ^ (Int.toNat 64))=most:=rfl;have jm:(0:Int)<most:=by decide
 have hb:∀x:Int,J3 (.no,.int (x % most)) (.no,.int (7919 ^ 15))=some (.dp,.int (x % most*7919 ^ 15)):=λx=>by
  have:=Xu x (show most≠0 by decide);have:=Xm x jm;unfold most at *;exact wwb (by omega) (by omega) (by decide) (by decide)
 have fin:∀x:Int,∃i,((Own.dp,D.int (x % most)):Sd)=(.dp,.int i)/\0<=i/\i<most:=λx=>⟨_,rfl,Xu _ (by decide),Xm _ jm⟩
 unfold m__law_draw;refine qx ?_
 by_cases c1:k<ns.length
 ·have hi:=qwy ns k h0 c1;simp![Xf c1,hi,hm,hp,mod_i jm,hb];exact fin _
 ·by_cases c2:(0:Int)<ns.length
  ·have hq0:=Xu k (show(ns.length:Int)≠0 by omega);have hq1:=Xm k c2;have hi:=qwy ns (k % ns.length) hq0 hq1;simp![Xb c1,Xf c2,hi,hm,hp,mod_i jm,mod_i c2,hb];exact fin _
  ·simp![Xb c1,Xb c2,hm,hp,mod_i jm,hb];exact fin _
noncomputable def Digs:List Int->List Int->Prop
 |[],[]=>True
 |b::bs,d::ds=>0<=d/\d<b/\Digs bs ds
 |_,_=>False
theorem Zz(x:Int):∀(bs:List Int) (hb:∀b∈bs,0<b/\b<1000000000000) (hl:bs.length<1000),Oo m__law_digits [(.no,.int x),(.no,iL bs)] (λy=>∃ds,y=(.rt,iL ds)/\Digs bs ds) noX:=by
 intro bs hb hl;unfold m__law_digits;refine qx ?_;simp![];refine Jq (λE jx=>∃x o ys l d0 bs1 bs2,E=[some (o,.int x),some (.no,d0),some (.rt,iL ys),l]/\jx=bs2.map D.int/\bs=bs1++bs2/\Digs bs1 ys/\ys.length=bs1.length) ?_ ?_ ?_
 ·simp![];exact⟨x,.no,[],none,_,[],bs,rfl,rfl,rfl,trivial,rfl⟩
 ·rintro E d ds ⟨x,o,ys,l,d0,bs1,bs2,rfl,hr,he,hd,hy⟩;cases bs2 with
  | nil=>cases hr
  | cons b bs2=>
   rw[List.map_cons]at hr;injection hr with e1 e2;subst e1 e2;have p7:=hb b (by rw[he];simp);simp![];refine vqj rfl ?_;simp![mod_i p7.1];refine⟨.rt,_,rfl,by decide,?_,?_⟩
   ·rw[X5];have:=congrArg List.length he;rw[Xi]at this;omega
   ·simp![div_i p7.1];refine⟨_,_,ys++[x % b],_,_,bs1++[b],bs2,by simp[iL,vK];exact⟨⟨rfl,rfl⟩,rfl,rfl⟩,rfl,by rw[he];simp,?_,by simp[hy]⟩;have h1:=Xu x (show b≠0 by omega);have h2:=Xm x p7.1;clear he hb
    induction bs1 generalizing ys with
    |nil=>cases ys with
     |nil=>exact⟨h1,h2,trivial⟩
     |cons y ys=>exact hd.elim
    |cons c bs1 ih=>cases ys with
     |nil=>exact hd.elim
     |cons y ys=>exact⟨hd.1,hd.2.1,ih ys hd.2.2 (by simpa using hy)⟩
 ·rintro E ⟨x,o,ys,l,d0,bs1,bs2,rfl,hr,he,hd,hy⟩;cases bs2 with
  |cons b bs2=>cases hr
  |nil=>
   rw[Xr]at he;subst he;simp![];exact⟨ys,rfl,hd⟩
noncomputable def Each(G:D->Sd->Prop):List D->List Sd->Prop
 |[],[]=>True
 |d::ds,y::ys=>G d y/\Each G ds ys
 |_,_=>False
theorem Each.snoc{G:D->Sd->Prop}{d:D}{y:Sd}(h:G d y):∀{ds:List D} {ys:List Sd},Each G ds ys->Each G (ds++[d]) (ys++[y])
 |[],[],_=>⟨h,trivial⟩
 |_::_,_::_,r=>⟨r.1,Each.snoc h r.2⟩
theorem ZV{X:XP}{E:En}{o:Own}{r:List Nat}{it:Ev (List D)}{c:Ex}{P:En->Sd->Prop}(jx:En)(G:D->Sd->Prop)(h0:Eo (it E) (λE1 ds=>r.map (at' E1)=jx/\(∀d∈ds,Eo (c (some (.no,d)::jx)) (λB y=>(∃q,B=q::jx)/\G d y) X)/\∀ys,Each G ds ys->Eo (mkL o (back r jx (clr r E1)) ys) P X) X):Eo (cLC o 1 r it (.n 0) tYes c E) P X:=by
 refine XQ (λE1 B ds2 acc=>∃ds ds1 q,ds=ds1++ds2/\B=q::jx/\Each G ds1 acc/\(∀d∈ds,Eo (c (some (.no,d)::jx)) (λB y=>(∃q,B=q::jx)/\G d y) X)/\∀ys,Each G ds ys->Eo (mkL o (back r jx (clr r E1)) ys) P X) ?_ ?_ ?_
 ·refine h0.mono λE1 ds ⟨h1,h2,h3⟩=>⟨ds,[],none,rfl,by rw[<-h1];rfl,trivial,h2,h3⟩
 ·rintro E1 B d ds2 acc ⟨ds,ds1,q,e,rfl,hE,h2,h3⟩;have hp:(Tg.n 0).put d (q::jx)=some (some (.no,d)::jx):=rfl;rw[hp,vo_some,show tYes (some (Own.no,d)::jx)=some (.ok (some (Own.no,d)::jx) true)from rfl,zK,Xa rfl];refine(h2 d (by rw[e];simp)).mono ?_;rintro B y ⟨⟨q',rfl⟩,hG⟩;exact⟨ds,ds1++[d],q',by rw[e];simp,rfl,hE.snoc hG,h2,h3⟩
 ·rintro E1 B acc ⟨ds,ds1,q,e,rfl,hE,h2,h3⟩;rw[Xr]at e;subst e;exact h3 acc hE
theorem kkd{G:D->Sd->Prop}{S:Int->Prop}(hG:∀d y,G d y->∃i,y.2=.int i/\S i):∀{ds:List D} {ys:List Sd},Each G ds ys->∃ps:List Int,ys.map (·.2)=ps.map D.int/\ps.length=ds.length/\∀p∈ps,S p
 |[],[],_=>⟨[],rfl,rfl,λ_ h=>nomatch h⟩
 |d::ds,y::ys,r=>by
  obtain⟨i,e,s⟩:=hG d y r.1;obtain⟨ps,h1,h2,h3⟩:=kkd hG r.2;exact⟨i::ps,by simp[e,h1],by simp[h2],λp hp=>(List.mem_cons.mp hp).elim (λz=>z▸s) (h3 p)⟩
theorem qvb{n:Int}:jV n n=[]:=by unfold jV;rw[Int.sub_self];rfl
theorem kqd{k n:Int}(h:k<n):jV k n=.int k::jV (k+1) n:=by
 unfold jV;have:(n - k).toNat=(n - (k+1)).toNat+1:=by omega
 rw[this,List.range_succ_eq_map,List.map_cons,Y9]
 congr 1
 ·simp
 ·apply Yr;intro i _;simp only[Function.comp]
  congr 1
  omega
theorem V1{k n:Int}{d:D}{ds:List D}(hk:k<=n)(h:d::ds=jV k n):k<n/\d=.int k/\ds=jV (k+1) n:=by
 by_cases hl:k<n
 ·rw[kqd hl]at h;injection h with h1 h2;exact⟨hl,h1,h2⟩
 ·have:k=n:=by omega
  subst this;rw[qvb]at h;cases h
theorem YX{k n:Int}(hk:k<=n)(h:[]=jV k n):k=n:=by
 by_cases hl:k<n
 ·rw[kqd hl]at h;cases h
 ·omega
theorem WZ{k n:Int}{d:D}(h:d∈jV k n):∃i:Int,k<=i/\i<n/\d=.int i:=by
 unfold jV at h;obtain⟨j,hj,rfl⟩:=List.mem_map.mp h;have:=List.mem_range.mp hj;exact⟨k+j,by omega,by omega,rfl⟩
theorem kze{k n:Int}(h:k<=n):((jV k n).length:Int)=n - k:=by
 unfold jV;rw[X5,List.length_range];omega
noncomputable def Nm(i:Int):Prop:=-(10 ^ 60)<i/\i<10 ^ 60
theorem vwf(x:Int):Oo m__law_name [(.no,.int x)] (λy=>∃i,y=(.dp,.int i)/\Nm i) noX:=by
 have hp:((10:Int) ^ (Int.toNat 60))=10 ^ 60:=rfl;have hm:kQ (.int (x / 3)) (.int (2*10 ^ 60 - 1))=some (.int (x / 3 % (2*10 ^ 60 - 1))):=mod_i (by decide);unfold m__law_name;refine qx ?_;simp![xq]
 by_cases c:x % 3=0
 ·rw[Xa (by rw[c];rfl)];have h1:=Xu (x / 3) (show(9:Int)≠0 by decide);have h2:=Xm (x / 3) (show(0:Int)<9 by decide);exact⟨_,rfl,by unfold Nm;omega⟩
 ·rw[Xe (by simpa using c)];simp![hp,hm];have h1:=Xu (x / 3) (show(2*10 ^ 60 - 1:Int)≠0 by decide);have h2:=Xm (x / 3) (show(0:Int)<2*10 ^ 60 - 1 by decide);exact⟨_,rfl,by unfold Nm;omega⟩
theorem vvs{dr:Fn}(hdr:Dr dr)(ns:List Int)(a n:Int)(ha:0<=a)(oh:a<=100)(hn:0<=n)(hn2:n<=100):Oo (m__law_pool dr) [(.no,iL ns),(.no,.int a),(.no,.int n)] (λy=>∃ps,y=(.rt,iL ps)/\(ps.length:Int)=n/\∀p∈ps,Nm p) noX:=by
 unfold m__law_pool;refine qx ?_;simp![];refine ZV [some (.no,iL ns),some (.no,.int a)] (λ_ y=>∃i,y=(.dp,.int i)/\Nm i) ?_;refine Vv ?_;simp![];refine⟨n,rfl,by omega,by omega,rfl,λd hd=>?_,λys hy=>?_⟩
 ·obtain⟨i,h1,h2,rfl⟩:=WZ hd;simp![];refine(hdr ns (a+i) (by omega) (by omega)).via ?_;rintro _ ⟨x,rfl,_,_⟩;simp![];refine(vwf x).via ?_;rintro _ ⟨j,rfl,hj⟩;exact⟨⟨_,rfl⟩,j,rfl,hj⟩
 ·obtain⟨ps,h1,h2,h3⟩:=kkd (S:=Nm) (λd y ⟨i,h,s⟩=>⟨i,by rw[h],s⟩) hy;rw[Q0,h1];exact⟨ps,rfl,by rw[h2,kze hn];omega,h3⟩
theorem wqg{o1 o2:Own}{a b:Str}(h:a.cps.size+b.cps.size<=10000):jJ (o1,.str a) (o2,.str b)=some (.dp,.str (a++b)):=by
 show(if a.cps.size+b.cps.size<=big then _ else _)=_;rw[Xa (by unfold big;omega)]
theorem qzv(a b:Str):(a++b).cps.size=a.cps.size+b.cps.size:=by
 show(a.cps++b.cps).size=_;exact Array.size_append
theorem qqu:∀(ss:List Str),Jw (ss.map D.str)=some ss
 |[]=>rfl
 |s::ss=>by rw[List.map_cons,Jw,qqu ss];rfl
theorem qzp{o:Own}{ss:List Str}(h:ss.length<64):kk8 (o,.lst (ss.map D.str))=some (.rt,.lst ((J0 ss).map D.str)):=by
 unfold kk8;dsimp only;rw[qqu];dsimp only;rw[Xa h]
theorem qjz(a:Str):∀r,(JQ a r).length=r.length+1
 |[]=>rfl
 |b::r=>by unfold JQ;split<;>simp[qjz a r]
theorem kw0:∀r,(J0 r).length=r.length
 |[]=>rfl
 |a::r=>by rw[J0,qjz,kw0 r];rfl
theorem wq7{a b c:Int}{ds:List Int}(h:Digs [a,b,c] ds):∃x y z,ds=[x,y,z]/\0<=x/\x<a/\0<=y/\y<b/\0<=z/\z<c:=by
 match ds,h with
 |[x,y,z],⟨h1,h2,h3,h4,h5,h6,_⟩=>exact⟨x,y,z,rfl,h1,h2,h3,h4,h5,h6⟩
theorem Digs.get:∀{bs ds:List Int} (h:Digs bs ds) (i:Nat) (b:Int),bs[i]?=some b->∃d,ds[i]?=some d/\0<=d/\d<b
 |b::bs,d::ds,h,0,c,e=>by
  have e:b=c:=by simpa using e
  subst e;exact⟨d,rfl,h.1,h.2.1⟩
 |b::bs,d::ds,h,i+1,c,e=>by
  obtain⟨x,h1,h2⟩:=Digs.get h.2.2 i c (by simpa using e);exact⟨x,by simpa using h1,h2⟩
 |[],_,_,i,c,e=>by simp at e
theorem Digs.len:∀{bs ds:List Int} (h:Digs bs ds),ds.length=bs.length
 |[],[],_=>rfl
 |b::bs,d::ds,h=>by rw[Xn,Xn,Digs.len h.2.2]
abbrev sL(ss:List Str):D:=.lst (ss.map D.str)
theorem dg{bs hs:List Int}(h:Digs bs hs)(i:Int)(h0:0<=i)(h1:i<bs.length):∃v,jY (iL hs) (.int i)=some (.int v)/\0<=v/\v<bs.getD i.toNat 0:=by
 have hl:i.toNat<bs.length:=by omega
 obtain⟨d,e,d0,d1⟩:=h.get i.toNat bs[i.toNat] (X1 hl);refine⟨d,wq h0 (by rw[Xw,e];rfl),d0,?_⟩;rw[X3,X1 hl];exact d1
theorem ixI(ks:List Int)(S:Int->Prop)(hS:∀k∈ks,S k)(i:Int)(h0:0<=i)(h1:i<ks.length):∃v,jY (iL ks) (.int i)=some (.int v)/\S v/\ks[i.toNat]?=some v:=by
 have hl:i.toNat<ks.length:=by omega
 refine⟨ks[i.toNat],wq h0 (by rw[Xw,X1 hl];rfl),hS _ (Xk hl),X1 hl⟩
theorem fint(b:Bool):∃w:Int,JV (.bl b)=some (.int w)/\0<=w/\w<=1:=by
 cases b
 ·exact⟨0,rfl,by decide,by decide⟩
 ·exact⟨1,rfl,by decide,by decide⟩
noncomputable def Gd(n:Int)(g:D):Prop:=g=.str "fresh"\/g=.str "any"\/∃i:Int,0<=i/\i<n/\g=.int i
noncomputable def Fd(n:Int)(g:D):Prop:=g=.str "new"\/g=.non\/∃i:Int,0<=i/\i<n/\g=.int i
noncomputable def St(own:Int)(d:D):Prop:=∃(z:Str) (g:D) (to:Int) (fs:List D),d=.tup [.str z,g,.int to,.tup fs]/\Gd own g/\(∀f∈fs,Fd own f)/\fs.length<=3
noncomputable def Rm(d:D):Prop:=∃(kp:Int) (gd:Bool) (ss:List D),d=.tup [.int kp,.bl gd,.lst ss]/\0<=kp/\kp<=3/\(∀s∈ss,St kp s)/\ss.length<=14
noncomputable def Rms(rs:List D):Prop:=1<=rs.length/\rs.length<=4/\∀r∈rs,Rm r
noncomputable def Rmw(rs:List D):Prop:=1<=rs.length/\rs.length<=12/\∀r∈rs,Rm r
instance {rs:List D}:Coe (Rms rs) (Rmw rs):=⟨λh=>⟨h.1,by have:=h.2.1;omega,h.2.2⟩⟩
noncomputable def Sx(ik:List Str)(kps:List Int)(d:D):Prop:=∃(z:Str) (g:D) (to:Int) (fs:List D),d=.tup [.str z,g,.int to,.tup fs]/\z∈ik/\0<=to/\to<kps.length/\(fs.length:Int)=kps.getD to.toNat 0
noncomputable def Rx(ik:List Str)(kps:List Int)(rs:List D):Prop:=rs.length=kps.length/\∀i:Nat,i<kps.length->∃(gd:Bool) (ss:List D),rs[i]?=some (.tup [.int (kps.getD i 0),.bl gd,.lst ss])/\∀s∈ss,Sx ik kps s
noncomputable def At(d:D):Prop:=d=.non\/∃i,d=.int i
theorem At.flat{d:D}{n:Nat}(h:At d):d.flat n=true:=by
 rcases h with rfl|⟨i,rfl⟩<;>cases n<;>simp[D.flat]
theorem wZ{n:Nat}:∀{ks:List D},(∀k∈ks,k.flat n=true)->D.flats n ks=true
 |[],_=>by cases n<;>simp[D.flats]
 |k::ks,h=>by rw[D.flats,h k X2,wZ λe he=>h e (lc9 _ he)];rfl
theorem At.flats{n:Nat}{ks:List D}(h:∀k∈ks,At k):D.flats n ks=true:=wZ λk hk=>(h k hk).flat
mutual
theorem W4:∀{n:Nat} (d:D),d.flat n=true->peq d d=true
 |n,.non,_=>by simp[peq]
 |n,.bl b,_=>by simp[peq]
 |n,.int b,_=>by simp[peq]
 |n,.str b,_=>by simp[peq]
 |0,.tup xs,h=>by simp[D.flat]at h
 |0,.lst xs,h=>by simp[D.flat]at h
 |n+1,.tup xs,h=>by rw[peq];exact peqs_refl xs (by simpa [D.flat]using h)
 |n+1,.lst xs,h=>by rw[peq];exact peqs_refl xs (by simpa [D.flat]using h)
 |n,.dct _,h=>by cases n<;>simp[D.flat]at h
 |n,.obj _ _,h=>by cases n<;>simp[D.flat]at h
theorem peqs_refl:∀{n:Nat} (ds:List D),D.flats n ds=true->peqs ds ds=true
 |_,[],_=>by simp[peqs]
 |n,d::ds,h=>by
  rw[D.flats,Bool.and_eq_true]at h;rw[peqs,W4 d h.1,peqs_refl ds h.2];rfl
end
theorem eq_self{d:D}(h:d.flat 40=true):fEq d d=some (.bl true):=by unfold fEq;rw[h,W4 d h];rfl
theorem kzb{d:D}(h:d.flat 40=true):fNe d d=some (.bl false):=by unfold fNe;rw[h,W4 d h];rfl
theorem vk1{a b:D}(ha:At a)(hb:At b):fEq a b=some (.bl (peq a b)):=by
 unfold fEq;rw[ha.flat,hb.flat];rfl
theorem vq6{a:D}{ks:List D}(ha:At a)(hb:∀k∈ks,At k):z5 a (.tup ks)=some (.bl (!ks.any λz=>peq z a)):=by
 show kx4 a (.tup ks)=_;unfold kx4;have:fIn a (.tup ks)=some (.bl (ks.any λz=>peq z a)):=by
  show(if a.flat 30&&D.flats 30 ks then _ else _)=_;rw[ha.flat,At.flats hb];rfl
 rw[this];rfl
noncomputable def v7(ks:List D)(d g:D):Bool:=match g with
 |.int i=>peq (ks.getD i.toNat .non) d
 |.str s=>if s="fresh" then !ks.any λz=>peq z d else true
 |_=>true
theorem s1:((Str.ofString "fresh")==(Str.ofString "any"))=false:=by decide
theorem s3(a:Str):(a==a)=true:=by simp
theorem s4:¬(Str.ofString "any")=(Str.ofString "fresh"):=by decide
theorem ix0(c g r f:D):jY (.tup [c,g,r,f]) (.int 0)=some c:=rfl
theorem ix1(c g r f:D):jY (.tup [c,g,r,f]) (.int 1)=some g:=rfl
theorem ix2(c g r f:D):jY (.tup [c,g,r,f]) (.int 2)=some r:=rfl
theorem ix3(c g r f:D):jY (.tup [c,g,r,f]) (.int 3)=some f:=rfl
theorem p0(a b:D):jY (.tup [a,b]) (.int 0)=some a:=rfl
theorem p1(a b:D):jY (.tup [a,b]) (.int 1)=some b:=rfl
theorem t0(a b c:D):jY (.tup [a,b,c]) (.int 0)=some a:=rfl
theorem t1(a b c:D):jY (.tup [a,b,c]) (.int 1)=some b:=rfl
theorem t2(a b c:D):jY (.tup [a,b,c]) (.int 2)=some c:=rfl
theorem wv2(i:Int)(z:Str):fEq (.int i) (.str z)=some (.bl false):=by simp[fEq,D.flat,peq]
theorem vx5{ks:List D}{d g c r f:D}(hk:∀k∈ks,At k)(hd:At d)(hg:Gd ks.length g):Oo m_fits [(.no,.tup [c,g,r,f]),(.no,.tup ks),(.no,d)] (λy=>∃_:Unit,y=(.dp,.bl (v7 ks d g))/\True) noX:=by
 have hn:=vq6 hd hk;unfold m_fits;refine qx ?_;rcases hg with rfl|rfl|⟨i,h0,h1,rfl⟩
 ·simp![ix1,KZ,s1,s3,hn];exact⟨(),by simp[v7],trivial⟩
 ·simp![ix1,KZ,s3,s4,hn];exact⟨(),by simp[v7,s4],trivial⟩
 ·simp![ix1,wv2,vjp ks i h0 h1,vk1 (hk _ (J6 ks i h0 h1)) hd]
  first|trivial|exact⟨(),trivial⟩|exact⟨(),rfl,trivial⟩
theorem vjm{ks:List D}{d g c r f:D}(hk:∀k∈ks,At k)(hd:At d)(hg:Gd ks.length g):Oo m__law_fits [(.no,.tup [c,g,r,f]),(.no,.tup ks),(.no,d)] (λy=>∃_:Unit,y=(.dp,.bl (v7 ks d g))/\True) noX:=by
 have hn:=vq6 hd hk;unfold m__law_fits;refine qx ?_;rcases hg with rfl|rfl|⟨i,h0,h1,rfl⟩
 ·simp![ix1,KZ,s1,s3,hn];exact⟨(),by simp[v7],trivial⟩
 ·simp![ix1,KZ,s3,s4,hn];exact⟨(),by simp[v7,s4],trivial⟩
 ·simp![ix1,wv2,vjp ks i h0 h1,vk1 (hk _ (J6 ks i h0 h1)) hd]
  first|trivial|exact⟨(),trivial⟩|exact⟨(),rfl,trivial⟩
noncomputable def vz(ks:List D)(d f:D):D:=match f with
 |.int i=>ks.getD i.toNat .non
 |.str _=>d
 |_=>.non
theorem vju{ks:List D}{d f:D}(hk:∀k∈ks,At k)(hd:At d)(hf:Fd ks.length f):At (vz ks d f):=by
 rcases hf with rfl|rfl|⟨i,h0,h1,rfl⟩
 ·exact hd
 ·exact .inl rfl
 ·exact hk _ (J6 ks i h0 h1)
theorem vx1{ks:List D}{d f:D}(hf:Fd ks.length f):Oo m_held_by [(.no,f),(.no,.tup ks),(.no,d)] (λy=>y.2=vz ks d f) noX:=by
 unfold m_held_by;refine qx ?_;rcases hf with rfl|rfl|⟨i,h0,h1,rfl⟩
 ·simp![KZ,s3];rfl
 ·simp![];rfl
 ·simp![wv2,vjp ks i h0 h1];rfl
theorem kj6{G:D->Sd->Prop}{h:D->D}(hG:∀d y,G d y->y.2=h d):∀{ds:List D} {ys:List Sd},Each G ds ys->ys.map (·.2)=ds.map h
 |[],[],_=>rfl
 |d::ds,y::ys,r=>by rw[List.map_cons,List.map_cons,hG d y r.1,kj6 hG r.2]
theorem qxi{ks:List D}{d c g r:D}{fs:List D}(hf:∀f∈fs,Fd ks.length f):Oo m_filled [(.no,.tup [c,g,r,.tup fs]),(.no,.tup ks),(.no,d)] (λy=>∃_:Unit,y=(.no,.tup (fs.map (vz ks d)))/\True) noX:=by
 unfold m_filled;refine qx ?_;simp![];refine ZV [some (.no,.tup ks),some (.no,d)] (λf y=>y.2=vz ks d f) ?_;simp![ix3];refine⟨rfl,λf h=>?_,λys hy=>?_⟩
 ·simp![];exact(vx1 (hf f h)).via λy hy=>⟨⟨_,rfl⟩,hy⟩
 ·rw[Q0,kj6 (h:=vz ks d) (λd y h=>h) hy];simp only[back,clr,at',List.map_cons,List.map_nil,List.set_cons_zero,List.set_cons_succ];simp![Wj (o:=.no) (xs:=fs.map (vz ks d)) (by decide)]
  first|trivial|exact⟨(),trivial⟩|exact⟨(),rfl,trivial⟩
theorem qq5{ks:List D}{d c g r:D}{fs:List D}(hf:∀f∈fs,Fd ks.length f)(hl:fs.length<=1000):Oo m__law_filled [(.no,.tup [c,g,r,.tup fs]),(.no,.tup ks),(.no,d)] (λy=>∃_:Unit,y=(.no,.tup (fs.map (vz ks d)))/\True) noX:=by
 unfold m__law_filled;refine qx ?_;simp![];refine Jq (λE jx=>∃fs1 l,E=[some (.no,.tup [c,g,r,.tup fs]),some (.no,.tup ks),some (.no,d),some (.rt,.lst (fs1.map (vz ks d))),l]/\fs=fs1++jx) ?_ ?_ ?_
 ·simp![ix3];exact⟨[],_,rfl,rfl⟩
 ·rintro E f ds ⟨fs1,l,rfl,he⟩;have av:fs1.length<1000:=by have:=congrArg List.length he;simp at this;omega
  have fin:∀z:D,z=vz ks d f->fs1.map (vz ks d)++[z]=(fs1++[f]).map (vz ks d):=λz e=>by rw[e];simp
  have done:fs=(fs1++[f])++ds:=by rw[he];simp
  rcases hf f (by rw[he];simp)with rfl|rfl|⟨i,h0,h1,rfl⟩
  ·simp![KZ,s3];refine zj rfl ?_;have hi:JV (.bl false)=some (.int 0):=rfl;have hx:jY (.lst [d,.non]) (.int 0)=some d:=rfl;simp![hi,hx];refine⟨_,rfl,by rw[X5];omega,fs1++[.str "new"],_,by rw[fin d rfl],done⟩
  ·simp![KZ,s3];refine zj rfl ?_;have hi:JV (.bl true)=some (.int 1):=rfl;have hx:jY (.lst [d,.non]) (.int 1)=some .non:=rfl;simp![hi,hx];refine⟨_,rfl,by rw[X5];omega,fs1++[.non],_,by rw[fin .non rfl],done⟩
  ·simp![wv2];refine zj rfl ?_;simp![vjp ks i h0 h1];refine⟨_,rfl,by rw[X5];omega,fs1++[.int i],_,by rw[fin (ks.getD i.toNat .non) rfl],done⟩
 ·rintro E ⟨fs1,l,rfl,he⟩;rw[Xr]at he;subst he;simp![Wj (o:=.rt) (xs:=fs.map (vz ks d)) (by decide)]
  first|trivial|exact⟨(),trivial⟩|exact⟨(),rfl,trivial⟩
abbrev q9(ss:List Str)(rs:List D):D:=.tup [sL ss,.lst rs]
noncomputable def kY(z:Str)(ks:List D)(d s:D):Bool:=match s with
 |.tup [.str w,g,_,_]=>(w==z)&&v7 ks d g
 |_=>false
noncomputable def jX(p:D->Bool):Nat->List D->List D
 |_,[]=>[]
 |k,s::r=>if p s=true then .int k::jX p (k+1) r else jX p (k+1) r
theorem kk5{p:D->Bool}:∀{r:List D} {k:Nat},∀d∈jX p k r,∃i:Int,d=.int i
 | [],_,_,h=>by unfold jX at h;cases h
 | s::r,k,d,h=>by
  unfold jX at h
  split at h
  ·rcases List.mem_cons.mp h with rfl|h
   ·exact⟨_,rfl⟩
   ·exact kk5 d h
  ·exact kk5 d h
theorem qj2{ss:List Str}{rs ks st:List D}{kp:D}{gd:D}{room:Int}(h0:0<=room)(hr:rs[room.toNat]?=some (.tup [kp,gd,.lst st])):Oo m_steps_at [(.no,q9 ss rs),(.no,.tup [.int room,.tup ks])] (λy=>∃_:Unit,y=(.no,.lst st)/\True) noX:=by
 have hi:jY (.lst rs) (.int room)=some (.tup [kp,gd,.lst st]):=wq h0 hr;unfold m_steps_at;refine qx ?_;simp![p0,p1,t2,hi]
 first|trivial|exact⟨(),trivial⟩|exact⟨(),rfl,trivial⟩
theorem qqa{ss:List Str}{rs ks st:List D}{gd d:D}{room:Int}{z:Str}(h0:0<=room)(hr:rs[room.toNat]?=some (.tup [.int ks.length,gd,.lst st]))(b8:∀s∈st,St ks.length s)(hk:∀k∈ks,At k)(hd:At d):
  Oo m_fitting [(.no,q9 ss rs),(.no,.tup [.int room,.tup ks]),(.no,.str z),(.no,d)] (λy=>∃_:Unit,y=(.rt,.lst (jX (kY z ks d) 0 st))/\True) noX:=by
 unfold m_fitting;refine qx ?_;simp![p1];refine(qj2 h0 hr).use ?_;intro _ _;simp![];refine XQ (λE1 B ds acc=>∃k q0 q1,B=q0::q1::[some (.no,.str z),some (.no,.tup ks),some (.no,d)]/\ds=xx k (st.drop k)/\acc.map (·.2)++jX (kY z ks d) k (st.drop k)=jX (kY z ks d) 0 st) ?_ ?_ ?_
 ·simp![];exact⟨0,none,none,rfl,rfl,rfl⟩
 ·rintro E1 B e ds acc ⟨k,q0,q1,rfl,dy,bc⟩;cases hs:st.drop k with
  | nil=>rw[hs]at dy;cases dy
  | cons s r=>
   have lf:st.drop (k+1)=r:=by rw[<-List.drop_drop,hs];rfl
   rw[hs,xx]at dy;injection dy with e1 e2;subst e1 e2;rw[hs,jX]at bc;obtain⟨w,g,to,fs,rfl,hg,hf,hl⟩:=b8 s (List.mem_of_mem_drop (by rw[hs];exact X2));have hc:kY z ks d (.tup [.str w,g,.int to,.tup fs])=((w==z)&&v7 ks d g):=rfl;simp![ix0,KZ];cases hw:(w==z)with
   | false=>
    rw[hc,hw,Bool.false_and,Xe (by decide)]at bc;simp![];exact⟨k+1,_,_,rfl,by rw[lf],by rw[lf];exact bc⟩
   | true=>
    simp![];refine(vx5 hk hd hg).use ?_;intro _ _;simp![];rw[hc,hw,Bool.true_and]at bc;cases hb:v7 ks d g with
    |false=>
     rw[hb,Xe (by decide)]at bc;simp![];exact⟨k+1,_,_,rfl,by rw[lf],by rw[lf];exact bc⟩
    |true=>
     rw[hb,Xa rfl]at bc;simp![];refine⟨k+1,_,_,rfl,by rw[lf],?_⟩;rw[lf,Y0,Xp];exact bc
 ·rintro E1 B acc ⟨k,q0,q1,rfl,dy,bc⟩;cases hs:st.drop k with
  |cons s r=>rw[hs]at dy;cases dy
  |nil=>
   rw[hs,jX,Xr]at bc;rw[Q0,bc]
   first|trivial|exact⟨(),trivial⟩|exact⟨(),rfl,trivial⟩
theorem kzc{ss:List Str}{rs ks st:List D}{gd d:D}{room:Int}{z:Str}(h0:0<=room)(hr:rs[room.toNat]?=some (.tup [.int ks.length,gd,.lst st]))(b8:∀s∈st,St ks.length s)(hl:st.length<=1000)(hk:∀k∈ks,At k)(hd:At d):
  Oo m__law_fitting [(.no,q9 ss rs),(.no,.tup [.int room,.tup ks]),(.no,.str z),(.no,d)] (λy=>∃_:Unit,y=(.rt,.lst (jX (kY z ks d) 0 st))/\True) noX:=by
 have hi:jY (.lst rs) (.int room)=some (.tup [.int ks.length,gd,.lst st]):=wq h0 hr;unfold m__law_fitting;refine qx ?_;simp![p0,p1,t2,hi];refine XQ (λE1 B ds acc=>∃k:Nat,∃q0,B=q0::[some (.no,.lst st),some (.no,.str z),some (.no,.tup [.int room,.tup ks]),some (.no,d)]/\k<=st.length/\ds=jV k st.length/\acc.map (·.2)++jX (kY z ks d) k (st.drop k)=jX (kY z ks d) 0 st) ?_ ?_ ?_
 ·simp![];exact⟨0,none,rfl,Yf _,rfl,rfl⟩
 ·rintro E1 B e ds acc ⟨k,q0,rfl,hkl,dy,bc⟩;obtain⟨bj,rfl,rfl⟩:=V1 (by omega) dy;have bj:k<st.length:=by omega
  have hs:st.drop k=st[k]::st.drop (k+1):=Yi bj;rw[hs,jX]at bc;obtain⟨w,g,to,fs,es,hg,hf,hl⟩:=b8 st[k] (Xk bj);have fu:jY (.lst st) (.int k)=some (.tup [.str w,g,.int to,.tup fs]):=wq (by omega) (by rw[Yg,X1 bj,es]);have hc:kY z ks d st[k]=((w==z)&&v7 ks d g):=by rw[es];rfl
  have hk1:((k:Int)+1)=((k+1:Nat):Int):=by omega
  simp![fu,ix0,KZ];cases hw:(w==z)with
  | false=>
   rw[hc,hw,Bool.false_and,Xe (by decide)]at bc;simp![];exact⟨k+1,_,rfl,bj,by rw[hk1],bc⟩
  | true=>
   simp![fu,p1];refine(vjm hk hd hg).use ?_;intro _ _;simp![];rw[hc,hw,Bool.true_and]at bc;cases hb:v7 ks d g with
   |false=>
    rw[hb,Xe (by decide)]at bc;simp![];exact⟨k+1,_,rfl,bj,by rw[hk1],bc⟩
   |true=>
    rw[hb,Xa rfl]at bc;simp![];refine⟨k+1,_,rfl,bj,by rw[hk1],?_⟩;rw[Y0,Xp];exact bc
 ·rintro E1 B acc ⟨k,q0,rfl,hkl,dy,bc⟩;have:=YX (by omega) dy;have:k=st.length:=by omega
  subst this;rw[List.drop_length,jX,Xr]at bc;rw[Q0,bc]
  first|trivial|exact⟨(),trivial⟩|exact⟨(),rfl,trivial⟩
noncomputable def zW(ks:List D)(d s:D):D:=match s with
 |.tup [_,_,to,.tup fs]=>.tup [to,.tup (fs.map (vz ks d))]
 |_=>.non
theorem qz7{ss:List Str}{rs ks st:List D}{kp gd d:D}{room:Int}{k:Nat}(h0:0<=room)(hr:rs[room.toNat]?=some (.tup [kp,gd,.lst st]))(b8:∀s∈st,St ks.length s)(hk:k<st.length):
  Oo m_behind [(.no,q9 ss rs),(.no,.tup [.int room,.tup ks]),(.no,.int k),(.no,d)] (λy=>∃_:Unit,y=(.no,zW ks d st[k])/\True) noX:=by
 obtain⟨w,g,to,fs,es,hg,hf,hl⟩:=b8 st[k] (Xk hk);have fu:jY (.lst st) (.int k)=some (.tup [.str w,g,.int to,.tup fs]):=wq (by omega) (by rw[Yg,X1 hk,es]);unfold m_behind;refine qx ?_;simp![];refine(qj2 h0 hr).use ?_;intro _ _;simp![fu,ix2,p1];refine(qxi hf).use ?_;intro _ _;simp![];rw[es]
 first|trivial|exact⟨(),trivial⟩|exact⟨(),rfl,trivial⟩
theorem qq6{ss:List Str}{rs ks st:List D}{kp gd d:D}{room:Int}{k:Nat}(h0:0<=room)(hr:rs[room.toNat]?=some (.tup [kp,gd,.lst st]))(b8:∀s∈st,St ks.length s)(hk:k<st.length):
  Oo m__law_behind [(.no,q9 ss rs),(.no,.tup [.int room,.tup ks]),(.no,.int k),(.no,d)] (λy=>∃_:Unit,y=(.no,zW ks d st[k])/\True) noX:=by
 obtain⟨w,g,to,fs,es,hg,hf,hl⟩:=b8 st[k] (Xk hk);have fu:jY (.lst st) (.int k)=some (.tup [.str w,g,.int to,.tup fs]):=wq (by omega) (by rw[Yg,X1 hk,es]);have hi:jY (.lst rs) (.int room)=some (.tup [kp,gd,.lst st]):=wq h0 hr;unfold m__law_behind;refine qx ?_;simp![p0,p1,t2,hi,fu,ix2];refine(qq5 hf (by omega)).use ?_;intro _ _;simp![];rw[es]
 first|trivial|exact⟨(),trivial⟩|exact⟨(),rfl,trivial⟩
theorem qjk{α:Type}[DecidableEq α]:∀{l m:List α},l.Nodup->(∀x∈l,x∈m)->l.length<=m.length
 |[],_,_,_=>Yf _
 |a::l,m,nd,h=>by
  rw[List.nodup_cons]at nd;have ha:=h a X2;have:=qjk (l:=l) (m:=m.erase a) nd.2 λx hx=>(List.mem_erase_of_ne (by rintro rfl;exact nd.1 hx)).mpr (h x (lc9 _ hx))
  have hl:=List.length_erase_of_mem ha;have:0<m.length:=List.length_pos_of_mem ha;simp only[Xn];omega
theorem vx8{G:D->Sd->Prop}(hG:∀d y,G d y->y.2=d){ds:List D}{ys:List Sd}(h:Each G ds ys):ys.map (·.2)=ds:=by
 rw[kj6 (h:=id) hG h,List.map_id]
theorem kws{o:Own}{xs:List D}(h:o≠.dp):JJ (o,.lst xs)=some (.rt,.lst xs):=by
 show(if v6 (o,.lst xs)then _ else _)=_;rw[Xa (by cases o<;>simp_all [v6])]
theorem qjo{o1 o2:Own}{a:D}{k:Int}(h1:o1≠.dp)(h0:0<=k)(hk:k<=1000):kX (o1,.tup [a]) (o2,.int k)=some (.no,.tup (List.replicate k.toNat a)):=by
 show(if -(2 ^ 63)<=k/\k<2 ^ 63/\[a].length*k.toNat<=big/\v6 (o1,.tup [a])then _ else _)=_;rw[Xa ⟨by omega,by omega,by unfold big;simp;omega,by cases o1<;>simp_all [v6]⟩]
 congr 3
 induction k.toNat with
 |zero=>rfl
 |succ n ih=>rw[List.replicate_succ,Yn,ih,List.replicate_succ];rfl
theorem vjx{ss:List Str}{rs:List D}{kp:Int}{gd:D}{st:D}(hr:rs[0]?=some (.tup [.int kp,gd,st]))(h0:0<=kp)(h1:kp<=1000):Oo m_first_standing [(.no,q9 ss rs)] (λy=>∃_:Unit,y=(.no,.tup [.int 0,.tup (List.replicate kp.toNat .non)])/\True) noX:=by
 have hi:jY (.lst rs) (.int 0)=some (.tup [.int kp,gd,st]):=wq (by decide) hr;unfold m_first_standing;refine qx ?_;simp![p1,hi,t0,qjo (o1:=.no) (o2:=.no) (a:=.non) (k:=kp) (by decide) h0 h1]
 first|trivial|exact⟨(),trivial⟩|exact⟨(),rfl,trivial⟩
noncomputable def wr(x:Int):Int:=if x<=0 then x else x - 10 ^ 60
theorem in_i{p:Int}{ks:List Int}:KQ (.int p) (iL ks)=some (.bl (ks.any λw=>w==p)):=by
 show(if(D.int p).flat 30&&D.flats 30 (ks.map D.int)then some (D.bl ((ks.map D.int).any λw=>peq w (.int p)))else none)=_;rw[show(D.int p).flat 30=true from rfl,wZ (ks:=ks.map D.int) (λk hk=>by obtain⟨w,_,rfl⟩:=List.mem_map.mp hk;rfl),List.any_map];rfl
theorem kvp{p:Int}{ks:List Int}:(ks.any λw=>w==p)=decide (p∈ks):=by
 rw[Bool.eq_iff_iff];simp
noncomputable def bnd1(own k:Int):Int:=own+(if k=own then 1 else 0)
noncomputable def Cs(kps:List Int)(b:Int)(c:D):Prop:=c=.non\/∃(to:Int) (fs:List Int),c=.tup [.int to,.tup (fs.map D.int)]/\0<=to/\to<kps.length/\(∀f∈fs,0<=f/\f<b)/\fs.Nodup/\(fs.length:Int)=kps.getD to.toNat 0
theorem qxj{α:Type}{p:α->Bool}:∀{l:List α},l.any p=true->l.findIdx? p=some (l.findIdx p)
 | [],h=>by cases h
 | a::l,h=>by
  rw[List.findIdx?_cons,List.findIdx_cons];cases hp:p a with
  |true=>simp
  |false=>
   rw[List.any_cons,hp,Bool.false_or]at h;rw[qxj h];simp
theorem wwp{α:Type}{p:α->Bool}{l:List α}(h:l.any p=true):l.findIdx p<l.length:=by
 obtain⟨x,hx,hp⟩:=List.any_eq_true.mp h;exact List.findIdx_lt_length_of_exists ⟨x,hx,hp⟩
theorem wwo{α:Type}{p:α->Bool}{l:List α}(h:l.any p=false):l.findIdx p=l.length:=by
 rw[List.findIdx_eq_length];intro x hx;cases hp:p x with
 |false=>rfl
 |true=>rw[List.any_eq_true.mpr ⟨x,hx,hp⟩]at h;cases h
abbrev iT(ks:List Int):D:=.tup (ks.map D.int)
noncomputable def wk9(ks:List Int)(p:Int)(f:Int):Int:=(ks++[p]).getD f.toNat 0
noncomputable def wwx(ks:List Int)(p:Int)(c:D):D:=match c with
 |.tup [to,.tup fs]=>.tup [to,.tup (fs.map λf=>match f with|.int i=>.int (wk9 ks p i)|_=>.non)]
 |_=>.non
noncomputable def wqb(ss:List Str)(st:List D)(ks:List Int)(z:Str)(p:Int):D:=match st[ss.findIdx λw=>w==z]? with
 |some (.lst cs)=>cs.getD (ks.findIdx λw=>w==p) .non
 |_=>.non
noncomputable def wvj(ss:List Str)(st:List D)(ks:List Int)(z:Str)(p:Int):D:=if(ss.any λw=>w==z)=true then wwx ks p (wqb ss st ks z p)else .non
noncomputable def Cas(kps:List Int)(n:Nat)(own:Int)(st:List D):Prop:=st.length=n/\∀c∈st,∃cs:List D,c=.lst cs/\(cs.length:Int)=own+1/\∀k:Nat,k<cs.length->∃z,cs[k]?=some z/\Cs kps (bnd1 own k) z
theorem wwq{ks:List Int}{p:Int}:(ks.findIdx λw=>w==p)<=ks.length:=List.findIdx_le_length
noncomputable def Sok(kps:List Int)(s:D):Prop:=∃(room:Int) (ks:List D),s=.tup [.int room,.tup ks]/\0<=room/\room<kps.length/\(ks.length:Int)=kps.getD room.toNat 0/\∀k∈ks,At k
theorem W6{ik:List Str}{kps:List Int}{rs:List D}{s:D}(hR:Rmw rs)(hx:Rx ik kps rs)(h:Sok kps s):∃(room:Int) (ks st:List D) (gd:D),s=.tup [.int room,.tup ks]/\0<=room/\rs[room.toNat]?=some (.tup [.int ks.length,gd,.lst st])/\(∀s∈st,St ks.length s)/\(∀k∈ks,At k)/\(∀s∈st,Sx ik kps s)/\st.length<=14:=by
 obtain⟨room,ks,rfl,r0,r1,hl,fw⟩:=h;obtain⟨gd,st,e,gu⟩:=hx.2 room.toNat (by omega);obtain⟨kp,ju,cy,e',_,_,b8,jg⟩:=hR.2.2 _ (Xd e);injection e' with e';injection e' with a1 a2;injection a1 with a1;injection a2 with b1 b2;injection b2 with c1 c2;injection c1 with c1;subst c1 a1;rw[<-hl]at e b8;exact⟨room,ks,st,.bl gd,rfl,r0,e,b8,fw,gu,jg⟩
theorem kq9{ik:List Str}{kps:List Int}{ks st:List D}{p:Int}{k:Nat}(b8:∀s∈st,St ks.length s)(fw:∀k∈ks,At k)(gu:∀s∈st,Sx ik kps s)(hk:k<st.length):Sok kps (zW ks (.int p) st[k]):=by
 obtain⟨z,g,to,fs,es,hg,hf,_⟩:=b8 st[k] (Xk hk);obtain⟨z',g',to',fs',es',_,t0,t1,mx⟩:=gu st[k] (Xk hk);rw[es]at es';injection es' with es';injection es' with _ e2;injection e2 with _ e3;injection e3 with e4 e5;injection e5 with e6 _;injection e4 with e4;injection e6 with e6;subst e4 e6;rw[es];refine⟨to,fs.map (vz ks (.int p)),rfl,t0,t1,by rw[X5];exact mx,λd hd=>?_⟩;obtain⟨f,mz,rfl⟩:=List.mem_map.mp hd;exact vju fw (.inr ⟨p,rfl⟩) (hf f mz)
theorem V8{p:D->Bool}:∀{r:List D} {k:Nat} {d:D},d∈jX p k r->∃j:Nat,d=.int j/\k<=j/\j<k+r.length
 | [],_,_,h=>by unfold jX at h;cases h
 | s::r,k,d,h=>by
  unfold jX at h
  split at h
  ·rcases List.mem_cons.mp h with rfl|h
   ·exact⟨k,rfl,X9 _,by simp⟩
   ·obtain⟨j,e,j0,j1⟩:=V8 h;exact⟨j,e,by omega,by simp;omega⟩
  ·obtain⟨j,e,j0,j1⟩:=V8 h;exact⟨j,e,by omega,by simp;omega⟩
theorem wk8{fl:List D}(h:∀d∈fl,∃i:Int,d=.int i):fNe (.lst fl) (.lst [])=some (.bl (!fl.isEmpty)):=by
 unfold fNe;have:(D.lst fl).flat 40=true:=by
  show D.flats 39 fl=true;exact wZ λk hk=>by obtain⟨w,rfl⟩:=h k hk;rfl
 rw[this,show(D.lst []).flat 40=true from rfl];cases fl with
 |nil=>simp[peq,peqs]
 |cons a r=>simp[peq,peqs]
theorem room_flat{n:Nat}{d:D}(h:Rm d):d.flat (n+4)=true:=by
 obtain⟨kp,gd,st,rfl,_,_,h,_⟩:=h;show D.flats (n+3) [.int kp,.bl gd,.lst st]=true;refine wZ λd hd=>?_
 simp only[Yc,Xv,or_false]at hd;rcases hd with rfl|rfl|rfl
 ·rfl
 ·rfl
 ·show D.flats (n+2) st=true;refine wZ λs hs=>?_
  obtain⟨z,g,to,fs,rfl,hg,hf,_⟩:=h s hs;show D.flats (n+1) [.str z,g,.int to,.tup fs]=true;refine wZ λd hd=>?_
  simp only[Yc,Xv,or_false]at hd;rcases hd with rfl|rfl|rfl|rfl
  ·rfl
  ·rcases hg with rfl|rfl|⟨i,_,_,rfl⟩<;>rfl
  ·rfl
  ·show D.flats n fs=true;exact wZ λf mz=>by rcases hf f mz with rfl|rfl|⟨i,_,_,rfl⟩<;>cases n<;>rfl
theorem wkb{a b:Int}:wwr (.int a) (.int b)=some (.int (if b<a then b else a)):=rfl
theorem wq8{xs:List D}{c:Int}(h0:0<=c)(h1:c<=xs.length):Jj xs none (some c)=xs.take c.toNat:=by
 unfold Jj zY;dsimp only;rw[Xe (by omega),List.drop_zero,show min c.toNat xs.length - 0=c.toNat by omega]
end C
namespace C
open Q PySem
noncomputable def Rd(kps:List Int)(ss:List Str)(rs:List D)(s:D)(w:Str×Int)(s':D):Prop:=(s=.non/\s'=.non)\/∃(room:Int) (ks:List Int) (st:List D) (kp gd:D),s=.tup [.int room,iT ks]/\0<=room/\rs[room.toNat]?=some (.tup [kp,gd,.lst st])/\Cas kps ss.length ks.length st/\ks.length<=3/\s'=wvj ss st ks w.1 w.2
abbrev st0:D:=.tup [.int 0,iT []]
noncomputable def goodD(rs:List D)(s:D):Bool:=match s with
 |.tup [.int room,_]=>(match rs[room.toNat]? with
  |some (.tup [_,.bl b,_])=>b
  |_=>false)
 |_=>false
end C
namespace C
open Q PySem
noncomputable section
noncomputable def x4(K:List D)(d:D):List D:=if d∈K then K else K++[d]
noncomputable def x3:D->List D
 |.tup [_,.tup ks]=>ks
 |_=>[]
noncomputable def zq(rs:List D):D->List D
 |.tup [.int r,_]=>(match rs.getD r.toNat .non with
  |.tup [_,_,.lst st]=>st
  |_=>[])
 |_=>[]
noncomputable def bh(ks st:List D)(p:Int):D->D
 |.int k=>zW ks (.int p) (st.getD k.toNat .non)
 |_=>.non
noncomputable def qX(rs:List D)(w:Str×Int)(s:D):List D:=(jX (kY w.1 (x3 s) (.int w.2)) 0 (zq rs s)).map (bh (x3 s) (zq rs s) w.2)
end
noncomputable def SokV(kps:List Int)(V:List D)(s:D):Prop:=∃(room:Int) (ks:List D),s=.tup [.int room,.tup ks]/\0<=room/\room<kps.length/\(ks.length:Int)=kps.getD room.toNat 0/\(∀k∈ks,At k)/\∀k∈ks,k∈V
theorem SokV.ok{kps:List Int}{V:List D}{s:D}(h:SokV kps V s):Sok kps s:=by
 obtain⟨room,ks,e,r0,r1,hl,ha,_⟩:=h;exact⟨room,ks,e,r0,r1,hl,ha⟩
noncomputable def Kin(kps:List Int)(V K:List D):Prop:=K.Nodup/\∀s∈K,SokV kps V s
theorem vwy{kps:List Int}{V K:List D}{d:D}(h:Kin kps V K)(hd:SokV kps V d):Kin kps V (x4 K d):=by
 unfold x4
 by_cases z:d∈K
 ·rw[Xa z];exact h
 ·rw[Xe z];refine⟨List.nodup_append.mpr ⟨h.1,List.nodup_cons.mpr ⟨Xv,Xs⟩,λa ha b hb e=>?_⟩,λs hs=>?_⟩
  ·rw[List.mem_singleton.mp hb]at e;exact z (e▸ha)
  ·rcases List.mem_append.mp hs with q|q
   ·exact h.2 s q
   ·rw[List.mem_singleton.mp q];exact hd
noncomputable def tps(V:List D):Nat->List (List D)
 |0=>[[]]
 |n+1=>V.flatMap λv=>(tps V n).map (v :: ·)
theorem qqr{V:List D}:∀{ks:List D},(∀k∈ks,k∈V)->ks∈tps V ks.length
 |[],_=>List.mem_singleton.mpr rfl
 |k::ks,h=>List.mem_flatMap.mpr ⟨k,h k X2,List.mem_map.mpr ⟨ks,qqr λe he=>h e (lc9 _ he),rfl⟩⟩
theorem kzk{α β:Type}{f:α->List β}{c:Nat}:∀{l:List α},(∀a∈l,(f a).length<=c)->(l.flatMap f).length<=l.length*c
 |[],_=>Yf _
 |a::l,h=>by
  rw[Yz,Xi,Xn,Nat.succ_mul];have:=kzk (l:=l) λb hb=>h b (lc9 _ hb)
  have:=h a X2;omega
theorem kvz{V:List D}(hV:V.length<=6):∀n,(tps V n).length<=6 ^ n
 |0=>X9 _
 |n+1=>by
  have h1:=kzk (l:=V) (f:=λv=>(tps V n).map (v :: ·)) (c:=6 ^ n) λa _=>by rw[X5];exact kvz hV n
  have h2:=Nat.mul_le_mul_right (6 ^ n) hV;have h3:6 ^ (n+1)=6*6 ^ n:=by rw[Nat.pow_succ,Nat.mul_comm]
  show(V.flatMap λv=>(tps V n).map (v :: ·)).length<=_;omega
theorem kzg{kps:List Int}{V K:List D}(h:Kin kps V K)(hk:kps.length<=12)(fq:∀k∈kps,k<=3)(hV:V.length<=6):K.length<=3108:=by
 have h1:=qjk (l:=K) (m:=(List.range 12).flatMap λ(r:Nat)=>(tps V 0++(tps V 1++(tps V 2++tps V 3))).map λks=>D.tup [.int (r:Int),.tup ks]) h.1 λs hs=>by
  obtain⟨room,ks,e,r0,r1,hl,ha,hv⟩:=h.2 s hs;have h3:ks.length<=3:=by
   have:=fq (kps.getD room.toNat 0) (by rw[X3,X1 (by omega)];exact Xk _);omega
  have hm:=qqr hv;refine List.mem_flatMap.mpr ⟨room.toNat,List.mem_range.mpr (by omega),List.mem_map.mpr ⟨ks,?_,by rw[e,Int.toNat_of_nonneg r0]⟩⟩;rw[List.mem_append,List.mem_append,List.mem_append];have:ks.length=0\/ks.length=1\/ks.length=2\/ks.length=3:=by omega
  rcases this with z|z|z|z<;>rw[z]at hm
  ·exact .inl hm
  ·exact .inr (.inl hm)
  ·exact .inr (.inr (.inl hm))
  ·exact .inr (.inr (.inr hm))
 have h2:=kzk (l:=List.range 12) (f:=λ(r:Nat)=>(tps V 0++(tps V 1++(tps V 2++tps V 3))).map λks=>D.tup [.int (r:Int),.tup ks]) (c:=259) λa _=>by
  rw[X5,Xi,Xi,Xi];have a0:=kvz hV 0;have a1:=kvz hV 1;have a2:=kvz hV 2;have a3:=kvz hV 3;have:(6:Nat) ^ 0=1/\(6:Nat) ^ 1=6/\(6:Nat) ^ 2=36/\(6:Nat) ^ 3=216:=⟨rfl,rfl,rfl,rfl⟩;omega
 rw[List.length_range]at h2;exact Y4 h1 h2
theorem QZ{rs ks st:List D}{room:Int}{kp gd:D}(hr:rs[room.toNat]?=some (.tup [kp,gd,.lst st])):zq rs (.tup [.int room,.tup ks])=st:=by
 unfold zq;dsimp only;rw[X3,hr];rfl
theorem z8{room:D}{ks:List D}:x3 (.tup [room,.tup ks])=ks:=rfl
theorem W2{ks st:List D}{p:Int}{k:Nat}(h:k<st.length):bh ks st p (.int k)=zW ks (.int p) st[k]:=by
 unfold bh;dsimp only;rw[Yg,X3,X1 h];rfl
theorem vx2{ks V:List D}{d f:D}(hk:∀k∈ks,k∈V)(hd:d∈V)(hn:D.non∈V)(hf:Fd ks.length f):vz ks d f∈V:=by
 rcases hf with rfl|rfl|⟨i,h0,h1,rfl⟩
 ·exact hd
 ·exact hn
 ·exact hk _ (J6 ks i h0 h1)
theorem kjd{ik:List Str}{kps:List Int}{ks st V:List D}{p:Int}{k:Nat}(b8:∀s∈st,St ks.length s)(fw:∀k∈ks,At k)(hV:∀k∈ks,k∈V)(hn:D.non∈V)(hp:D.int p∈V)(gu:∀s∈st,Sx ik kps s)(hk:k<st.length):SokV kps V (zW ks (.int p) st[k]):=by
 obtain⟨room,ff,e,r0,r1,hl,ha⟩:=kq9 (p:=p) b8 fw gu hk;refine⟨room,ff,e,r0,r1,hl,ha,λd hd=>?_⟩;obtain⟨z,g,to,fs,es,hg,hf,_⟩:=b8 st[k] (Xk hk);rw[es]at e;have e:D.tup [.int to,.tup (fs.map (vz ks (.int p)))]=.tup [.int room,.tup ff]:=e;injection e with e;injection e with _ e;injection e with e _;injection e with e;subst e;obtain⟨f,mz,rfl⟩:=List.mem_map.mp hd;exact vx2 hV hp hn (hf f mz)
theorem qjn{ik:List Str}{kps:List Int}{rs V:List D}{w:Str×Int}{s:D}(hR:Rmw rs)(hx:Rx ik kps rs)(hn:D.non∈V)(hp:D.int w.2∈V)(h:SokV kps V s):∀d∈qX rs w s,SokV kps V d:=by
 intro d hd;obtain⟨bp,ff,e',_,_,_,_,hV⟩:=id h;obtain⟨room,ks,st,gd,rfl,r0,er,b8,fw,gu,jg⟩:=W6 hR hx h.ok;injection e' with e';injection e' with _ e';injection e' with e' _;injection e' with e';subst e';unfold qX at hd;rw[QZ er,z8]at hd;obtain⟨c,hc,rfl⟩:=List.mem_map.mp hd;obtain⟨j,rfl,_,hj⟩:=V8 hc;rw[W2 (by omega)];exact kjd b8 fw hV hn hp gu (by omega)
theorem qww{kps:List Int}{s:D}(h:Sok kps s):xY s=true:=by
 obtain⟨room,ks,rfl,_,_,_,ha⟩:=h;have:∀{l:List D},(∀k∈l,At k)->keyDs 4 l=true:=by
  intro l
  induction l with
  |nil=>intro _;rfl
  |cons a l ih=>
   intro h;have h1:jZ 4 a=true:=by rcases h a X2 with rfl|⟨i,rfl⟩<;>rfl
   show(jZ 4 a&&keyDs 4 l)=true;rw[h1,ih λk hk=>h k (lc9 _ hk)];rfl
 show((true&&(keyDs 4 ks&&true))&&true)=true;rw[this ha];rfl
theorem vwn{kps : List Int}{V : List D}: ∀{kvs : List (D × D)}, Kin kps V (kvs.map (·.1)) -> unm kvs = true
  | [], _=>rfl
  | (k, _)::r, h=>by
    obtain⟨_, _, e, _⟩:= h.2 k (by simp);subst e;rfl
theorem kvh{ss:List Str}{kps:List Int}{rs V:List D}{kp:Int}{gd st0:D}(hR:Rmw rs)(hx:Rx ss kps rs)(hn:D.non∈V)(dk:rs[0]?=some (.tup [.int kp,gd,st0]))(i6:0<=kp):Kin kps V [.tup [.int 0,.tup (List.replicate kp.toNat .non)]]:=by
 have h1:=hR.1;have h2:=hx.1;obtain⟨ju,cy,e,_⟩:=hx.2 0 (by omega);rw[dk]at e;injection e with e;injection e with e;injection e with e _;injection e with e;refine⟨List.nodup_cons.mpr ⟨Xv,Xs⟩,λs hs=>?_⟩;rw[List.mem_singleton.mp hs];refine⟨0,_,rfl,by decide,by omega,?_,λk hk=>.inl (Yd hk),λk hk=>by rw[Yd hk];exact hn⟩;rw[Xz,show(0:Int).toNat=0 from rfl,<-e];omega
noncomputable section
noncomputable def rnD(r:Int->Int):D->D
 |.int i=>.int (r i)
 |d=>d
noncomputable def rnS(r:Int->Int):D->D
 |.tup [a,.tup ks]=>.tup [a,.tup (ks.map (rnD r))]
 |d=>d
end
abbrev nmV(N:List Int):List D:=D.non::N.map D.int
noncomputable def Inj(r:Int->Int)(N:List Int):Prop:=∀a∈N,∀b∈N,r a=r b->a=b
section
variable {r:Int->Int}{N:List Int}
theorem wqz{d:D}(h:d∈nmV N):d=.non\/∃i∈N,d=.int i:=by
 rcases List.mem_cons.mp h with h|h
 ·exact .inl h
 ·obtain⟨i,hi,e⟩:=List.mem_map.mp h;exact .inr ⟨i,hi,e.symm⟩
theorem vkz(hr:Inj r N){a b:D}(ha:a∈nmV N)(hb:b∈nmV N):peq (rnD r a) (rnD r b)=peq a b:=by
 rcases wqz ha with rfl|⟨i,hi,rfl⟩<;>rcases wqz hb with rfl|⟨j,hj,rfl⟩
 ·rfl
 ·rfl
 ·rfl
 ·show(r i==r j)=(i==j)
  by_cases h:i=j
  ·subst h;simp
  ·rw[beq_false_of_ne h,beq_false_of_ne λz=>h (hr i hi j hj z)]
theorem qx7{ks:List D}{i:Nat}:(ks.map (rnD r)).getD i .non=rnD r (ks.getD i .non):=by
 rw[X3,X3,Xw];cases ks[i]?<;>rfl
theorem vx6(hr:Inj r N){ks:List D}{p:Int}{g:D}(hk:∀k∈ks,k∈nmV N)(hp:p∈N)(hg:Gd ks.length g):v7 (ks.map (rnD r)) (.int (r p)) g=v7 ks (.int p) g:=by
 have mf:D.int p∈nmV N:=lc9 _ (Xg hp);rcases hg with rfl|rfl|⟨i,h0,h1,rfl⟩
 ·show(if(Str.ofString "fresh")=(Str.ofString "fresh")then(!(ks.map (rnD r)).any λz=>peq z (.int (r p)))else true)=(if(Str.ofString "fresh")=(Str.ofString "fresh")then(!ks.any λz=>peq z (.int p))else true);rw[Xa rfl,Xa rfl,List.any_map]
  congr 1
  have:∀{l:List D},(∀k∈l,k∈nmV N)->(l.any ((λz=>peq z (.int (r p)))∘rnD r))=l.any λz=>peq z (.int p):=by
   intro l
   induction l with
   |nil=>intro _;rfl
   |cons a l ih=>
    intro h;rw[List.any_cons,List.any_cons,ih λk hk=>h k (lc9 _ hk)]
    congr 1
    exact vkz hr (h a X2) mf
  exact this hk
 ·show(if(Str.ofString "any")=(Str.ofString "fresh")then(!(ks.map (rnD r)).any λz=>peq z (.int (r p)))else true)=(if(Str.ofString "any")=(Str.ofString "fresh")then(!ks.any λz=>peq z (.int p))else true);rw[Xe s4,Xe s4]
 ·show peq ((ks.map (rnD r)).getD i.toNat .non) (.int (r p))=peq (ks.getD i.toNat .non) (.int p);rw[qx7];exact vkz hr (hk _ (J6 ks i h0 h1)) mf
theorem kk6{p q:D->Bool}:∀{l:List D} {k:Nat},(∀s∈l,p s=q s)->jX p k l=jX q k l
 |[],_,_=>rfl
 |s::l,k,h=>by
  unfold jX;rw[h s X2,kk6 (l:=l) (k:=k+1) λt ht=>h t (lc9 _ ht)]
theorem vxc(hr:Inj r N){ks:List D}{p:Int}{z:Str}{s:D}(hk:∀k∈ks,k∈nmV N)(hp:p∈N)(hs:St ks.length s):kY z (ks.map (rnD r)) (.int (r p)) s=kY z ks (.int p) s:=by
 obtain⟨w,g,to,fs,rfl,hg,_,_⟩:=hs;show((w==z)&&v7 (ks.map (rnD r)) (.int (r p)) g)=((w==z)&&v7 ks (.int p) g);rw[vx6 hr hk hp hg]
theorem wq2(hr:Inj r N){ks st:List D}{p:Int}{z:Str}(hk:∀k∈ks,k∈nmV N)(hp:p∈N)(hs:∀s∈st,St ks.length s):jX (kY z (ks.map (rnD r)) (.int (r p))) 0 st=jX (kY z ks (.int p)) 0 st:=kk6 λs h=>vxc hr hk hp (hs s h)
theorem vx0{ks:List D}{p:Int}{f:D}(hf:Fd ks.length f):vz (ks.map (rnD r)) (.int (r p)) f=rnD r (vz ks (.int p) f):=by
 rcases hf with rfl|rfl|⟨i,h0,h1,rfl⟩
 ·rfl
 ·rfl
 ·exact qx7
theorem qz6{ks:List D}{p:Int}{s:D}(hs:St ks.length s):zW (ks.map (rnD r)) (.int (r p)) s=rnS r (zW ks (.int p) s):=by
 obtain⟨w,g,to,fs,rfl,_,hf,_⟩:=hs;show D.tup [.int to,.tup (fs.map (vz (ks.map (rnD r)) (.int (r p))))]=.tup [.int to,.tup ((fs.map (vz ks (.int p))).map (rnD r))];rw[Y9]
 congr 4
 exact Yr λf h=>vx0 (hf f h)
theorem vjj(hr:Inj r N){ik:List Str}{kps:List Int}{rs:List D}{w:Str×Int}{s:D}(hR:Rms rs)(hx:Rx ik kps rs)(hp:w.2∈N)(h:SokV kps (nmV N) s):qX rs (w.1,r w.2) (rnS r s)=(qX rs w s).map (rnS r):=by
 obtain⟨bp,ff,e',_,_,_,_,hV⟩:=id h;obtain⟨room,ks,st,gd,rfl,r0,er,b8,fw,gu,jg⟩:=W6 hR hx h.ok;injection e' with e';injection e' with _ e';injection e' with e' _;injection e' with e';subst e';unfold qX;rw[show rnS r (.tup [.int room,.tup ks])=.tup [.int room,.tup (ks.map (rnD r))]from rfl,QZ er,QZ er,z8,z8,Y9];show(jX (kY w.1 (ks.map (rnD r)) (.int (r w.2))) 0 st).map _=_;rw[wq2 hr hV hp b8];refine Yr λd hd=>?_
 obtain⟨j,rfl,_,hj⟩:=V8 hd;show bh (ks.map (rnD r)) st (r w.2) (.int j)=rnS r (bh ks st w.2 (.int j));rw[W2 (by omega),W2 (by omega),qz6 (b8 _ (Xk _))]
end
end C
namespace B
open Q PySem C
abbrev Sn:=Option (Int×List Int)
noncomputable def nms:Sn->List Int
 |none=>[]
 |some p=>p.2
noncomputable def rmO:Sn->Int
 |none=>-1
 |some p=>p.1
noncomputable def wvf(t:List Int):Nat->List Int->List (Int×Int)
 |_,[]=>[]
 |k,n::o=>if(t.any λw=>w==n)=true then((k:Int),((t.findIdx λw=>w==n:Nat):Int))::wvf t (k+1) o else wvf t (k+1) o
abbrev prs(l:List (Int×Int)):List D:=l.map λp=>.tup [.int p.1,.int p.2]
noncomputable def WX(a b:Sn):D:=.tup [.int (rmO a),.int (rmO b),.tup (prs (wvf (nms b) 0 (nms a)))]
end B
namespace B
open PySem Q
noncomputable def kvc:Fn:=fn 5
  (j4 (jk 2 (kK .rt []))
  (j4 (sIf (tE (cF2 (pu2 fEq) (vE (cF2 (pu2 kQ) (vV 0) (C9 2))) (C9 1))) (j4 (jk 0 (cF2 (pu2 xW) (vV 0) (C9 2)))
  (j4 (wW (wj (vV 1)) (.n 3) (j4 (qw qZ 2 (cF2 (pu2 kQ) (vV 0) (C9 2147483647)))
  (jk 0 (cF2 (pu2 xW) (vV 0) (C9 2147483647)))))
  (jQ (cMv 2)))) kZ)
  (j4 (jk 4 (cF2 jJ (vE (cF2 (pu2 kQ) (vE (cF2 (pu2 xW) (vV 0) (C9 2))) (C9 2147483647))) (C9 48271)))
  (j4 (wW (wj (vE (cF2 jJ (vV 1) (C9 1)))) (.n 3) (j4 (jk 4 (cF2 (pu2 kQ) (vE (cF2 jJ (vE (cF2 jJ (vE (cF2 kX (vV 4) (vV 4))) (vE (cF2 kX (C9 48271) (vV 4))))) (vV 3))) (C9 2147483647)))
  (qw qZ 2 (cF2 (pu2 kQ) (vE (cF2 jJ (vE (cF2 kX (vV 4) (C9 40692))) (vE (cF2 kX (C9 7) (vV 3))))) (C9 2147483399)))))
  (jQ (cSl (vV 2) (some (C9 1)) none))))))
noncomputable def m__law_signs:Fn:=fn 7
  (j4 (jk 1 (cC (.str "abcdefghijklmnopqrstuvwxyz")))
  (j4 (jk 2 (jK kvc [(cV 0),(cC (.int 9))]))
  (j4 (jk 3 (wwy "" (vE (cLC .rt 1 [1] (itS (cSl (vV 2) none (some (vE (cF2 jJ (C9 1) (vE (cF2 (pu2 kQ) (vV 0) (C9 8)))))))) (.n 0) tYes (cH (j6 (vV 1) (vE (cF2 (pu2 kQ) (vV 0) (C9 26)))))))))
  (j4 (jk 4 (cF2 (pu2 kQ) (vE (cF2 (pu2 xW) (vV 0) (C9 8))) (vE (cF1 (pu1 v9) (vV 3)))))
  (j4 (jk 5 (kK .rt []))
  (j4 (wW (wj (j6 (vE (kK .rt [(cC (.int 1)),(cC (.int 2)),(cC (.int 1)),(cC (.int 2)),(cC (.int 2)),(cC (.int 1)),(cC (.int 2)),(cC (.int 3))])) (vE (cF2 (pu2 kQ) (vE (cF2 (pu2 xW) (vV 0) (C9 64))) (C9 8))))) (.n 6) (qw qZ 5 (cF2 jJ (vE (cF2 jJ (vE (cSl (vV 3) none (some (vV 4)))) (j6 (vV 1) (vE (cF2 jJ (vE (cF2 (pu2 kQ) (j6 (vV 2) (C9 8)) (C9 24))) (vV 6)))))) (vE (cSl (vV 3) (some (vE (cF2 jJ (vV 4) (C9 1)))) none)))))
  (jQ (cMv 5))))))))
noncomputable def m__law_fills:Fn:=fn 6
  (j4 (jk 3 (Wk (vV 2)))
  (j4 (jk 4 (kK .rt []))
  (j4 (wW (wj (vV 1)) (.n 5) (j4 (qw qZ 4 (cPop 3 (vE (cF2 (pu2 kQ) (vV 0) (vE (cF1 (pu1 v9) (vV 3)))))))
  (jk 0 (cF2 jJ (vE (cF2 (pu2 xW) (vV 0) (C9 7))) (vE (cF2 kX (C9 5) (vV 5)))))))
  (jQ (cF1 Jz (vV 4))))))
end B
namespace B
open Q PySem C
noncomputable def St(n:Int)(xs:List Int):Prop:=(xs.length:Int)=n/\∀x∈xs,0<=x/\x<2147483647
noncomputable def nmV(k:Nat):Int:=(k:Int)*k - (10 ^ 60 - 1)
noncomputable def vz(S:Sn)(c:Int):D:=if c∈nms S then .int ((nms S).findIdx λw=>w==c:Nat)else .non
end B
namespace F
open Q PySem C
noncomputable def m_names_held:Fn:=fn 3
  (j4 (jk 1 (kK .rt []))
  (j4 (wW (itS (cV 0)) (.n 2) (sIf (tAnd (tE (cF2 (f2First fNotNon) (vV 2) (vE (cC .non)))) (tE (cF2 (pu2 z5) (vV 2) (vV 1)))) (qw qZ 1 (cV 2)) kZ))
  (jQ (cMv 1))))
noncomputable def m_places_among:Fn:=fn 2
  (jQ (cF1 Jz (vE (cLC .rt 1 [0] (itS (cV 1)) (.n 0) tYes (cIf (tE (cF2 (f2First fIsNon) (vV 0) (vE (cC .non)))) (cC .non) (wv3 (vV 1) (vV 0)))))))
noncomputable def m_plain_case:Fn:=fn 4
  (j4 (sIf (tE (cF2 (f2First fIsNon) (vV 0) (vE (cC .non)))) (jQ (cC .non)) kZ)
  (j4 (jk 2 (jK m_names_held [(cH (j6 (vV 0) (C9 1)))]))
  (j4 (jk 3 (qQ .no [(cH (j6 (vV 0) (C9 0))),(jK m_places_among [(cV 2),(cH (j6 (vV 0) (C9 1)))])]))
  (jQ (qQ .no [(qz0 1 (vV 3) (vE (cF1 (pu1 WW) (vV 1)))),(cF1 Jz (vV 2))])))))
noncomputable def m_only_behind(rz:Sm):Fn:=fn 5
  (j4 (jk 4 (jK C.m_fitting [(cV 0),(cV 1),(cV 2),(cV 3)]))
  (j4 (sIf (tE (cF2 (pu2 fGt) (vE (cF1 (pu1 v9) (vV 4))) (C9 1))) rz kZ)
  (jQ (cIf (tEQ (vV 4)) (jK C.m_behind [(cV 0),(cV 1),(cH (j6 (vV 4) (C9 0))),(cV 3)]) (cC .non)))))
noncomputable def m_plain_cases(rz:Sm):Fn:=fn 5
  (j4 (jk 4 (Wk (vE (cF2 jJ (vE (cF1 (pu1 v9) (vE (jK m_names_held [(cH (j6 (vV 1) (C9 1)))])))) (C9 1)))))
  (jQ (cLC .rt 1 [0,1,2,3] (itS (cV 4)) (.n 0) tYes (Z9 m_plain_case 4 [(jK (m_only_behind rz) [(cV 1),(cV 2),(cV 3),(cV 0)])]))))
noncomputable def m_plain_of(rz:Sm):Fn:=fn 5
  (j4 (jk 1 (vk7 (jK C.m_first_standing [(cV 0)]) (cC (.int 0))))
  (j4 (jk 2 (kK .rt []))
  (j4 (sWhile (tE (cF2 (pu2 fLt) (vE (cF1 (pu1 v9) (vV 2))) (vE (cF1 (pu1 WW) (vV 1))))) (j4 (jk 3 (cH (j6 (vE (cF1 W3 (vV 1))) (vE (cF1 (pu1 v9) (vV 2))))))
  (j4 (jk 4 (cLC .rt 1 [0,3,1] (itS (cH (j6 (vV 0) (C9 0)))) (.n 0) tYes (Z9 (m_plain_cases rz) 3 [(cV 1),(cV 2),(cV 0)])))
  (qw qZ 2 (qQ .no [(cF1 (pu1 v9) (vE (jK m_names_held [(cH (j6 (vV 3) (C9 1)))]))),(cH (j6 (j6 (j6 (vV 0) (C9 1)) (j6 (vV 3) (C9 0))) (C9 1))),(cV 4)])))))
  (jQ (qQ .no [(qQ .no [(cF1 JJ (j6 (vV 0) (C9 0))),(cV 2)]),(cF1 W3 (vV 1))])))))
noncomputable def vj(acc:List Int):D->List Int
 |.int i=>if i∈acc then acc else acc++[i]
 |_=>acc
noncomputable def jq(ks:List D):List Int:=ks.foldl vj []
theorem vwv(acc:List Int)(d:D):(vj acc d).length<=acc.length+1:=by
 unfold vj
 split
 ·split<;>simp
 ·omega
theorem qk2:∀(ks:List D) (acc:List Int),(ks.foldl vj acc).length<=acc.length+ks.length
 |[],_=>by simp
 |k::ks,acc=>by
  rw[List.foldl_cons,Xn];have:=qk2 ks (vj acc k);have:=vwv acc k;omega
theorem kjs(ks:List D):(jq ks).length<=ks.length:=by
 have:=qk2 ks [];rw[List.length_nil,Nat.zero_add]at this;exact this
theorem vwt{acc:List Int}{d:D}{i:Int}(h:i∈acc):i∈vj acc d:=by
 unfold vj
 split
 ·split
  ·exact h
  ·exact ll9 _ h
 ·exact h
theorem qk1:∀{ks:List D} {acc:List Int} {i:Int},i∈acc->i∈ks.foldl vj acc
 |[],_,_,h=>h
 |k::ks,acc,i,h=>qk1 (ks:=ks) (vwt h)
theorem qxb:∀{ks:List D} {acc:List Int} {i:Int},D.int i∈ks->i∈ks.foldl vj acc
 | k::ks,acc,i,h=>by
  rw[List.foldl_cons];rcases List.mem_cons.mp h with rfl|h
  ·refine qk1 ?_;unfold vj;dsimp only
   split
   ·assumption
   ·simp
  ·exact qxb h
theorem qjl{ks:List D}{i:Int}(h:D.int i∈ks):i∈jq ks:=qxb h
theorem vq5{p:Int}{ks:List Int}:z5 (.int p) (iL ks)=some (.bl (!decide (p∈ks))):=by
 have h:=in_i (p:=p) (ks:=ks);rw[kvp]at h;have h:fIn (.int p) (iL ks)=some (.bl (decide (p∈ks))):=h;show(fIn (.int p) (iL ks)).bind _=_;rw[h];rfl
theorem kv8{ks:List D}(hk:∀k∈ks,At k)(hl:ks.length<=100):Oo m_names_held [(.no,.tup ks)] (λy=>∃_:Unit,y=(.rt,iL (jq ks))/\True) noX:=by
 unfold m_names_held;refine qx ?_;simp![];refine Jq (λE jx=>∃(k1:List D) (l2:Option Sd),E=[some (.no,.tup ks),some (.rt,iL (jq k1)),l2]/\ks=k1++jx) ?_ ?_ ?_
 ·simp![];exact⟨[],_,rfl,rfl⟩
 ·rintro E d ds ⟨k1,l2,rfl,he⟩;have av:=congrArg List.length he;rw [Xi,Xn]at av;have hb:=kjs k1;have hsn:jq (k1++[d])=vj (jq k1) d:=by unfold jq;rw[List.foldl_append];rfl
  rcases hk d (by rw[he];simp)with rfl|⟨i,rfl⟩
  ·simp![];exact⟨k1++[.non],_,by rw[hsn];rfl,by rw[he];simp⟩
  ·by_cases hm:i∈jq k1
   ·have hq:=vq5 (p:=i) (ks:=jq k1);rw[Xf hm]at hq;simp![hq];exact⟨k1++[.int i],_,by rw[hsn];unfold vj;dsimp only;rw[Xa hm],by rw[he];simp⟩
   ·have hq:=vq5 (p:=i) (ks:=jq k1);rw[Xb hm]at hq;simp![hq];refine zj rfl ?_;simp![];have e4:(jq k1).map D.int++[D.int i]=(jq (k1++[.int i])).map D.int:=by
     rw[hsn,show vj (jq k1) (.int i)=jq k1++[i]from Xe hm,Y0];rfl
    exact⟨_,rfl,by simp;omega,k1++[.int i],_,by rw[e4],by rw[he];simp⟩
 ·rintro E ⟨k1,l2,rfl,he⟩;rw[Xr]at he;subst he;simp![]
  first|trivial|exact⟨(),trivial⟩|exact⟨(),rfl,trivial⟩
noncomputable def plc(ns:List Int):D->D
 |.int i=>.int (ns.findIdx λw=>w==i:Nat)
 |d=>d
noncomputable def pr(ks:List D):List D:=ks.map (plc (jq ks))
theorem wkv{p:Int}{ks:List Int}(h:(ks.any λw=>w==p)=true):qk5 (iL ks) (.int p)=some (.int (ks.findIdx λw=>w==p:Nat)):=by
 show(if(D.int p).flat 30&&D.flats 30 (ks.map D.int)then((ks.map D.int).findIdx? λw=>peq w (.int p)).map λ(j:Nat)=>D.int (j:Int)else none)=_;rw[show(D.int p).flat 30=true from rfl,wZ (ks:=ks.map D.int) (λk hk=>by obtain⟨w,_,rfl⟩:=List.mem_map.mp hk;rfl),List.findIdx?_map];have:ks.findIdx? ((λw=>peq w (.int p))∘D.int)=ks.findIdx? λw=>w==p:=rfl
 rw[this,qxj h];rfl
theorem qvu{ks:List D}(hk:∀k∈ks,At k):Oo m_places_among [(.no,iL (jq ks)),(.no,.tup ks)] (λy=>∃_:Unit,y=(.no,.tup (pr ks))/\True) noX:=by
 unfold m_places_among;refine qx ?_;simp![];refine ZV [some (.no,iL (jq ks))] (λd y=>y.2=plc (jq ks) d) ?_;simp![];refine⟨rfl,λd hd=>?_,λys hy=>?_⟩
 ·rcases hk d hd with rfl|⟨i,rfl⟩
  ·simp![];exact⟨⟨_,rfl⟩,rfl⟩
  ·have hm:((jq ks).any λw=>w==i)=true:=by rw[kvp];exact Xf (qjl hd)
   simp![wkv hm];exact⟨⟨_,rfl⟩,rfl⟩
 ·rw[Q0,kj6 (h:=plc (jq ks)) (λd y h=>h) hy];simp only[back,clr,at',List.map_cons,List.map_nil,List.set_cons_zero,List.set_cons_succ];simp![Wj (o:=.no) (xs:=ks.map (plc (jq ks))) (by decide)]
  first|trivial|exact⟨(),trivial⟩|exact⟨(),rfl,trivial⟩
noncomputable def vZ:Nat->List D->List (D×D)
 |_,[]=>[]
 |n,d::K=>(d,.int n)::vZ (n+1) K
noncomputable def v8(K:List D):List (D×D):=vZ 0 K
theorem qqk:∀(a b:List D) (n:Nat),vZ n (a++b)=vZ n a++vZ (n+a.length) b
 |[],b,n=>by simp[vZ]
 |d::a,b,n=>by
  rw[List.cons_append,vZ,vZ,qqk a b (n+1),List.cons_append,Xn]
  congr 3
  omega
theorem kxs:∀(K:List D) (n:Nat),(vZ n K).length=K.length
 |[],_=>rfl
 |d::K,n=>by rw[vZ,Xn,kxs K,Xn]
theorem kqs:∀(K:List D) (n:Nat),(vZ n K).map (·.1)=K
 |[],_=>rfl
 |d::K,n=>by rw[vZ,List.map_cons,kqs K]
theorem kzv:∀(K:List D) (n:Nat),D.pures ((vZ n K).map (·.2))=true
 |[],_=>rfl
 |d::K,n=>by
  rw[vZ,List.map_cons];show(D.pure (.int n)&&D.pures ((vZ (n+1) K).map (·.2)))=true;rw[kzv K];rfl
theorem qqj:∀(K:List D) (n:Nat) (p:D),x6 (vZ n K) p=if p∈K then some (.int (n+K.idxOf p:Nat))else none
 | [],_,p=>by simp[vZ,x6]
 | d::K,n,p=>by
  by_cases h:d=p
  ·subst h;unfold x6;rw[vZ,List.find?_cons_of_pos (by simp),Xa X2];simp
  ·have ih:=qqj K (n+1) p;have e:x6 (vZ n (d::K)) p=x6 (vZ (n+1) K) p:=by
    unfold x6;rw[vZ,List.find?_cons_of_neg (by simpa using h)]
   rw[e,ih]
   by_cases hm:p∈K
   ·rw[Xa hm,Xa (lc9 _ hm),List.idxOf_cons,show(d==p)=false by simpa using h]
    congr 2
    simp;omega
   ·rw[Xe hm,Xe (λz=>by rcases List.mem_cons.mp z with z|z;exact h z.symm;exact hm z)]
theorem qql(K:List D)(p:D):v8 (K++[p])=v8 K++[(p,.int K.length)]:=by
 unfold v8;rw[qqk,Nat.zero_add];rfl
theorem vwz(K:List D)(p:D):((x4 K p).idxOf p:Int)=if p∈K then(K.idxOf p:Int)else K.length:=by
 unfold x4
 by_cases h:p∈K
 ·rw[Xa h,Xa h]
 ·rw[Xe h,Xe h,List.idxOf_append,Xe h];simp
noncomputable def vW(K:List D)(s:D):List D×D:=match s with
 |.tup [room,.tup ks]=>(x4 K (.tup [room,.tup (pr ks)]),.tup [.int ((x4 K (.tup [room,.tup (pr ks)])).idxOf (.tup [room,.tup (pr ks)]):Nat),iT (jq ks)])
 |_=>(K,.non)
theorem vxd{ks K:List D}{room:Int}(hk:∀k∈ks,At k)(hl:ks.length<=6)(hK:K.length<9000)(fy:xY (.tup [.int room,.tup (pr ks)])=true)(hu:unm (v8 K)=true):
  Oom m_plain_case [(.no,.tup [.int room,.tup ks]),(.rt,.dct (v8 K))] 1 (λy x'=>y=(.no,(vW K (.tup [.int room,.tup ks])).2)/\x'=(.rt,.dct (v8 (vW K (.tup [.int room,.tup ks])).1))) noX:=by
 unfold m_plain_case;refine qw6 ?_;refine Zx (wk0 ?_);simp![];refine vjh ?_;simp![];refine Zx (vjh ?_);simp![p1];refine(kv8 hk (by omega)).use ?_;intro _ _;simp![];refine Zx (vjh ?_);simp![p0,p1];refine(qvu hk).use ?_;intro _ _;simp![];refine qw7 ?_;simp![];refine vqz hu ?_;simp![qwm hu];have hz:=qqj K 0 (.tup [.int room,.tup (pr ks)]);have lr:(v8 K).length=K.length:=kxs K 0;refine⟨v8 K,rfl,⟨fy,by rw[lr];omega,hu,kzv _ _⟩,λd hd=>?_,λhn=>?_⟩
 ·have hm:(D.tup [.int room,.tup (pr ks)])∈K:=by
   by_cases hm:(D.tup [.int room,.tup (pr ks)])∈K
   ·exact hm
   ·rw[Xe hm]at hz;unfold v8 at hd;rw[hz]at hd;cases hd
  rw[Xa hm,Nat.zero_add]at hz;unfold v8 at hd;rw[hz]at hd;cases oq9 hd;have e1:x4 K (.tup [.int room,.tup (pr ks)])=K:=by unfold x4;rw[Xa hm]
  simp![Wj (o:=.no) (xs:=(jq ks).map D.int) (by decide)];show _/\_;unfold vW;dsimp only;rw[e1];exact⟨rfl,rfl⟩
 ·have hm:(D.tup [.int room,.tup (pr ks)])∉K:=λhm=>by
   rw[Xa hm]at hz;unfold v8 at hn;rw[hz]at hn;cases hn
  have e1:x4 K (.tup [.int room,.tup (pr ks)])=K++[.tup [.int room,.tup (pr ks)]]:=by unfold x4;rw[Xe hm]
  have e2:=vwz K (.tup [.int room,.tup (pr ks)]);rw[Xe hm]at e2;simp![Wj (o:=.no) (xs:=(jq ks).map D.int) (by decide),lr];show _/\_;unfold vW;dsimp only;rw[e2,e1,qql];exact⟨rfl,rfl⟩
theorem qxt{K:List D}:Oom m_plain_case [(.no,.non),(.rt,.dct (v8 K))] 1 (λy x'=>y.2=.non/\x'=(.rt,.dct (v8 K))) noX:=by
 unfold m_plain_case;refine qw6 ?_;refine Zx (wk0 ?_);simp![];refine qw7 ?_;simp![]
 first|rfl|exact⟨rfl,rfl⟩
end F
namespace F
open Q PySem C
noncomputable def obD(rs:List D)(s:D)(z:Str)(p:Int):Option D:=match qX rs (z,p) s with
 |[]=>some .non
 |[d]=>some d
 |_=>none
noncomputable def wqn(rz:Sm):Prop:=∀(e:Option Sd) (E:En) (N C:En->Prop) (R:Sd->Prop) (X:XP),X "NotSingle"->Po (rz (e::E)) N C R X
theorem wvg:wqn (sRz "NotSingle"):=λe E N C R X h=>by rw[w_rz];exact h
theorem vwb{rz:Sm}{ss:List Str}{rs V:List D}{kps:List Int}{s:D}{z:Str}{p:Int}{X:XP}(hR:Rmw rs)(hx:Rx ss kps rs)(hs:SokV kps V s)(hz:obD rs s z p=none->wqn rz/\X "NotSingle"):
  Oo (m_only_behind rz) [(.no,q9 ss rs),(.no,s),(.no,.str z),(.no,.int p)] (λy=>obD rs s z p=some y.2) X:=by
 obtain⟨room,ks,st,gd,rfl,r0,er,b8,fw,gu,jg⟩:=W6 hR hx hs.ok;have iq:At (.int p):=.inr ⟨p,rfl⟩;have lh:qX rs (z,p) (.tup [.int room,.tup ks])=(jX (kY z ks (.int p)) 0 st).map (bh ks st p):=by unfold qX;rw[QZ er,z8]
 unfold m_only_behind;refine qx ?_;simp![];refine(qqa r0 er b8 fw iq).any.use ?_;intro _ _;unfold obD at hz ⊢;rw [lh]at hz ⊢;cases hf:jX (kY z ks (.int p)) 0 st with
 | nil=>
  have pq:fGt (.int (([]:List D).length:Nat)) (.int 1)=some (.bl false):=rfl;simp![pq]
  first|rfl|trivial
 | cons c r=>
  rw[hf]at hz;obtain⟨j,rfl,_,hj⟩:=V8 (show c∈jX (kY z ks (.int p)) 0 st by rw[hf];exact X2);have hj:j<st.length:=by omega
  cases r with
  | nil=>
   have nr:jY (.lst [.int j]) (.int 0)=some (.int j):=rfl;have pq:fGt (.int (([.int j]:List D).length:Nat)) (.int 1)=some (.bl false):=rfl;simp![pq,nr];rw[Xe (by decide),Xa (by rfl)];refine(qz7 r0 er b8 hj).any.use ?_;intro _ _;rw[W2 hj]
  | cons c2 r2=>
   have pq:fGt (.int ((.int j::c2::r2:List D).length:Nat)) (.int 1)=some (.bl true):=by
    show some (D.bl (decide ((1:Int)<((.int j::c2::r2:List D).length:Nat))))=_;rw[Xf (by simp;omega)]
   simp![pq];rw[Xa (Xf (by omega))];obtain⟨h1,h2⟩:=hz rfl;exact h1 _ _ _ _ _ _ h2
noncomputable def V4:List D:=[.non,.int 0,.int 1,.int 2,.int 3]
theorem wk5{ss:List Str}{rs:List D}{kps:List Int}{s d:D}{z:Str}{p:Int}(hR:Rmw rs)(hx:Rx ss kps rs)(hs:SokV kps V4 s)(hp:D.int p∈V4)(h:obD rs s z p=some d):d=.non\/SokV kps V4 d:=by
 have hn:=qjn (w:=(z,p)) hR hx (by simp[V4]) hp hs;unfold obD at h
 split at h
 ·cases h;exact .inl rfl
 ·rename_i d' e;cases h;exact .inr (hn d (by rw[e];exact List.mem_singleton.mpr rfl))
 ·cases h
theorem Z5{ns:List Int}{i:Int}(h:i∈ns):(ns.findIdx λw=>w==i)<ns.length:=wwp (by rw[kvp];exact Xf h)
theorem wvy{ks:List D}(hk:∀k∈ks,At k)(hl:ks.length<=3):(∀d∈pr ks,At d)/\∀d∈pr ks,d∈V4:=by
 have key:∀d∈pr ks,d=.non\/∃i:Nat,d=.int i/\i<3:=λd hd=>by
  unfold pr at hd;obtain⟨k,hk',rfl⟩:=List.mem_map.mp hd;rcases hk k hk' with rfl|⟨i,rfl⟩
  ·exact .inl rfl
  ·have:=Z5 (qjl hk');have:=kjs ks;exact .inr ⟨_,rfl,by omega⟩
 refine⟨λd hd=>?_,λd hd=>?_⟩
 ·rcases key d hd with rfl|⟨i,rfl,_⟩
  ·exact .inl rfl
  ·exact .inr ⟨_,rfl⟩
 ·rcases key d hd with rfl|⟨i,rfl,hi⟩
  ·simp[V4]
  ·have:i=0\/i=1\/i=2:=by omega
   rcases this with rfl|rfl|rfl<;>simp[V4]
theorem wwe{kps:List Int}{room:Int}(h3:∀k∈kps,k<=3)(r0:0<=room)(r1:room<kps.length):kps.getD room.toNat 0<=3:=by
 have:room.toNat<kps.length:=by omega
 refine h3 _ ?_;rw[X3,X1 this];exact Xk _
theorem Vz{kps:List Int}{room:Int}{ks:List D}(h3:∀k∈kps,k<=3)(h:SokV kps V4 (.tup [.int room,.tup ks])):SokV kps V4 (.tup [.int room,.tup (pr ks)])/\ks.length<=3:=by
 obtain⟨bp,ff,e,r0,r1,hl,ha,hV⟩:=h;injection e with e;injection e with e1 e;injection e with e2 _;injection e1 with e1;injection e2 with e2;subst e1 e2;have:=wwe h3 r0 r1;have nv:ks.length<=3:=by omega
 obtain⟨q1,q2⟩:=wvy ha nv;exact⟨⟨room,pr ks,rfl,r0,r1,by unfold pr;rw[X5];exact hl,q1,q2⟩,nv⟩
theorem qk9{kps:List Int}{K:List D}{d:D}(h3:∀k∈kps,k<=3)(hK:Kin kps V4 K)(hd:d=.non\/SokV kps V4 d):Kin kps V4 (vW K d).1:=by
 rcases hd with rfl|hd
 ·exact hK
 ·obtain⟨room,ks,rfl,_⟩:=id hd;exact vwy hK (Vz h3 hd).1
theorem qjt{kps:List Int}{K:List D}(hK:Kin kps V4 K):unm (v8 K)=true:=vwn (kps:=kps) (V:=V4) (by unfold v8;rw[kqs];exact hK)
noncomputable def v5(rs:List D)(s:D)(z:Str):List D->List D->Option (List D×List D)
 |[],K=>some (K,[])
 |.int p::ps,K=>match obD rs s z p with
  |none=>none
  |some d=>(v5 rs s z ps (vW K d).1).map λr=>(r.1,(vW K d).2::r.2)
 |_::_,_=>none
theorem kv0{kps:List Int}{K:List D}{d:D}(ny:kps.length<=12)(h3:∀k∈kps,k<=3)(hK:Kin kps V4 K)(hd:d=.non\/SokV kps V4 d):
  Oom m_plain_case [(.no,d),(.rt,.dct (v8 K))] 1 (λy x'=>y.2=(vW K d).2/\x'=(.rt,.dct (v8 (vW K d).1))) noX:=by
 rcases hd with rfl|hd
 ·exact qxt
 ·obtain⟨room,ks,rfl,r0,r1,hl,ha,hV⟩:=id hd;obtain⟨q1,q2⟩:=Vz h3 hd;have:=kzg hK ny h3 (by decide);exact(vxd ha (by omega) (by omega) (qww q1.ok) (qjt hK)).mono (λy x h=>⟨by rw[h.1],h.2⟩) λc h=>h.elim
theorem vk4{rz:Sm}{ss:List Str}{rs K:List D}{kps:List Int}{s:D}{z:Str}{X:XP}(hR:Rmw rs)(hx:Rx ss kps rs)(h3:∀k∈kps,k<=3)(hs:SokV kps V4 s)(hK:Kin kps V4 K)
  (hz:v5 rs s z (jV 0 ((jq (x3 s)).length+1)) K=none->wqn rz/\X "NotSingle"):
  Oom (m_plain_cases rz) [(.no,q9 ss rs),(.no,s),(.no,.str z),(.rt,.dct (v8 K))] 3 (λy x'=>∃K' cs,v5 rs s z (jV 0 ((jq (x3 s)).length+1)) K=some (K',cs)/\y=(.rt,.lst cs)/\x'=(.rt,.dct (v8 K'))/\Kin kps V4 K') X:=by
 have ny:kps.length<=12:=by have:=hx.1;have:=hR.2.1;omega
 obtain⟨room,ks,rfl,r0,r1,hl,ha,hV⟩:=id hs;have nv:=(Vz h3 hs).2;rw[z8]at hz ⊢;have rq:=kjs ks;have mf:∀d∈jV 0 (((jq ks).length:Int)+1),∃p:Int,d=.int p/\d∈V4:=λd hd=>by
  unfold jV at hd;obtain⟨i,hi,rfl⟩:=List.mem_map.mp hd;have hi:=List.mem_range.mp hi;refine⟨_,rfl,?_⟩;have:i=0\/i=1\/i=2\/i=3:=by omega
  rcases this with rfl|rfl|rfl|rfl<;>simp[V4]
 generalize hps:jV 0 (((jq ks).length:Int)+1)=ps at hz mf;unfold m_plain_cases;refine qw6 ?_;refine Zx (vjh ?_);simp![p1];refine(kv8 ha (by omega)).any.use ?_;intro _ _;simp![];refine qw7 ?_;rw[hps];refine XQ (λE1 B ds acc=>E1=[some (.no,q9 ss rs),some (.no,.tup [.int room,.tup ks]),some (.no,.str z),some (.rt,.dct (v8 K)),some (.no,.lst ps)]/\∃q K1,B=[q,some (.no,q9 ss rs),some (.no,.tup [.int room,.tup ks]),some (.no,.str z),some (.rt,.dct (v8 K1))]/\Kin kps V4 K1/\(∀d∈ds,∃p:Int,d=.int p/\d∈V4)/\v5 rs (.tup [.int room,.tup ks]) z ps K=(v5 rs (.tup [.int room,.tup ks]) z ds K1).map λr=>(r.1,acc.map (·.2)++r.2)) ?_ ?_ ?_
 ·simp![];exact⟨none,K,rfl,hK,mf,by simp⟩
 ·rintro E1 B d ds acc ⟨rfl,q,K1,rfl,hK1,dy,hc⟩;obtain⟨p,rfl,hpV⟩:=dy d X2;simp![];refine qka ?_;simp![];refine(vwb hR hx hs (λhn=>hz (by rw[hc,v5,hn];rfl))).via ?_;intro y hy;simp![];have hd:=wk5 hR hx hs hpV hy;refine⟨_,rfl,(kv0 ny h3 hK1 hd).mono (λy' x' h=>?_) λc h=>h.elim⟩;obtain⟨h1,rfl⟩:=h;refine⟨_,(vW K1 y.2).1,rfl,qk9 h3 hK1 hd,λd hd=>dy d (lc9 _ hd),?_⟩;rw[hc,v5,hy];simp[Option.map_map,Function.comp_def,h1]
 ·rintro E1 B acc ⟨rfl,q,K1,rfl,hK1,_,hc⟩;rw[Q0];simp only[Jk,back,clr,at',List.drop,List.map_cons,List.map_nil,List.set_cons_zero,List.set_cons_succ];exact⟨K1,acc.map (·.2),by rw[hc];simp[v5],rfl,rfl,hK1⟩
end F
namespace F
open Q PySem C
noncomputable def kxa(rs:List D)(s:D)(z:Str)(K:List D):Option (List D×List D):=v5 rs s z (jV 0 ((jq (x3 s)).length+1)) K
noncomputable def vk(rs:List D)(s:D):List Str->List D->Option (List D×List D)
 |[],K=>some (K,[])
 |z::zs,K=>match kxa rs s z K with
  |none=>none
  |some r=>(vk rs s zs r.1).map λq=>(q.1,.lst r.2::q.2)
noncomputable def goodD(rs:List D)(s:D):D:=match s with
 |.tup [.int room,_]=>(match rs[room.toNat]? with
  |some (.tup [_,g,_])=>g
  |_=>.non)
 |_=>.non
noncomputable def VZ(rs:List D)(s:D)(st:List D):D:=.tup [.int (jq (x3 s)).length,goodD rs s,.lst st]
noncomputable def Jv(ss:List Str)(rs K ae:List D):Option (List D×List D):=(vk rs (K.getD ae.length .non) ss K).map λr=>(r.1,ae++[VZ rs (K.getD ae.length .non) r.2])
inductive Run (ss:List Str)(rs:List D):List D->List D->Option (List D×List D)->Prop
 |stop {K ae:List D}:¬ae.length<K.length->Run ss rs K ae (some (K,ae))
 |fail {K ae:List D}:ae.length<K.length->Jv ss rs K ae=none->Run ss rs K ae none
 |go {K ae K' cm:List D} {r:Option (List D×List D)}:ae.length<K.length->Jv ss rs K ae=some (K',cm)->Run ss rs K' cm r->Run ss rs K ae r
theorem Run.det{ss:List Str}{rs K ae:List D}{r r':Option (List D×List D)}(h:Run ss rs K ae r):Run ss rs K ae r'->r=r':=by
 induction h with
 | stop h=>
  intro h';cases h' with
  |stop=>rfl
  |fail h1=>exact absurd h1 h
  |go h1=>exact absurd h1 h
 | fail h e=>
  intro h';cases h' with
  |stop h1=>exact absurd h h1
  |fail=>rfl
  |go _ e'=>rw[e]at e';cases e'
 | go h e _ ih=>
  intro h';cases h' with
  |stop h1=>exact absurd h h1
  |fail _ e'=>rw[e]at e';cases e'
  |go _ e' h2=>
   rw[e]at e';cases e';exact ih h2
theorem qqe{K:List D}{d:D}:K.length<=(vW K d).1.length:=by
 unfold vW
 split
 ·unfold x4;split<;>simp
 ·exact X9 _
theorem kkg{rs:List D}{s:D}{z:Str}:∀{ps K:List D} {r:List D×List D},v5 rs s z ps K=some r->K.length<=r.1.length
 | [],K,r,h=>by rw[v5]at h;cases h;exact X9 _
 | .int p::ps,K,r,h=>by
  rw[v5]at h
  split at h
  ·cases h
  ·rename_i d _;obtain⟨q,hq,rfl⟩:=Option.map_eq_some_iff.mp h;have h1:=kkg hq;have:=qqe (K:=K) (d:=d);exact Y4 this h1
 |.non::_,_,_,h=>by cases h
 |.bl _::_,_,_,h=>by cases h
 |.str _::_,_,_,h=>by cases h
 |.tup _::_,_,_,h=>by cases h
 |.lst _::_,_,_,h=>by cases h
 |.dct _::_,_,_,h=>by cases h
 |.obj _ _::_,_,_,h=>by cases h
theorem vx3{rs ks st:List D}{room:Int}{kp gd:D}(hr:rs[room.toNat]?=some (.tup [kp,gd,.lst st])):goodD rs (.tup [.int room,.tup ks])=gd:=by
 unfold goodD;dsimp only;rw[hr]
theorem jw1{rz:Sm}{ss:List Str}{rs:List D}{kps:List Int}{kp:Int}{gd st0:D}{X:XP}(hR:Rmw rs)(hx:Rx ss kps rs)(h3:∀k∈kps,k<=3)(dk:rs[0]?=some (.tup [.int kp,gd,st0]))(i6:0<=kp)(fq:kp<=3)
  (hX:Run ss rs [.tup [.int 0,.tup (List.replicate kp.toNat .non)]] [] none->wqn rz/\X "NotSingle"):
  Oo (m_plain_of rz) [(.no,q9 ss rs)] (λy=>∃K ae,y=(.no,.tup [q9 ss ae,.lst K])/\Run ss rs [.tup [.int 0,.tup (List.replicate kp.toNat .non)]] [] (some (K,ae))) X:=by
 have k4:kps.length<=12:=by have:=hx.1;have:=hR.2.1;omega
 have ka:Kin kps V4 [.tup [.int 0,.tup (List.replicate kp.toNat .non)]]:=kvh hR hx (by simp[V4]) dk i6;generalize lc:(D.tup [.int 0,.tup (List.replicate kp.toNat .non)])=s0 at *;unfold m_plain_of;refine qx ?_;simp![↓vxx];refine(vjx (gd:=gd) (st:=st0) dk i6 (by omega)).any.use ?_;intro _ _;simp![];rw [lc];refine⟨qww (ka.2 s0 X2).ok,?_⟩;refine vj7 (λn E=>∃(K ae:List D) (l3 l4:Option Sd),E=[some (.no,q9 ss rs),some (.rt,.dct (v8 K)),some (.rt,.lst ae),l3,l4]/\Kin kps V4 K/\ae.length<=K.length/\n=4000 - ae.length/\∀r,Run ss rs K ae r->Run ss rs [s0] [] r) ?_ 4000 _ ⟨[s0],[],_,_,rfl,ka,Yf _,rfl,λr h=>h⟩;rintro n E ⟨K,ae,l3,l4,rfl,hK,gf,rfl,dl⟩;have hkl:=kzg hK k4 h3 (by decide);have lr:(v8 K).length=K.length:=kxs K 0;have hu:=qjt hK;have mh:∀o,W3 (o,.dct (v8 K))=some (.rt,.lst K):=λo=>by
  rw [wke (by rw[lr];omega) hu];unfold v8;rw [kqs]
 by_cases bj:ae.length<K.length
 ·have hd:decide ((ae.length:Int)<(K.length:Int))=true:=Xf (by omega);have fu:jY (.lst K) (.int ae.length)=some (K.getD ae.length .non):=wq (by omega) (by rw[Yg,X1 bj,X3,X1 bj];rfl);have hs:SokV kps V4 (K.getD ae.length .non):=hK.2 _ (by rw[X3,X1 bj];exact Xk _);have kf:Jv ss rs K ae=(vk rs (K.getD ae.length .non) ss K).map λr=>(r.1,ae++[VZ rs (K.getD ae.length .non) r.2]):=rfl
  generalize K.getD ae.length .non=s at fu hs kf;have qr:vk rs s ss K=none->wqn rz/\X "NotSingle":=λe=>hX (dl _ (.fail bj (by rw[kf,e];rfl)))
  simp![qwm hu,lr,hd,mh,fu];refine XQ (λE1 B ds acc=>E1=[some (.no,q9 ss rs),some (.rt,.dct (v8 K)),some (.rt,.lst ae),some (.no,s),l4]/\∃(q:Option Sd) (K1:List D) (zs:List Str),B=[q,some (.no,q9 ss rs),some (.no,s),some (.rt,.dct (v8 K1))]/\ds=zs.map D.str/\Kin kps V4 K1/\K.length<=K1.length/\vk rs s ss K=(vk rs s zs K1).map λr=>(r.1,acc.map (·.2)++r.2)) ?_ ?_ ?_
  ·simp![p0];exact⟨none,K,ss,rfl,rfl,hK,X9 _,by simp⟩
  ·rintro E1 B d ds acc ⟨rfl,q,K1,zs,rfl,dy,hK1,hg,hc⟩;cases zs with
   | nil=>cases dy
   | cons z zs=>
    rw[List.map_cons]at dy;injection dy with e1 e2;subst e1 e2;simp![];refine qka ?_;simp![];refine⟨_,rfl,(vk4 hR hx h3 hs hK1 (λhn=>qr (by rw[hc,vk,show kxa rs s z K1=none from hn];rfl))).mono (λy x' h=>?_) λc h=>h⟩;obtain⟨K2,cs,li,rfl,rfl,hK2⟩:=h;refine⟨_,K2,zs,rfl,rfl,hK2,Y4 hg (kkg li),?_⟩;rw[hc,vk,show kxa rs s z K1=some (K2,cs)from li];simp[Option.map_map,Function.comp_def]
  ·rintro E1 B acc ⟨rfl,q,K1,zs,rfl,dy,hK1,hg,hc⟩;cases zs with
   | cons=>cases dy
   | nil=>
    rw[Q0];simp only[Jk,back,clr,at',List.drop,List.map_cons,List.map_nil,List.set_cons_zero,List.set_cons_succ];obtain⟨room,ks,st,ju,rfl,r0,er,b8,fw,gu,jg⟩:=W6 hR hx hs.ok;have nv:=(Vz h3 hs).2;have hir:jY (.lst rs) (.int room)=some (.tup [.int ks.length,ju,.lst st]):=wq r0 er;refine zj rfl ?_;simp![p0,p1];refine(kv8 fw (by omega)).any.use ?_;intro _ _;simp![p0,p1,t1,hir];have hkl1:=kzg hK1 k4 h3 (by decide);refine⟨_,rfl,by omega,_,?_,K1,_,_,_,rfl,hK1,?_,rfl,λr h=>dl r (.go bj ?_ h)⟩
    ·simp;omega
    ·simp;omega
    ·rw[kf,hc];simp[vk,VZ,vx3 er,x3]
 ·have hd:decide ((ae.length:Int)<(K.length:Int))=false:=Xb (by omega);simp![qwm hu,lr,hd,mh,p0,kws (o:=.no) (xs:=ss.map D.str) (by decide)];exact⟨K,ae,rfl,dl _ (.stop bj)⟩
end F
namespace F
open Q PySem C
theorem qvx{a b:D}(ha:At a)(hb:At b):peq a b=decide (a=b):=by
 rcases ha with rfl|⟨i,rfl⟩<;>rcases hb with rfl|⟨j,rfl⟩
 ·simp[peq]
 ·simp[peq]
 ·simp[peq]
 ·show(i==j)=_
  by_cases h:i=j
  ·subst h;simp
  ·rw[Xb (λz=>h (by injection z))];simpa using h
theorem qxd{kps:List Int}{V:List D}{a:D}{n:Nat}(ha:SokV kps V a):a.flat (n+2)=true:=by
 obtain⟨r,ks,rfl,_,_,_,h1,_⟩:=ha;show(true&&(D.flats n ks&&true))=true;rw[At.flats h1];rfl
end F
namespace F
open Q PySem C
noncomputable def ltr:List Nat:=("abcdefghijklmnopqrstuvwxyz":Str).cps.toList
noncomputable def Sg(z:Str):Prop:=z.cps.size<=8/\∀c∈z.cps.toList,c∈ltr
end F
namespace F
open Q PySem C
section
variable {rs:List D}{ss:List Str}{I:D->Prop}
noncomputable def vkh(rs:List D)(ss:List Str)(I:D->Prop):Prop:=∀s,I s->∀z∈ss,∀p:Int,D.int p∈jV 0 ((jq (x3 s)).length+1)->∃d,obD rs s z p=some d/\(d=.non\/∃room ks,d=.tup [room,.tup ks]/\I (.tup [room,.tup (pr ks)]))
theorem vwx{K:List D}{p:D}(hK:∀k∈K,I k)(hp:I p):∀k∈x4 K p,I k:=λk hk=>by
 unfold x4 at hk
 split at hk
 ·exact hK k hk
 ·rcases List.mem_append.mp hk with z|z
  ·exact hK k z
  ·rw[List.mem_singleton.mp z];exact hp
theorem kqn(hI:vkh rs ss I){s:D}{z:Str}(hs:I s)(hz:z∈ss):∀{ps K:List D},(∀d∈ps,∃p:Int,d=.int p/\d∈jV 0 ((jq (x3 s)).length+1))->(∀k∈K,I k)->∃r,v5 rs s z ps K=some r/\∀k∈r.1,I k
 | [],K,_,hK=>⟨(K,[]),rfl,hK⟩
 | d::ps,K,hp,hK=>by
  obtain⟨p,rfl,ri⟩:=hp d X2;obtain⟨d,hd,ix⟩:=hI s hs z hz p ri;have hK2:∀k∈(vW K d).1,I k:=by
   rcases ix with rfl|⟨room,ks,rfl,hi⟩
   ·exact hK
   ·exact vwx hK hi
  obtain⟨r,hr,hk⟩:=kqn hI hs hz (λd hd=>hp d (lc9 _ hd)) hK2;exact⟨(r.1,(vW K d).2::r.2),by rw[v5,hd];dsimp only;rw[hr];rfl,hk⟩
theorem jxw(hI:vkh rs ss I){s:D}(hs:I s):∀{zs:List Str} {K:List D},(∀z∈zs,z∈ss)->(∀k∈K,I k)->∃r,vk rs s zs K=some r/\∀k∈r.1,I k
 | [],K,_,hK=>⟨(K,[]),rfl,hK⟩
 | z::zs,K,hz,hK=>by
  obtain⟨r,hr,hk⟩:=kqn hI hs (hz z X2) (ps:=jV 0 ((jq (x3 s)).length+1)) (λd hd=>by
   obtain⟨i,_,_,rfl⟩:=WZ hd;exact⟨i,rfl,hd⟩) hK
  obtain⟨q,hq,hk2⟩:=jxw hI hs (zs:=zs) (λz h=>hz z (lc9 _ h)) hk;exact⟨(q.1,.lst r.2::q.2),by rw[vk,show kxa rs s z K=some r from hr];dsimp only;rw[hq];rfl,hk2⟩
theorem qzx(hI:vkh rs ss I){K ae:List D}{r:Option (List D×List D)}(h:Run ss rs K ae r):(∀k∈K,I k)->∃q,r=some q/\∀k∈q.1,I k:=by
 induction h with
 |stop h=>intro hK;exact⟨_,rfl,hK⟩
 |@fail K ae bj e=>
  intro hK;have hs:=hK (K.getD ae.length .non) (by rw[X3,X1 bj];exact Xk _);obtain⟨r,hr,_⟩:=jxw hI hs (λz h=>h) hK;unfold Jv at e;rw[hr]at e;cases e
 |@go K ae K' cm r bj e _ ih=>
  intro hK;have hs:=hK (K.getD ae.length .non) (by rw[X3,X1 bj];exact Xk _);obtain⟨r,hr,hk⟩:=jxw hI hs (λz h=>h) hK;unfold Jv at e;rw[hr]at e;cases e;exact ih hk
end
end F
namespace F
open Q PySem C
theorem kz6{i:Int}{d:D}(h:At d):peq d (.int i)=decide (d=.int i):=qvx h (.inr ⟨i,rfl⟩)
theorem kk2{ks:List D}{p i:Int}(hk:∀k∈ks,At k)(h0:0<=i)(h1:i<ks.length)(hf:v7 ks (.int p) (.str "fresh")=true)(hi:v7 ks (.int p) (.int i)=true):False:=by
 have hf:(!ks.any λz=>peq z (.int p))=true:=by
  unfold v7 at hf;dsimp only at hf
  rwa [Xa rfl]at hf
 have hi:peq (ks.getD i.toNat .non) (.int p)=true:=hi;rw[Bool.not_eq_true']at hf;have hm:=J6 ks i h0 h1;rw[List.any_eq_false]at hf;exact hf _ hm hi
theorem qzj{ks:List D}{p i j:Int}(hk:∀k∈ks,At k)(h0:0<=i)(h1:i<ks.length)(h2:0<=j)(h3:j<ks.length)(hi:v7 ks (.int p) (.int i)=true)(hj:v7 ks (.int p) (.int j)=true):ks.getD i.toNat .non=.int p/\ks.getD j.toNat .non=.int p:=by
 have hi:peq (ks.getD i.toNat .non) (.int p)=true:=hi;have hj:peq (ks.getD j.toNat .non) (.int p)=true:=hj;rw[kz6 (hk _ (J6 ks i h0 h1))]at hi;rw[kz6 (hk _ (J6 ks j h2 h3))]at hj;exact⟨of_decide_eq_true hi,of_decide_eq_true hj⟩
noncomputable def W1(ks:List D):Prop:=∀i j:Nat,∀p:Int,ks[i]?=some (.int p)->ks[j]?=some (.int p)->i=j
theorem vwc{ks:List D}(h:W1 ks):W1 (pr ks):=λi j p hi hj=>by
 unfold pr at hi hj;rw[Xw]at hi hj;obtain⟨a,ha,ea⟩:=Option.map_eq_some_iff.mp hi;obtain⟨b,hb,eb⟩:=Option.map_eq_some_iff.mp hj;have key:∀{d:D} {q:Int},d∈ks->plc (jq ks) d=.int q->∃x:Int,d=.int x/\x∈jq ks/\((jq ks).findIdx (λw=>w==x):Int)=q:=fun {d q} hd e=>by
  unfold plc at e
  split at e
  ·rename_i x;injection e with e;exact⟨x,rfl,qjl hd,e⟩
  ·rename_i cx;exact absurd e (cx q)
 obtain⟨x,rfl,hx,ex⟩:=key (Xd ha) ea;obtain⟨y,rfl,hy,ey⟩:=key (Xd hb) eb;have e:(jq ks).findIdx (λw=>w==x)=(jq ks).findIdx (λw=>w==y):=by omega
 have gx:=Z5 hx;have gy:=Z5 hy;have h1:(jq ks)[(jq ks).findIdx (λw=>w==x)]'gx=x:=by simpa using List.findIdx_getElem (p:=λw=>w==x) (w:=gx)
 have h2:(jq ks)[(jq ks).findIdx (λw=>w==y)]'gy=y:=by simpa using List.findIdx_getElem (p:=λw=>w==y) (w:=gy)
 have hxy:x=y:=by
  rw[<-h1,<-h2]
  congr 1
 subst hxy;exact h i j x ha hb
noncomputable def FA(g:D)(fs:List D):Prop:=(∀(i j:Nat) (f:D),f≠.non->fs[i]?=some f->fs[j]?=some f->i=j)/\(D.str "new"∈fs->g≠.str "any"/\g∉fs)
theorem kz8{ks fs:List D}{p:Int}{g:D}(hk:∀k∈ks,At k)(ho:W1 ks)(hg:Gd ks.length g)(dz:v7 ks (.int p) g=true)(hf:∀f∈fs,Fd ks.length f)(ha:FA g fs):W1 (fs.map (vz ks (.int p))):=λi j q hi hj=>by
 rw[Xw]at hi hj;obtain⟨a,h1,ea⟩:=Option.map_eq_some_iff.mp hi;obtain⟨b,h2,eb⟩:=Option.map_eq_some_iff.mp hj;have at_:∀{n:Int},0<=n->n<ks.length->∀{x:D},ks.getD n.toNat .non=x->ks[n.toNat]?=some x:=fun {n} n0 n1 {x} e=>by
  have:n.toNat<ks.length:=by omega
  rw[X1 this,<-e,X3,X1 this];rfl
 have mix:∀{n:Int},0<=n->n<ks.length->D.str "new"∈fs->D.int n∈fs->ks.getD n.toNat .non=.int p->False:=fun {n} n0 n1 hn hm e=>by
  obtain⟨c1,c2⟩:=ha.2 hn;rcases hg with rfl|rfl|⟨c,c0,c3,rfl⟩
  ·exact kk2 hk n0 n1 dz (by show peq (ks.getD n.toNat .non) (.int p)=true;rw[e];simp[peq])
  ·exact c1 rfl
  ·have hc:peq (ks.getD c.toNat .non) (.int p)=true:=dz;rw[kz6 (hk _ (J6 ks c c0 c3))]at hc;have:=ho _ _ p (at_ c0 c3 (of_decide_eq_true hc)) (at_ n0 n1 e);have:c=n:=by omega
   subst this;exact c2 hm
 have iw:=hf a (Xd h1);have hfb:=hf b (Xd h2);rcases iw with rfl|rfl|⟨x,x0,x1,rfl⟩
 ·have ea:D.int p=.int q:=ea;injection ea with ea;subst ea;rcases hfb with rfl|rfl|⟨y,y0,y1,rfl⟩
  ·exact ha.1 i j (.str "new") (λz=>nomatch z) h1 h2
  ·cases(show D.non=.int p from eb)
  ·exact(mix y0 y1 (Xd h1) (Xd h2) eb).elim
 ·cases(show D.non=.int q from ea)
 ·rcases hfb with rfl|rfl|⟨y,y0,y1,rfl⟩
  ·have eb:D.int p=.int q:=eb;injection eb with eb;subst eb;exact(mix x0 x1 (Xd h2) (Xd h1) ea).elim
  ·cases(show D.non=.int q from eb)
  ·have:=ho _ _ q (at_ x0 x1 ea) (at_ y0 y1 eb);have:x=y:=by omega
   subst this;exact ha.1 i j (.int x) (λz=>nomatch z) h1 h2
end F
namespace F
open Q PySem C
theorem qxf{p:D->Bool}:∀{st:List D} {k:Nat} {c:D},c∈jX p k st->∃(j:Nat) (a:D),st[j]?=some a/\p a=true
 | [],_,_,h=>by cases h
 | d::st,k,c,h=>by
  unfold jX at h
  split at h
  ·rename_i hp;exact⟨0,d,rfl,hp⟩
  ·obtain⟨j,a,h1,h2⟩:=qxf h;exact⟨j+1,a,by simpa using h1,h2⟩
theorem qxe{p:D->Bool}:∀{st:List D} {k:Nat} {c1 c2:D} {r:List D},jX p k st=c1::c2::r->∃(i j:Nat) (a b:D),i<j/\st[i]?=some a/\st[j]?=some b/\p a=true/\p b=true
 | [],_,_,_,_,h=>by cases h
 | d::st,k,c1,c2,r,h=>by
  unfold jX at h
  split at h
  ·rename_i hp;injection h with _ h;obtain⟨j,b,h1,h2⟩:=qxf (show c2∈jX p (k+1) st by rw[h];exact X2);exact⟨0,j+1,d,b,by omega,rfl,by simpa using h1,hp,h2⟩
  ·obtain⟨i,j,a,b,h1,h2,h3,h4⟩:=qxe h;exact⟨i+1,j+1,a,b,by omega,by simpa using h2,by simpa using h3,h4⟩
theorem vqd{p:D->Bool}:∀{st:List D} {k j:Nat},D.int j∈jX p k st->k<=j/\∃a,st[j - k]?=some a/\p a=true
 | [],_,_,h=>by cases h
 | d::st,k,j,h=>by
  have jx:D.int j∈jX p (k+1) st->k<=j/\∃a,(d::st)[j - k]?=some a/\p a=true:=λh=>by
   obtain⟨h1,a,h2,h3⟩:=vqd h;exact⟨by omega,a,by rw[show j - k=(j - (k+1))+1 by omega,List.getElem?_cons_succ];exact h2,h3⟩
  unfold jX at h
  split at h
  ·rename_i hp;rcases List.mem_cons.mp h with e|h
   ·injection e with e;have:j=k:=by omega
    subst this;exact⟨X9 _,d,by simp,hp⟩
   ·exact jx h
  ·exact jx h
noncomputable def Cpt(ap:Bool)(g g':D):Prop:=(g=.str "fresh"/\∃i,g'=.int i)\/(g'=.str "fresh"/\∃i,g=.int i)\/(ap=true/\∃i j:Int,g=.int i/\g'=.int j/\i≠j)
noncomputable def wqm(ap:Bool)(st:List D):Prop:=(∀(i j:Nat) (z:Str) (g g' t t' f f':D),i<j->st[i]?=some (.tup [.str z,g,t,f])->st[j]?=some (.tup [.str z,g',t',f'])->Cpt ap g g')/\(ap=true->∀(z:Str) (g t:D) (fs:List D),D.tup [.str z,g,t,.tup fs]∈st->FA g fs)
noncomputable def Sgl(ap:Bool)(rs:List D):Prop:=∀(k g:D) (st:List D),D.tup [k,g,.lst st]∈rs->wqm ap st
theorem wq9{ap:Bool}{ks:List D}{p:Int}{g g':D}(hk:∀k∈ks,At k)(ho:ap=true->W1 ks)(hg:Gd ks.length g)(jd:Gd ks.length g')(h:Cpt ap g g')(h1:v7 ks (.int p) g=true)(h2:v7 ks (.int p) g'=true):False:=by
 have rng:∀{i:Int},Gd ks.length (.int i)->0<=i/\i<ks.length:=fun {i} h=>by
  rcases h with h|h|⟨j,a,b,e⟩
  ·cases h
  ·cases h
  ·injection e with e;subst e;exact⟨a,b⟩
 rcases h with⟨rfl,i,rfl⟩|⟨rfl,i,rfl⟩|⟨ha,i,j,rfl,rfl,cx⟩
 ·exact kk2 hk (rng jd).1 (rng jd).2 h1 h2
 ·exact kk2 hk (rng hg).1 (rng hg).2 h2 h1
 ·obtain⟨a0,a1⟩:=rng hg;obtain⟨b0,b1⟩:=rng jd;obtain⟨e1,e2⟩:=qzj hk a0 a1 b0 b1 h1 h2;have at_:∀{n:Int},0<=n->n<ks.length->∀{x:D},ks.getD n.toNat .non=x->ks[n.toNat]?=some x:=fun {n} n0 n1 {x} e=>by
   have:n.toNat<ks.length:=by omega
   rw[X1 this,<-e,X3,X1 this];rfl
  have:=ho ha _ _ p (at_ a0 a1 e1) (at_ b0 b1 e2);omega
theorem vjo{ap:Bool}{ss:List Str}{rs:List D}{kps:List Int}(hR:Rms rs)(hx:Rx ss kps rs)(h3:∀k∈kps,k<=3)(hS:Sgl ap rs):vkh rs ss (λs=>SokV kps V4 s/\(ap=true->W1 (x3 s))):=by
 rintro s ⟨hs,ho⟩ z hz p hp;obtain⟨room,ks,st,gd,rfl,r0,er,b8,fw,gu,jg⟩:=W6 hR hx hs.ok;rw [z8]at ho hp;have nv:=(Vz h3 hs).2;have rq:=kjs ks;have hpV:D.int p∈V4:=by
  obtain⟨i,i0,i1,e⟩:=WZ hp;injection e with e;subst e;have:p=0\/p=1\/p=2\/p=3:=by omega
  rcases this with rfl|rfl|rfl|rfl<;>simp[V4]
 have lh:qX rs (z,p) (.tup [.int room,.tup ks])=(jX (kY z ks (.int p)) 0 st).map (bh ks st p):=by unfold qX;rw[QZ er,z8]
 have hSr:=hS _ _ _ (Xd er);have gz:∀{a:D},a∈st->kY z ks (.int p) a=true->∃(g:D) (to:Int) (fs:List D),a=.tup [.str z,g,.int to,.tup fs]/\Gd ks.length g/\v7 ks (.int p) g=true/\∀f∈fs,Fd ks.length f:=fun {a} ha hc=>by
  obtain⟨w,g,to,fs,rfl,hg,hf,_⟩:=b8 a ha;have hc:((w==z)&&v7 ks (.int p) g)=true:=hc;rw[Bool.and_eq_true]at hc;have hw:w=z:=by simpa using hc.1
  subst hw;exact⟨g,to,fs,rfl,hg,hc.2,hf⟩
 unfold obD;rw [lh];cases hf:jX (kY z ks (.int p)) 0 st with
 | nil=>exact⟨.non,rfl,.inl rfl⟩
 | cons c r=>
  cases r with
  | cons c2 r2=>
   obtain⟨i,j,a,b,md,ha,hb,ca,cb⟩:=qxe hf;obtain⟨g,to,fs,rfl,hg,hfg,_⟩:=gz (Xd ha) ca;obtain⟨g',to',fs',rfl,jd,hfg',_⟩:=gz (Xd hb) cb;exact(wq9 fw ho hg jd (hSr.1 i j z g g' _ _ _ _ md ha hb) hfg hfg').elim
  | nil=>
   obtain⟨j,rfl,_,hj⟩:=V8 (show c∈jX (kY z ks (.int p)) 0 st by rw[hf];exact X2);have hj:j<st.length:=by omega
   have hb:=kjd (p:=p) (V:=V4) b8 fw (by
    obtain⟨bp,ff,e,_,_,_,_,hV⟩:=hs;injection e with e;injection e with e1 e;injection e with e2 _;injection e2 with e2;subst e2;exact hV) (by simp[V4]) hpV gu hj
   refine⟨zW ks (.int p) st[j],by rw[List.map_cons,List.map_nil,W2 hj],.inr ?_⟩;obtain⟨_,a,ha,hpa⟩:=vqd (show D.int j∈jX (kY z ks (.int p)) 0 st by rw[hf];exact X2);rw[Nat.sub_zero,X1 hj]at ha;cases oq9 ha;obtain⟨g,to,fs,e,hg,hfg,hff⟩:=gz (Xk hj) hpa;rw[e]at hb ⊢;have hb:SokV kps V4 (.tup [.int to,.tup (fs.map (vz ks (.int p)))]):=hb;refine⟨.int to,fs.map (vz ks (.int p)),rfl,(Vz h3 hb).1,λlx=>?_⟩;rw[z8];exact vwc (kz8 fw (ho lx) hg hfg hff (hSr.2 lx z g (.int to) fs (by rw[<-e];exact Xk hj)))
end F
namespace F
open Q PySem C
noncomputable def m__law_asks:Fn:=fn 4
  (j4 (sIf (tE (cF2 (pu2 fEq) (j6 (vV 0) (C9 0)) (C9 1))) (jQ (kK .rt [(cC (.str "any"))])) kZ)
  (j4 (jk 3 (kK .rt []))
  (j4 (sIf (tOr (tE (cF2 (pu2 fGt) (j6 (vV 0) (C9 0)) (C9 2))) (tAnd (tE (cF2 (pu2 fEq) (vV 1) (C9 0))) (tE (cF2 (pu2 fGt) (j6 (vV 0) (C9 0)) (C9 0))))) (qw qZ 3 (cC (.str "fresh"))) kZ)
  (j4 (sIf (tAnd (tE (cF2 (pu2 fGt) (vV 1) (C9 0))) (tE (cF2 (pu2 fGt) (j6 (vV 0) (C9 0)) (C9 1)))) (j4 (qw qZ 3 (cF2 (pu2 kQ) (j6 (vV 0) (C9 1)) (vV 1)))
  (sIf (tEQ (vV 2)) (jk 3 (cF2 jJ (vV 3) (vE (cLC .rt 1 [3,0] (wj (vV 1)) (.n 0) (tAnd (tE (cF2 (pu2 z5) (vV 0) (vV 1))) (tE (cF2 (pu2 fEq) (j6 (vV 2) (vE (cF2 jJ (C9 2) (vV 0)))) (C9 1)))) (cV 0))))) kZ)) kZ)
  (j4 (sIf (tE (cF2 (pu2 fEq) (j6 (vV 0) (C9 5)) (C9 1))) (V3 3) kZ)
  (jQ (cMv 3)))))))
theorem vk3{ap:Bool}{g g':D}(h:Cpt ap g g'):Cpt ap g' g:=by
 rcases h with⟨a,b⟩|⟨a,b⟩|⟨a,i,j,b,c,d⟩
 ·exact .inr (.inl ⟨a,b⟩)
 ·exact .inl ⟨a,b⟩
 ·exact .inr (.inr ⟨a,j,i,c,b,λz=>d z.symm⟩)
noncomputable def zJ(ap:Bool)(here:Int)(as:List D):Prop:=as.Pairwise (Cpt ap)/\(∀a∈as,Gd here a)/\as.length<=4
theorem vkd{ap:Bool}{here:Int}{as:List D}(h:zJ ap here as):zJ ap here as.reverse:=⟨by rw[List.pairwise_reverse];exact h.1.imp vk3,λa ha=>h.2.1 a (List.mem_reverse.mp ha),by rw[List.length_reverse];exact h.2.2⟩
theorem vvu{u:Ts}{a b:Sm}{E:En}{N C:En->Prop}{R:Sd->Prop}{X:XP}(h:Eo (u E) (λE' k=>E'=E/\k=false) X)(h2:Po (b E) N C R X):Po (j4 (sIf u a kZ) b E) N C R X:=by
 rw[vkx];unfold sIf;rw[Q2];refine h.mono ?_;rintro E' k ⟨rfl,rfl⟩;show Po (kZ E') _ _ _ _;unfold kZ;rw[ZK];exact h2
theorem wq6{N C:En->Prop}{ap:Bool}{here y5:Int}{ys:List Int}{as:List D}{o0 o1 o2:Own}(f5:jY (iL ys) (.int 5)=some (.int y5))(h:zJ ap here as):
  Po ((j4 (sIf (tE (cF2 (pu2 fEq) (j6 (vV 0) (C9 5)) (C9 1))) (V3 3) kZ) (jQ (cMv 3))) [some (o0,iL ys),some (o1,.int here),some (o2,.bl ap),some (.rt,.lst as)]) N C (λy=>∃as,y=(.rt,.lst as)/\zJ ap here as) noX:=by
 cases hq:(y5==1)with
 |true=>
  simp![f5,xq,hq];refine vzk rfl ?_;simp![];exact⟨_,rfl,vkd h⟩
 |false=>
  simp![f5,xq,hq];exact⟨_,rfl,h⟩
theorem qwd{fs:List D}{a k:Int}(hf:fs=[]\/fs=[.str "fresh"]):z5 (.int k) (.lst (fs++[.int a]))=some (.bl (!(a==k))):=by
 rcases hf with rfl|rfl
 ·show some (D.bl (!((a==k)||false)))=_;rw[Bool.or_false]
 ·show some (D.bl (!(false||((a==k)||false))))=_;rw[Bool.false_or,Bool.or_false]
noncomputable def Ups(a n:Int)(xs:List D):Prop:=xs.Pairwise (λx y=>∃i j:Int,x=.int i/\y=.int j/\i<j)/\∀x∈xs,∃i:Int,x=.int i/\0<=i/\i<n/\i≠a
theorem qzi{here a:Int}{fs xs:List D}(hf:fs=[]\/fs=[.str "fresh"])(ha0:0<=a)(mj:a<here)(hx:Ups a here xs)(hl:xs.length<=2):zJ true here (fs++[.int a]++xs):=by
 have hxs:∀x∈xs,∃i:Int,x=.int i/\0<=i/\i<here/\i≠a:=hx.2;have kh:([D.int a]++xs).Pairwise (Cpt true):=by
  rw[Y7,List.pairwise_cons];refine⟨λx jb=>?_,hx.1.imp fun {x y} ⟨i,j,e1,e2,h⟩=>.inr (.inr ⟨rfl,i,j,e1,e2,by omega⟩)⟩;obtain⟨i,rfl,_,_,h⟩:=hxs x jb;exact .inr (.inr ⟨rfl,a,i,rfl,rfl,λz=>h z.symm⟩)
 have gds:∀x∈[D.int a]++xs,Gd here x:=λx jb=>by
  rcases List.mem_append.mp jb with z|z
  ·rw[List.mem_singleton.mp z];exact .inr (.inr ⟨a,ha0,mj,rfl⟩)
  ·obtain⟨i,rfl,h0,h1,_⟩:=hxs x z;exact .inr (.inr ⟨i,h0,h1,rfl⟩)
 rw [Xp];rcases hf with rfl|rfl
 ·exact⟨kh,gds,by simp;omega⟩
 ·refine⟨?_,λx jb=>?_,by simp;omega⟩
  ·rw[Y7,List.pairwise_cons];refine⟨λx jb=>.inl ⟨rfl,?_⟩,kh⟩;rcases List.mem_append.mp jb with z|z
   ·exact⟨a,List.mem_singleton.mp z⟩
   ·obtain⟨i,e,_⟩:=hxs x z;exact⟨i,e⟩
  ·rcases List.mem_append.mp jb with z|z
   ·rw[List.mem_singleton.mp z];exact .inl rfl
   ·exact gds x z
theorem vjg{here a:Int}{fs:List D}{ap:Bool}(hf:fs=[]\/fs=[.str "fresh"])(ha0:0<=a)(mj:a<here):zJ ap here (fs++[.int a]):=by
 rcases hf with rfl|rfl
 ·exact⟨by simp,λx hx=>by rw[List.mem_singleton.mp hx];exact .inr (.inr ⟨a,ha0,mj,rfl⟩),by simp⟩
 ·refine⟨?_,λx hx=>?_,by simp⟩
  ·simp only[Y7,List.pairwise_cons,List.mem_singleton,Xv];exact⟨λx hx=>.inl ⟨rfl,a,hx⟩,λ_ h=>h.elim,.nil⟩
  ·rcases List.mem_append.mp hx with z|z
   ·rw[List.mem_singleton.mp z];exact .inl rfl
   ·rw[List.mem_singleton.mp z];exact .inr (.inr ⟨a,ha0,mj,rfl⟩)
theorem kwq{here:Int}{fs:List D}{ap:Bool}(hf:fs=[]\/fs=[.str "fresh"]):zJ ap here fs:=by
 rcases hf with rfl|rfl
 ·exact⟨.nil,(λ_ h=>nomatch h),by simp⟩
 ·exact⟨by simp,λx hx=>by rw[List.mem_singleton.mp hx];exact .inl rfl,by simp⟩
theorem wkc{en:Sm}{ap:Bool}{here y0 y1:Int}{ys:List Int}{fs:List D}{o0 o1 o2:Own}{N C:En->Prop}{R:Sd->Prop}(ol:0<=here)(hh3:here<=3)(f0:jY (iL ys) (.int 0)=some (.int y0))(f1:jY (iL ys) (.int 1)=some (.int y1))(f2:∀k:Int,0<=k->k<3->∃v,jY (iL ys) (.int (2+k))=some (.int v))(hf:fs=[]\/fs=[.str "fresh"])
  (lb:∀as,zJ ap here as->Po (en [some (o0,iL ys),some (o1,.int here),some (o2,.bl ap),some (.rt,.lst as)]) N C R noX):
  Po ((j4 (sIf (tAnd (tE (cF2 (pu2 fGt) (vV 1) (C9 0))) (tE (cF2 (pu2 fGt) (j6 (vV 0) (C9 0)) (C9 1)))) (j4 (qw qZ 3 (cF2 (pu2 kQ) (j6 (vV 0) (C9 1)) (vV 1)))
  (sIf (tEQ (vV 2)) (jk 3 (cF2 jJ (vV 3) (vE (cLC .rt 1 [3,0] (wj (vV 1)) (.n 0) (tAnd (tE (cF2 (pu2 z5) (vV 0) (vV 1))) (tE (cF2 (pu2 fEq) (j6 (vV 2) (vE (cF2 jJ (C9 2) (vV 0)))) (C9 1)))) (cV 0))))) kZ)) kZ) en) [some (o0,iL ys),some (o1,.int here),some (o2,.bl ap),some (.rt,.lst fs)]) N C R noX:=by
 have mx:fs.length<=1:=by rcases hf with rfl|rfl<;>simp
 by_cases hc:0<here/\1<y0
 ·have e1:decide (0<here)=true:=Xf hc.1;have e2:decide (1<y0)=true:=Xf hc.2;have q0:=Xu y1 (show here≠0 by omega);have q1:=Xm y1 (show 0<here by omega);simp![e1,f0,e2];refine zj rfl ?_;simp![f1,mod_i (a:=y1) (b:=here) (by omega)];refine⟨_,rfl,by omega,?_⟩;cases ap with
  | false=>
   simp![];exact lb _ (vjg hf q0 q1)
  | true=>
   simp![];refine XQ (λE1 B ds acc=>E1=[some (o0,iL ys),some (o1,.int here),some (o2,.bl true),some (.rt,.lst (fs++[.int (y1 % here)]))]/\(∃q,B=[q,some (.rt,.lst (fs++[.int (y1 % here)])),some (o0,iL ys)])/\∃k:Int,0<=k/\k<=here/\ds=jV k here/\Ups (y1 % here) k (acc.map (·.2))/\(acc.length:Int)<=k/\(y1 % here<k->(acc.length:Int)<=k - 1)) ?_ ?_ ?_
   ·refine Vv ?_;simp![];exact⟨here,rfl,by omega,by omega,⟨none,rfl⟩,0,by omega,ol,rfl,⟨.nil,(λ_ h=>nomatch h)⟩,by simp,λh=>by omega⟩
   ·rintro E1 B d ds acc ⟨rfl,⟨q,rfl⟩,k,k0,k1,hr,hu,hl,si⟩;obtain⟨bj,rfl,rfl⟩:=V1 k1 hr;obtain⟨v,fv⟩:=f2 k k0 (by omega);have up:Ups (y1 % here) (k+1) (acc.map (·.2)):=⟨hu.1,λx hx=>by obtain⟨i,e,a,b,c⟩:=hu.2 x hx;exact⟨i,e,a,by omega,c⟩⟩;cases hq:(y1 % here==k)with
    | true=>
     have hk:y1 % here=k:=by simpa using hq
     simp![qwd hf,hq];exact⟨⟨_,rfl⟩,k+1,by omega,by omega,rfl,up,by omega,λ_=>by omega⟩
    | false=>
     have hk:y1 % here≠k:=by simpa using hq
     cases hv:(v==1)with
     | false=>
      simp![qwd hf,hq,fv,xq,hv];exact⟨⟨_,rfl⟩,k+1,by omega,by omega,rfl,up,by omega,λh=>by have:=si (by omega);omega⟩
     | true=>
      simp![qwd hf,hq,fv,xq,hv];refine⟨⟨_,rfl⟩,k+1,by omega,by omega,rfl,⟨?_,λx hx=>?_⟩,by simp;omega,λh=>by have:=si (by omega);simp;omega⟩
      ·rw[Y0,List.pairwise_append];refine⟨hu.1,by simp,λx hx y hy=>?_⟩;obtain⟨i,e,a,b,c⟩:=hu.2 x hx;exact⟨i,k,e,by simpa using hy,b⟩
      ·rw[Y0]at hx;rcases List.mem_append.mp hx with z|z
       ·exact up.2 x z
       ·exact⟨k,by simpa using z,k0,by omega,λz=>hk z.symm⟩
   ·rintro E1 B acc ⟨rfl,⟨q,rfl⟩,k,k0,k1,hr,hu,hl,si⟩;have:=YX k1 hr;subst this;rw[Q0];simp only[Jk,back,clr,at',List.drop,List.map_cons,List.map_nil,List.set_cons_zero,List.set_cons_succ];have:=si q1;have mw:(acc.map (·.2)).length<=2:=by rw[X5];omega
    simp![Wq (o1:=.rt) (o2:=.no) (a:=fs++[.int (y1 % k)]) (b:=acc.map (·.2)) (by decide) (by decide) (by simp;omega)];exact lb _ (qzi hf q0 q1 hu mw)
 ·by_cases h1:0<here
  ·have e1:decide (0<here)=true:=Xf h1;have e2:decide (1<y0)=false:=Xb (λz=>hc ⟨h1,z⟩);simp![e1,f0,e2];exact lb _ (kwq hf)
  ·have e1:decide (0<here)=false:=Xb h1;simp![e1];exact lb _ (kwq hf)
theorem vjw{en:Sm}{ap:Bool}{here y0:Int}{ys:List Int}{o0 o1 o2:Own}{N C:En->Prop}{R:Sd->Prop}(f0:jY (iL ys) (.int 0)=some (.int y0))
  (lb:∀fs,(fs=[]\/fs=[.str "fresh"])->Po (en [some (o0,iL ys),some (o1,.int here),some (o2,.bl ap),some (.rt,.lst fs)]) N C R noX):
  Po ((j4 (sIf (tOr (tE (cF2 (pu2 fGt) (j6 (vV 0) (C9 0)) (C9 2))) (tAnd (tE (cF2 (pu2 fEq) (vV 1) (C9 0))) (tE (cF2 (pu2 fGt) (j6 (vV 0) (C9 0)) (C9 0))))) (qw qZ 3 (cC (.str "fresh"))) kZ) en) [some (o0,iL ys),some (o1,.int here),some (o2,.bl ap),some (.rt,.lst [])]) N C R noX:=by
 have yes:Po ((qw qZ 3 (cC (.str "fresh"))) [some (o0,iL ys),some (o1,.int here),some (o2,.bl ap),some (.rt,.lst [])]) (λE=>Po (en E) N C R noX) C R noX:=by
  refine zj rfl ?_;simp![];exact⟨_,rfl,by simp,lb _ (.inr rfl)⟩
 by_cases c1:2<y0
 ·have e1:decide (2<y0)=true:=Xf c1;simp![f0,e1];exact yes
 ·have e1:decide (2<y0)=false:=Xb c1;cases c2:(here==0)with
  | false=>
   simp![f0,e1,xq,c2];exact lb _ (.inl rfl)
  | true=>
   by_cases c3:0<y0
   ·have e3:decide (0<y0)=true:=Xf c3;simp![f0,e1,xq,c2,e3];exact yes
   ·have e3:decide (0<y0)=false:=Xb c3;simp![f0,e1,xq,c2,e3];exact lb _ (.inl rfl)
theorem vxi{ap:Bool}{here y0 y1 y5:Int}{ys:List Int}(ol:0<=here)(hh3:here<=3)(f0:jY (iL ys) (.int 0)=some (.int y0))(f1:jY (iL ys) (.int 1)=some (.int y1))(f5:jY (iL ys) (.int 5)=some (.int y5))(f2:∀k:Int,0<=k->k<3->∃v,jY (iL ys) (.int (2+k))=some (.int v)):
  Oo m__law_asks [(.no,iL ys),(.no,.int here),(.no,.bl ap)] (λy=>∃as,y=(.rt,.lst as)/\zJ ap here as) noX:=by
 have tail:∀(N C:En->Prop) fs,(fs=[]\/fs=[.str "fresh"])->Po ((j4 (sIf (tAnd (tE (cF2 (pu2 fGt) (vV 1) (C9 0))) (tE (cF2 (pu2 fGt) (j6 (vV 0) (C9 0)) (C9 1)))) (j4 (qw qZ 3 (cF2 (pu2 kQ) (j6 (vV 0) (C9 1)) (vV 1)))
  (sIf (tEQ (vV 2)) (jk 3 (cF2 jJ (vV 3) (vE (cLC .rt 1 [3,0] (wj (vV 1)) (.n 0) (tAnd (tE (cF2 (pu2 z5) (vV 0) (vV 1))) (tE (cF2 (pu2 fEq) (j6 (vV 2) (vE (cF2 jJ (C9 2) (vV 0)))) (C9 1)))) (cV 0))))) kZ)) kZ)
  (j4 (sIf (tE (cF2 (pu2 fEq) (j6 (vV 0) (C9 5)) (C9 1))) (V3 3) kZ)
  (jQ (cMv 3)))) [some (.no,iL ys),some (.no,.int here),some (.no,.bl ap),some (.rt,.lst fs)]) N C (λy=>∃as,y=(.rt,.lst as)/\zJ ap here as) noX:=λN C fs hf=>wkc ol hh3 f0 f1 f2 hf λas h=>wq6 f5 h
 have all:=vjw (en:=_) (ap:=ap) (here:=here) (o0:=.no) (o1:=.no) (o2:=.no) f0 (tail (λ_=>∃as,((Own.dp,D.non):Sd)=(.rt,.lst as)/\zJ ap here as) (λ_=>False));unfold m__law_asks;refine qx ?_;cases h1:(y0==1)with
 | true=>
  simp![f0,xq,h1];exact⟨_,rfl,by simp,λa ha=>by rw[List.mem_singleton.mp ha];exact .inr (.inl rfl),by simp⟩
 | false=>
  refine vvu (E:=[some (.no,iL ys),some (.no,.int here),some (.no,.bl ap),none]) ?_ ?_
  ·simp![f0,xq,h1]
  ·rw[w_seq,w_asg,eo_lst,args_nil];exact all
end F
namespace F
open Q PySem C
noncomputable def m__law_fills:Fn:=fn 9
  (j4 (jk 5 (cF2 jJ (vE (kK .rt [(cC (.str "new")),(cC .non)])) (vE (Wk (vV 2)))))
  (j4 (jk 6 (kK .rt []))
  (j4 (wW (itS (cSl (vV 0) none (some (vV 3)))) (.n 7) (j4 (jk 8 (cH (j6 (vV 5) (vE (cF2 (pu2 kQ) (vV 7) (vE (cF1 (pu1 v9) (vV 5))))))))
  (j4 (sIf (tAnd (tEQ (vV 4)) (tE (cF2 (f2First fNotNon) (vV 8) (vE (cC .non))))) (sIf (tOr (tE (cF2 (pu2 KQ) (vV 8) (vV 6))) (tOr (tAnd (tE (cF2 (pu2 fEq) (vV 8) (vE (cC (.str "new"))))) (tOr (tE (cF2 (pu2 fEq) (vV 1) (vE (cC (.str "any"))))) (tE (cF2 (pu2 KQ) (vV 1) (vV 6))))) (tAnd (tE (cF2 (pu2 fEq) (vV 8) (vV 1))) (tE (cF2 (pu2 KQ) (vE (cC (.str "new"))) (vV 6)))))) (jk 8 (cC .non)) kZ) kZ)
  (qw qZ 6 (cV 8)))))
  (jQ (cF1 Jz (vV 6))))))
noncomputable def Ak(d:D):Prop:=At d\/∃z,d=.str z
theorem vq0{a b:D}(ha:Ak a)(hb:Ak b):peq a b=decide (a=b):=by
 rcases ha with ha|⟨z,rfl⟩
 ·rcases hb with hb|⟨w,rfl⟩
  ·exact qvx ha hb
  ·rcases ha with rfl|⟨i,rfl⟩<;>simp[peq]
 ·rcases hb with hb|⟨w,rfl⟩
  ·rcases hb with rfl|⟨i,rfl⟩<;>simp[peq]
  ·show(z==w)=_
   by_cases h:z=w
   ·subst h;simp
   ·rw[Xb (λe=>h (by injection e))];simpa using h
theorem kvq{d:D}{n:Nat}(h:Ak d):d.flat n=true:=by
 rcases h with h|⟨z,rfl⟩
 ·exact h.flat
 ·cases n<;>rfl
theorem vqk{x:D}(hx:Ak x):∀{K:List D},(∀s∈K,Ak s)->(K.any λz=>peq z x)=decide (x∈K)
 | [],_=>by simp
 | k::K,h=>by
  rw[List.any_cons,vq0 (h k X2) hx,vqk hx (λs hs=>h s (lc9 _ hs))]
  by_cases e1:k=x
  ·simp[e1]
  ·have e3:¬x=k:=λz=>e1 z.symm
   by_cases e2:x∈K<;>simp[e1,e2,e3]
theorem zz{x:D}{K:List D}(hx:Ak x)(hK:∀s∈K,Ak s):KQ x (.lst K)=some (.bl (decide (x∈K))):=by
 show(if x.flat 30&&D.flats 30 K then some (D.bl (K.any λz=>peq z x))else none)=_;rw[kvq hx,wZ (λk hk=>kvq (hK k hk)),vqk hx hK];rfl
theorem xK{a b:D}(ha:Ak a)(hb:Ak b):fEq a b=some (.bl (decide (a=b))):=by
 unfold fEq;rw[kvq ha,kvq hb,vq0 ha hb];rfl
theorem wwl{n:Int}{g:D}(h:Gd n g):Ak g:=by
 rcases h with rfl|rfl|⟨i,_,_,rfl⟩
 ·exact .inr ⟨_,rfl⟩
 ·exact .inr ⟨_,rfl⟩
 ·exact .inl (.inr ⟨i,rfl⟩)
theorem wq3{n:Int}{g:D}(h:Fd n g):Ak g:=by
 rcases h with rfl|rfl|⟨i,_,_,rfl⟩
 ·exact .inr ⟨_,rfl⟩
 ·exact .inl (.inl rfl)
 ·exact .inl (.inr ⟨i,rfl⟩)
theorem kvi{n:Int}{g f:D}{fs:List D}(hg:Gd n g)(h:FA g fs)(h1:f=.non\/f∉fs)(h2:f=.str "new"->g≠.str "any"/\g∉fs)(h3:f=g->D.str "new"∉fs):FA g (fs++[f]):=by
 have gn:g≠.non/\g≠.str "new":=by
  rcases hg with rfl|rfl|⟨i,_,_,rfl⟩
  ·exact⟨(λz=>nomatch z),by intro z;injection z with z;exact absurd z (by decide)⟩
  ·exact⟨(λz=>nomatch z),by intro z;injection z with z;exact absurd z (by decide)⟩
  ·exact⟨(λz=>nomatch z),(λz=>nomatch z)⟩
 refine⟨λi j d hd hi hj=>?_,λhn=>?_⟩
 ·have key:∀{i:Nat},(fs++[f])[i]?=some d->fs[i]?=some d\/(i=fs.length/\d=f):=fun {i} hi=>by
   rw[List.getElem?_append]at hi
   split at hi
   ·exact .inl hi
   ·rename_i bj
    by_cases e:i - fs.length=0
    ·rw[e]at hi;exact .inr ⟨by omega,by simpa using hi.symm⟩
    ·rw[List.getElem?_eq_none (by simp;omega)]at hi;cases hi
  rcases key hi with a|⟨a,rfl⟩
  ·rcases key hj with b|⟨b,rfl⟩
   ·exact h.1 i j d hd a b
   ·rcases h1 with z|z
    ·exact absurd z hd
    ·exact absurd (Xd a) z
  ·rcases key hj with b|⟨b,_⟩
   ·rcases h1 with z|z
    ·exact absurd z hd
    ·exact absurd (Xd b) z
   ·omega
 ·rcases List.mem_append.mp hn with a|a
  ·obtain⟨c1,c2⟩:=h.2 a;refine⟨c1,λz=>?_⟩;rcases List.mem_append.mp z with z|z
   ·exact c2 z
   ·exact h3 (List.mem_singleton.mp z).symm a
  ·have a:=(List.mem_singleton.mp a).symm;obtain⟨c1,c2⟩:=h2 a;refine⟨c1,λz=>?_⟩;rcases List.mem_append.mp z with z|z
   ·exact c2 z
   ·exact gn.2 ((List.mem_singleton.mp z).trans a)
theorem wq4{g:D}:FA g []:=⟨(λi j f _ h=>by simp at h),(λh=>nomatch h)⟩
noncomputable def FAb(ap:Bool)(g:D)(fs:List D):Prop:=ap=true->FA g fs
inductive FJ1 (zs:List Int)(g:D)(here there:Int)(ap:Bool)(LL:List D):En->List D->Prop
 |mk (fs:List D) (ws:List Int) {l7:Option Sd} {l8:Option Sd} {jx:List D} (h0:jx=ws.map D.int) (h1:(fs.length+ws.length:Int)=there) (h2:(∀f∈fs,Fd here f)) (h3:FAb ap g fs):FJ1 zs g here there ap LL [some (.no,iL zs),some (.no,g),some (.no,.int here),some (.no,.int there),some (.no,.bl ap),some (.rt,.lst LL),some (.rt,.lst fs),l7,l8] jx
theorem vjy {ap:Bool} {zs:List Int} {g:D} {here there:Int} (h0:0<=here) (h3:here<=3) (t0:0<=there) (t3:there<=3) (hz:zs.length=3) (hg:Gd here g):
  Oo m__law_fills [(.no,iL zs),(.no,g),(.no,.int here),(.no,.int there),(.no,.bl ap)] (λy=>∃fs,y=(.no,.tup fs)/\(∀f∈fs,Fd here f)/\(fs.length:Int)=there/\FAb ap g fs) noX:=by
 have og:=kze (k:=0) (n:=here) h0;have fh:jJ (.no,.lst [.str "new",.non]) (.no,.lst (jV 0 here))=some (.rt,.lst ([.str "new",.non]++jV 0 here)):=Wq (by decide) (by decide) (by simp;omega);have km:((([.str "new",.non]++jV 0 here:List D).length:Nat):Int)=2+here:=by simp;omega
 have hLm:∀d∈([.str "new",.non]++jV 0 here:List D),Fd here d:=λd hd=>by
  rcases List.mem_append.mp hd with z|z
  ·rcases List.mem_cons.mp z with rfl|z
   ·exact .inl rfl
   ·rw [List.mem_singleton.mp z];exact .inr (.inl rfl)
  ·obtain⟨i,i0,i1,rfl⟩:=WZ z;exact .inr (.inr ⟨i,i0,i1,rfl⟩)
 generalize ([.str "new",.non]++jV 0 here:List D)=LL at fh km hLm;have cw:Ak (.str "new"):=.inr ⟨_,rfl⟩;have ku:Ak (.str "any"):=.inr ⟨_,rfl⟩;have m6:=wwl hg;unfold m__law_fills;refine qx ?_;simp![fh];refine Jq (FJ1 zs g here there ap LL) ?_ ?_ ?_
 ·simp![vze (o:=.no) (xs:=zs.map D.int) (lo:=none) (hi:=some there) (by decide)];refine ⟨[],zs.take there.toNat,?_,?_,(λf hf=>nomatch hf),λ_=>wq4⟩
  ·rw [wq8 t0 (by simp;omega),List.map_take]
  ·simp;omega
 ·rintro E d ds ⟨fs,ws,hr,hl,hfs,iw⟩;cases ws with
  | nil=>cases hr
  | cons w ws=>
   rw [List.map_cons]at hr;injection hr with e1 e2;subst e1 e2;rw [Xn]at hl;have q0:=Xu w (show 2+here≠0 by omega);have q1:=Xm w (show 0<2+here by omega);have fu:=wwf LL (w % (2+here)) q0 (by omega);have ie:=hLm _ (J6 LL (w % (2+here)) q0 (by omega));generalize LL.getD (w % (2+here)).toNat .non=one at fu ie;have jo:∀s∈fs,Ak s:=λs hs=>wq3 (hfs s hs)
   have hok:=wq3 ie;have fin:∀(o8:Own) (o:D),Fd here o->FAb ap g (fs++[o])->Po (qw qZ 6 (cV 8) [some (.no,iL zs),some (.no,g),some (.no,.int here),some (.no,.int there),some (.no,.bl ap),some (.rt,.lst LL),some (.rt,.lst fs),some (.no,.int w),some (o8,o)]) (λE=>FJ1 zs g here there ap LL E (ws.map D.int)) (λE=>FJ1 zs g here there ap LL E (ws.map D.int)) (λy=>∃fs,y=(.no,.tup fs)/\(∀f∈fs,Fd here f)/\(fs.length:Int)=there/\FAb ap g fs) noX:=λo8 o ho ha=>by
    refine zj rfl ?_;simp![];refine⟨_,rfl,by omega,_,ws,rfl,by simp;omega,λf hf=>?_,ha⟩;rcases List.mem_append.mp hf with z|z
    ·exact hfs f z
    ·rw [List.mem_singleton.mp z];exact ho
   have ja:ap=true->∀o8,Po (qw qZ 6 (cV 8) [some (.no,iL zs),some (.no,g),some (.no,.int here),some (.no,.int there),some (.no,.bl ap),some (.rt,.lst LL),some (.rt,.lst fs),some (.no,.int w),some (o8,.non)]) _ _ _ noX:=λlx o8=>fin o8 .non (.inr (.inl rfl)) λh=>kvi hg (iw h) (.inl rfl) (λz=>nomatch z) (λz=>by rw[<-z]at hg;rcases hg with z|z|⟨_,_,_,z⟩<;>cases z)
   cases ap with
   | false=>
    simp![km,mod_i (a:=w) (b:=2+here) (by omega),fu];exact fin _ one ie (λh=>nomatch h)
   | true=>
    rcases ie with rfl|rfl|⟨i,i0,i1,rfl⟩
    ·by_cases c1:D.str "new"∈fs
     ·simp![km,mod_i (a:=w) (b:=2+here) (by omega),fu,zz hok jo,Xf c1];exact ja rfl _
     ·by_cases c2:g=.str "any"
      ·simp![km,mod_i (a:=w) (b:=2+here) (by omega),fu,zz hok jo,Xb c1,xK m6 ku,Xf c2,xK cw cw];exact ja rfl _
      ·by_cases c3:g∈fs
       ·simp![km,mod_i (a:=w) (b:=2+here) (by omega),fu,zz hok jo,Xb c1,xK m6 ku,Xb c2,zz m6 jo,Xf c3,xK cw cw];exact ja rfl _
       ·have c4:¬(D.str "new"=g):=λz=>by
         rw[<-z]at hg;rcases hg with z|z|⟨_,_,_,z⟩
         ·injection z with z;exact absurd z (by decide)
         ·injection z with z;exact absurd z (by decide)
         ·cases z
        simp![km,mod_i (a:=w) (b:=2+here) (by omega),fu,zz hok jo,Xb c1,xK m6 ku,Xb c2,zz m6 jo,Xb c3,xK cw cw,xK cw m6,Xb c4];exact fin _ _ (.inl rfl) λ_=>kvi hg (iw rfl) (.inr c1) (λ_=>⟨c2,c3⟩) (λz=>absurd z c4)
    ·simp![km,mod_i (a:=w) (b:=2+here) (by omega),fu];exact ja rfl _
    ·have ie:Fd here (.int i):=.inr (.inr ⟨i,i0,i1,rfl⟩);have c0:¬(D.int i=.str "new"):=λz=>nomatch z
     by_cases c1:D.int i∈fs
     ·simp![km,mod_i (a:=w) (b:=2+here) (by omega),fu,zz hok jo,Xf c1];exact ja rfl _
     ·by_cases c2:D.int i=g
      ·by_cases c3:D.str "new"∈fs
       ·simp![km,mod_i (a:=w) (b:=2+here) (by omega),fu,zz hok jo,Xb c1,xK hok cw,Xb c0,xK hok m6,Xf c2,zz cw jo,Xf c3];exact ja rfl _
       ·simp![km,mod_i (a:=w) (b:=2+here) (by omega),fu,zz hok jo,Xb c1,xK hok cw,Xb c0,xK hok m6,Xf c2,zz cw jo,Xb c3];exact fin _ _ ie λ_=>kvi hg (iw rfl) (.inr c1) (λz=>absurd z c0) (λ_=>c3)
      ·simp![km,mod_i (a:=w) (b:=2+here) (by omega),fu,zz hok jo,Xb c1,xK hok cw,Xb c0,xK hok m6,Xb c2];exact fin _ _ ie λ_=>kvi hg (iw rfl) (.inr c1) (λz=>absurd z c0) (λz=>absurd z c2)
 ·rintro E ⟨fs,ws,hr,hl,hfs,iw⟩;cases ws with
  |cons=>cases hr
  |nil=>
   simp![Wj (o:=.rt) (xs:=fs) (by decide)];exact⟨fs,rfl,hfs,by simpa using hl,iw⟩
theorem vwp(i:Int)(h0:0<=i)(h1:i<26):jY (.str "abcdefghijklmnopqrstuvwxyz") (.int i)=some (.str ⟨#[ltr.getD i.toNat 0]⟩):=by
 obtain⟨n,rfl⟩:=Int.eq_ofNat_of_zero_le h0;have h26:ltr.length=26:=by decide +kernel
 have hn:n<ltr.length:=by omega
 have hs:(("abcdefghijklmnopqrstuvwxyz":Str).cps.size:Int)=26:=by decide +kernel
 show((Q.ixN ("abcdefghijklmnopqrstuvwxyz":Str).cps.size n).bind λj=>(ltr[j]?).map λc=>D.str ⟨#[c]⟩)=_;unfold Q.ixN;rw[Xa h0,Xa (by omega)];show((ltr[n]?).map λc=>D.str ⟨#[c]⟩)=_;rw[X1 hn,X3,Yg,X1 hn];rfl
theorem vwh:∀i<26,∀j<26,ltr.getD i 0=ltr.getD j 0->i=j:=by decide +kernel
noncomputable def Ltr(b st:Int)(at_:Nat)(i:Nat)(z:Str):Prop:=z.cps.toList[at_]?=some (ltr.getD ((b+i*(st+1)) % 26).toNat 0)
inductive FJ2 (x n sz am st b:Int):En->List D->Prop
 |mk (k:Int) (ss:List Str) {l7:Option Sd} {l8:Option Sd} {l9:Option Sd} {ij:Option Sd} {jx:List D} (h0:0<=k) (h1:k<=n) (h2:jx=jV k n) (h3:(ss.length:Int)=k) (h4:∀i:Nat,i<ss.length->Ltr b st am.toNat i (ss.getD i "")):FJ2 x n sz am st b [some (.no,.int x),some (.no,.int n),some (.dp,.str "abcdefghijklmnopqrstuvwxyz"),some (.no,.int sz),some (.dp,.int am),some (.no,.int st),some (.rt,sL ss),l7,l8,l9,ij] jx
inductive FJ3 (x n sz am st b k:Int)(ss:List Str):En->List D->Prop
 |mk (j:Int) (z:Str) {l9:Option Sd} {ij:Option Sd} {o8:Own} {jx:List D} (h0:0<=j) (h1:j<=sz+1) (h2:jx=jV j (sz+1)) (h3:(z.cps.size:Int)=j) (h4:(am<j->Ltr b st am.toNat ss.length z)):FJ3 x n sz am st b k ss [some (.no,.int x),some (.no,.int n),some (.dp,.str "abcdefghijklmnopqrstuvwxyz"),some (.no,.int sz),some (.dp,.int am),some (.no,.int st),some (.rt,sL ss),some (.no,.int k),some (o8,.str z),l9,ij] jx
end F
namespace F
open Q PySem C
noncomputable def m__law_single(dr:Fn):Fn:=fn 15
  (j4 (jk 3 (jK C.m__law_digits [(jK dr [(cV 0),(cV 1)]),(cF2 jJ (vE (cF2 jJ (vE (kK .rt [(cC (.int 4)),(cC (.int 8)),(cC (.int 2))])) (vE (cF2 kX (vE (kK .rt [(cC (.int 12))])) (C9 4))))) (vE (cF2 kX (vE (kK .rt [(cC (.int 2))])) (C9 4))))]))
  (j4 (jk 4 (cF2 jJ (C9 1) (j6 (vV 3) (C9 0))))
  (j4 (jk 5 (cLC .rt 1 [3] (wj (vV 4)) (.n 0) tYes (cF2 (pu2 kQ) (j6 (vV 1) (vE (cF2 jJ (C9 3) (vV 0)))) (vE (cF2 jJ (C9 3) (vE (cF1 (pu1 JV) (vE (cF2 (pu2 fEq) (j6 (vV 1) (C9 1)) (C9 3))))))))))
  (j4 (jk 6 (kK .rt []))
  (j4 (wW (wj (vV 4)) (.n 7) (j4 (jk 8 (kK .rt []))
  (j4 (wW (wj (vE (cF1 (pu1 v9) (vV 2)))) (.n 9) (j4 (jk 10 (jK dr [(cV 0),(cF2 jJ (vE (cF2 jJ (vE (cF2 jJ (vV 1) (C9 1))) (vE (cF2 kX (vV 7) (vE (cF1 (pu1 v9) (vV 2))))))) (vV 9))]))
  (j4 (jk 10 (jK C.m__law_digits [(cV 10),(cF2 jJ (vE (kK .rt [(cC (.int 8)),(cC (.int 12)),(cC (.int 2)),(cC (.int 2)),(cC (.int 2)),(cC (.int 2))])) (vE (cF2 kX (vE (kK .rt [(cC (.int 12)),(cC (.int 60)),(cC (.int 60)),(cC (.int 60))])) (C9 4))))]))
  (wW (wkr (jK m__law_asks [(cV 10),(cH (j6 (vV 5) (vV 7))),(cF2 (pu2 fEq) (j6 (vV 3) (C9 2)) (C9 1))])) (.t [11,12]) (j4 (jk 13 (cF2 (pu2 kQ) (j6 (vV 10) (vE (cF2 jJ (C9 6) (vE (cF2 kX (C9 4) (vV 11)))))) (vV 4)))
  (j4 (jk 14 (jK m__law_fills [(cSl (vV 10) (some (vE (cF2 jJ (C9 7) (vE (cF2 kX (C9 4) (vV 11)))))) (some (vE (cF2 jJ (C9 10) (vE (cF2 kX (C9 4) (vV 11))))))),(cV 12),(cH (j6 (vV 5) (vV 7))),(cH (j6 (vV 5) (vV 13))),(cF2 (pu2 fEq) (j6 (vV 3) (C9 2)) (C9 1))]))
  (qw qZ 8 (qQ .no [(cH (j6 (vV 2) (vV 9))),(cV 12),(cV 13),(cV 14)]))))))))
  (qw qZ 6 (qQ .no [(cH (j6 (vV 5) (vV 7))),(cF2 (pu2 fEq) (j6 (vV 3) (vE (cF2 jJ (C9 7) (vV 7)))) (C9 1)),(cV 8)])))))
  (jQ (qQ .no [(qQ .no [(cF1 JJ (vV 2)),(cV 6)]),(cF2 jJ (vE (cF2 jJ (vV 1) (C9 1))) (vE (cF2 kX (vV 4) (vE (cF1 (pu1 v9) (vV 2))))))])))))))
theorem vxb{ys:List Int}{lo n:Int}(h0:0<=lo)(h1:0<=n)(h2:lo+n<=ys.length):Jj (ys.map D.int) (some lo) (some (lo+n))=((ys.drop lo.toNat).take n.toNat).map D.int:=by
 unfold Jj zY;dsimp only;rw[Xe (by omega),Xe (by omega),X5,List.map_take,List.map_drop]
 congr 1
 ·omega
 ·congr 1
  omega
theorem vqy{ap:Bool}{ss:List Str}{j:Nat}(hj:j<ss.length)(mr:ss.Nodup){st ip as:List D}(h:wqm ap st)(qy:∀s∈st,∃i,i<j/\∃(hi:i<ss.length) (g t f:D),s=.tup [.str ss[i],g,t,f])(has:as.Pairwise (Cpt ap))(fh:∀(i:Nat) (d:D),ip[i]?=some d->∃(g t:D) (fs:List D),as[i]?=some g/\d=.tup [.str ss[j],g,t,.tup fs]/\(ap=true->FA g fs)):wqm ap (st++ip):=by
 have dif:∀{i:Nat} (hi:i<ss.length),i<j->ss[i]≠ss[j]:=fun {i} hi md e=>by
  exact List.pairwise_iff_getElem.mp mr i j hi hj md e
 refine⟨λi k z g g' t t' f f' hik hi hk=>?_,λlx z g t fs hm=>?_⟩
 ·rw[List.getElem?_append]at hi hk
  split at hk
  ·rw[Xa (by omega)]at hi;exact h.1 i k z g g' t t' f f' hik hi hk
  ·split at hi
   ·obtain⟨i',h1,h2,_,_,_,e⟩:=qy _ (Xd hi);obtain⟨_,_,_,_,e2,_⟩:=fh _ _ hk;injection e with e;injection e with e _;injection e with e;injection e2 with e2;injection e2 with e2 _;injection e2 with e2;exact absurd (e.symm.trans e2) (dif h2 h1)
   ·obtain⟨ga,_,_,a1,e1,_⟩:=fh _ _ hi;obtain⟨gb,_,_,a2,e2,_⟩:=fh _ _ hk;injection e1 with e1;injection e1 with _ e1;injection e1 with e1 _;injection e2 with e2;injection e2 with _ e2;injection e2 with e2 _;subst e1 e2;obtain⟨b1,c1⟩:=List.getElem?_eq_some_iff.mp a1;obtain⟨b2,c2⟩:=List.getElem?_eq_some_iff.mp a2;have:=(List.pairwise_iff_getElem.mp has) _ _ b1 b2 (by omega);rw[c1,c2]at this;exact this
 ·rcases List.mem_append.mp hm with q|q
  ·exact h.2 lx z g t fs q
  ·obtain⟨i,hi⟩:=List.mem_iff_getElem?.mp q;obtain⟨_,_,_,_,e,ha⟩:=fh _ _ hi;injection e with e;injection e with _ e;injection e with e1 e;injection e with _ e;injection e with e _;injection e with e;subst e1 e;exact ha lx
inductive SJ1 (ns:List Int)(a:Int)(ss:List Str)(hs ks:List Int)(v0:Int)(ap:Bool):En->List D->Prop
 |mk (r:Nat) (rs:List D) {l7 l8 l9 ij sf qe qh qp:Option Sd} {jx:List D} (h1:jx=jV r (1+v0)) (h2:(r:Int)<=1+v0) (h3:rs.length=r) (h4:∀i:Nat,i<r->∃(gd:Bool) (st:List D),rs[i]?=some (.tup [.int (ks.getD i 0),.bl gd,.lst st])/\(∀s∈st,St (ks.getD i 0) s/\Sx ss ks s)/\st.length<=12/\wqm ap st):SJ1 ns a ss hs ks v0 ap [some (.no,iL ns),some (.no,.int a),some (.no,sL ss),some (.rt,iL hs),some (.dp,.int (1+v0)),some (.rt,iL ks),some (.rt,.lst rs),l7,l8,l9,ij,sf,qe,qh,qp] jx
noncomputable def Sgn(ss:List Str)(j:Nat)(st:List D):Prop:=∀s∈st,∃i,i<j/\∃(hi:i<ss.length) (g t f:D),s=.tup [.str ss[i],g,t,f]
inductive SJ2 (ns:List Int)(a:Int)(ss:List Str)(hs ks:List Int)(v0:Int)(ap:Bool)(rs:List D)(r:Nat)(here:Int):En->List D->Prop
 |mk (j:Nat) (st:List D) {l9 ij sf qe qh qp:Option Sd} {jx:List D} (h1:jx=jV j ss.length) (h2:j<=ss.length) (h3:∀s∈st,St here s/\Sx ss ks s) (h4:st.length<=4*j) (h5:wqm ap st) (h6:Sgn ss j st):SJ2 ns a ss hs ks v0 ap rs r here [some (.no,iL ns),some (.no,.int a),some (.no,sL ss),some (.rt,iL hs),some (.dp,.int (1+v0)),some (.rt,iL ks),some (.rt,.lst rs),some (.no,.int r),some (.rt,.lst st),l9,ij,sf,qe,qh,qp] jx
noncomputable def Ads(ss:List Str)(j:Nat)(hj:j<ss.length)(ap:Bool)(as ip:List D):Prop:=∀(i:Nat) (d:D),ip[i]?=some d->∃(g t:D) (fs:List D),as[i]?=some g/\d=.tup [.str ss[j],g,t,.tup fs]/\(ap=true->FA g fs)
inductive SJ3 (ns:List Int)(a:Int)(ss:List Str)(hs ks:List Int)(v0:Int)(ap:Bool)(rs:List D)(r:Nat)(here:Int)(st:List D)(j:Nat)(hj:j<ss.length)(ys:List Int):En->List D->Prop
 |mk (k:Nat) (as ip bn:List D) {sf qe qh qp:Option Sd} {jx:List D} (h0:bn=st++ip) (h1:zJ ap here as) (h2:k<=as.length) (h3:jx=xx k (as.drop k)) (h4:ip.length=k) (h5:∀s∈ip,St here s/\Sx ss ks s) (h6:Ads ss j hj ap as ip):SJ3 ns a ss hs ks v0 ap rs r here st j hj ys [some (.no,iL ns),some (.no,.int a),some (.no,sL ss),some (.rt,iL hs),some (.dp,.int (1+v0)),some (.rt,iL ks),some (.rt,.lst rs),some (.no,.int r),some (.rt,.lst bn),some (.no,.int j),some (.no,iL ys),sf,qe,qh,qp] jx
theorem single_ok12 {dr:Fn} (hdr:Dr dr) (ns:List Int) (a:Int) (ss:List Str) (ha:0<=a) (oh:a<=100) (hs:1<=ss.length) (fk:ss.length<=3) (mr:ss.Nodup):Oo (m__law_single dr) [(.no,iL ns),(.no,.int a),(.no,sL ss)] (λy=>∃rs at_,y=(.no,.tup [q9 ss rs,.int at_])/\Rms rs/\a<=at_/\at_<=a+13/\∃kps:List Int,Rx ss kps rs/\(∀k∈kps,0<=k/\k<=3)/\∃ap,Sgl ap rs/\∀k g st,D.tup [k,g,.lst st]∈rs->st.length<=12) noX:=by
 have m1:J3 (.no,.lst [.int 12]) (.no,.int 4)=some (.rt,.lst [.int 12,.int 12,.int 12,.int 12]):=rfl;have m2:J3 (.no,.lst [.int 2]) (.no,.int 4)=some (.rt,.lst [.int 2,.int 2,.int 2,.int 2]):=rfl;have m3:J3 (.no,.lst [.int 12,.int 60,.int 60,.int 60]) (.no,.int 4)=some (.rt,.lst [.int 12,.int 60,.int 60,.int 60,.int 12,.int 60,.int 60,.int 60,.int 12,.int 60,.int 60,.int 60,.int 12,.int 60,.int 60,.int 60]):=rfl;have p1':jJ (.no,.lst [.int 4,.int 8,.int 2]) (.no,.lst [.int 12,.int 12,.int 12,.int 12])=some (.rt,.lst [.int 4,.int 8,.int 2,.int 12,.int 12,.int 12,.int 12]):=rfl;have p2':jJ (.no,.lst [.int 4,.int 8,.int 2,.int 12,.int 12,.int 12,.int 12]) (.no,.lst [.int 2,.int 2,.int 2,.int 2])=some (.rt,.lst [.int 4,.int 8,.int 2,.int 12,.int 12,.int 12,.int 12,.int 2,.int 2,.int 2,.int 2]):=rfl;have p3':jJ (.no,.lst [.int 8,.int 12,.int 2,.int 2,.int 2,.int 2]) (.no,.lst [.int 12,.int 60,.int 60,.int 60,.int 12,.int 60,.int 60,.int 60,.int 12,.int 60,.int 60,.int 60,.int 12,.int 60,.int 60,.int 60])=some (.rt,.lst [.int 8,.int 12,.int 2,.int 2,.int 2,.int 2,.int 12,.int 60,.int 60,.int 60,.int 12,.int 60,.int 60,.int 60,.int 12,.int 60,.int 60,.int 60,.int 12,.int 60,.int 60,.int 60]):=rfl;unfold m__law_single;refine qx ?_;simp![];refine (hdr ns a ha (by omega)).use ?_;intro x _;simp![m1,m2,p1',p2'];refine (Zz x [4,8,2,12,12,12,12,2,2,2,2] (by decide) (by decide)).use ?_;intro iz hd;obtain ⟨v0,e0,a0,b0⟩:=dg hd 0 (by decide) (by decide);obtain ⟨v1,e1,a1,b1⟩:=dg hd 1 (by decide) (by decide);obtain ⟨v2,e2,a2,b2⟩:=dg hd 2 (by decide) (by decide);have b0:v0<4:=b0;have b1:v1<8:=b1;simp![e0];refine ZV [some (.rt,iL iz)] (λ_ y=>∃i,y=(.dp,.int i)/\0<=i/\i<=3) ?_;refine Vv ?_;simp![];refine ⟨_,rfl,by omega,by omega,rfl,λd lz=>?_,λys hy=>?_⟩
 ·obtain⟨i,i0,i1,rfl⟩:=WZ lz;obtain⟨w,ew,aw,bw⟩:=dg hd (3+i) (by omega) (by simp;omega);obtain⟨q,hq,q0,q1⟩:=fint (v1==3);have r0:=Xu w (show 3+q≠0 by omega);have r1:=Xm w (show 0<3+q by omega);simp![ew,e1,xq,hq,mod_i (a:=w) (b:=3+q) (by omega)];exact ⟨⟨_,rfl⟩,_,rfl,by omega,by omega⟩
 obtain ⟨ks,h1,h2,fq⟩:=kkd (S:=λi=>0<=i/\i<=3) (λd y ⟨i,h,s⟩=>⟨i,by rw[h],s⟩) hy;have hkl:(ks.length:Int)=1+v0:=by rw[h2,kze (by omega)];omega
 rw [Q0,h1];simp only[back,clr,at',List.map_cons,List.map_nil,List.set_cons_zero,List.set_cons_succ];generalize lx:(v2==1)=ap;simp![];refine Jq (SJ1 ns a ss iz ks v0 ap) ?_ ?_ ?_
 ·refine Vv ?_;simp![];exact ⟨_,rfl,by omega,by omega,.mk 0 [] rfl (by omega) rfl λi hi=>absurd hi (Nat.not_lt_zero _)⟩
 ·rintro E d ds ⟨r,rs,hr,mi,og,hrs⟩;obtain⟨bj,rfl,rfl⟩:=V1 mi hr;obtain⟨here,eh,⟨ol,hh1⟩,hhg⟩:=ixI ks _ fq r (by omega) (by omega);have hhg:ks[r]?=some here:=by simpa using hhg
  have hge:ks.getD r 0=here:=by rw[X3,hhg];rfl
  obtain⟨g7,e7,_,_⟩:=dg hd (7+r) (by omega) (by simp;omega);simp![];refine Jq (SJ2 ns a ss iz ks v0 ap rs r here) ?_ ?_ ?_
  ·refine Vv ?_;simp![];exact⟨ss.length,by simp,by omega,by omega,.mk 0 [] rfl (by omega) (λs hs=>nomatch hs) (by simp) ⟨(λi k z g g' t t' f f' _ h=>by simp at h),(λ_ _ _ _ _ h=>nomatch h)⟩ (λs hs=>nomatch hs)⟩
  ·rintro E d ds2 ⟨j,st,hr2,hj,b8,hstl,hsgl,qy⟩;obtain⟨hjlt,rfl,rfl⟩:=V1 (by omega) hr2;have o7:j<ss.length:=by omega
   have gu:jY (sL ss) (.int j)=some (.str ss[j]):=wq (by omega) (by simp[o7]);have hrj:(r:Int)*(ss.length:Int)<=3*3:=Int.mul_le_mul (by omega) (by omega) (by omega) (by decide);have hrj0:0<=(r:Int)*(ss.length:Int):=Int.mul_nonneg (by omega) (by omega);simp![];refine(hdr ns (a+1+r*ss.length+j) (by omega) (by omega)).use ?_;intro x2 _;simp![m3,p3'];refine(Zz x2 [8,12,2,2,2,2,12,60,60,60,12,60,60,60,12,60,60,60,12,60,60,60] (by decide) (by decide)).use ?_;intro oz ou;obtain⟨y0,f0,g0,g0'⟩:=dg ou 0 (by decide) (by decide);obtain⟨y1,f1,g1,_⟩:=dg ou 1 (by decide) (by decide);obtain⟨y5,f5,g5,_⟩:=dg ou 5 (by decide) (by decide);simp![];refine Jq (SJ3 ns a ss iz ks v0 ap rs r here st j o7 oz) ?_ ?_ ?_
   ·simp![eh,e2,xq,lx];refine(vxi ol hh1 f0 f1 f5 (λk k0 k1=>by obtain⟨v,hv,_⟩:=dg ou (2+k) (by omega) (by simp;omega);exact⟨v,hv⟩)).use ?_;intro as has;simp![];exact .mk 0 as [] st (Xr _).symm has (Yf _) rfl rfl (λs hs=>nomatch hs) (λi d h=>by simp at h)
   ·rintro E d ds3 ⟨k,as,ip,bn,fk,has,fw,hr3,mw,fh,hgs⟩
    by_cases hkl2:k<as.length
    ·rw [Yi hkl2,xx]at hr3;injection hr3 with e5 e6;subst e5 e6;have ny:=has.2.2;have hag:Gd here as[k]:=has.2.1 _ (Xk _);obtain⟨y6,f6,g6,_⟩:=dg ou (6+4*k) (by omega) (by simp;omega);have r0:=Xu y6 (show 1+v0≠0 by omega);have r1:=Xm y6 (show 0<1+v0 by omega);obtain⟨kto,et,⟨o9,ht1⟩,hkto⟩:=ixI ks _ fq (y6 % (1+v0)) r0 (by omega);obtain⟨ws,hws,qu⟩:∃ws:List Int,Jj (oz.map D.int) (some (7+4*k)) (some (10+4*k))=ws.map D.int/\ws.length=3:=by
      have hyl:oz.length=22:=ou.len;exact⟨(oz.drop (7+4*k)).take 3,by rw[show(10:Int)+4*k=7+4*k+3 by omega,vxb (by omega) (by omega) (by omega),show(7+4*(k:Int)).toNat=7+4*k by omega];rfl,by rw[Z0,Z1,hyl];omega⟩
     simp![f6,mod_i (a:=y6) (b:=1+v0) (by omega),vze (o:=.no) (xs:=oz.map D.int) (lo:=some (7+4*k)) (hi:=some (10+4*k)) (by decide),hws,eh,et,e2,xq,lx];refine(vjy (ap:=ap) (g:=as[k]) (here:=here) (there:=kto) ol hh1 o9 ht1 qu hag).use ?_;rintro fs ⟨hfs,mx,iw⟩;simp![];refine zj rfl ?_;simp![gu];refine⟨_,rfl,by rw[fk,Xi];omega,.mk (k+1) as (ip++[.tup [.str ss[j],as[k],.int (y6 % (1+v0)),.tup fs]]) _ (by rw[fk,Xp]) has (by omega) rfl (by simp[mw]) (λs hs=>?_) (λi d hi=>?_)⟩
     ·rcases List.mem_append.mp hs with z|z
      ·exact fh s z
      ·rw[List.mem_singleton.mp z];refine⟨⟨_,as[k],_,fs,rfl,hag,hfs,by omega⟩,_,as[k],_,fs,rfl,Xk _,r0,by omega,?_⟩;rw[mx,X3,hkto];rfl
     ·rw[List.getElem?_append]at hi
      split at hi
      ·exact hgs i d hi
      ·by_cases e:i - ip.length=0
       ·rw[e]at hi;have hik:i=k:=by omega
        subst hik;exact⟨as[i],_,fs,X1 hkl2,by simpa using hi.symm,iw⟩
       ·rw[List.getElem?_eq_none (by simp;omega)]at hi;cases hi
    ·rw[List.drop_eq_nil_of_le (by omega)]at hr3;cases hr3
   ·rintro E ⟨k,as,ip,bn,fk,has,fw,hr3,mw,fh,hgs⟩;subst fk;have ny:=has.2.2;refine .mk (j+1) (st++ip) (by rw[show((j+1:Nat):Int)=(j:Int)+1 by omega]) (by omega) (λs hs=>?_) (by rw[Xi];omega) (vqy o7 mr hsgl qy has.1 hgs) (λs hs=>?_)
    ·rcases List.mem_append.mp hs with z|z
     ·exact b8 s z
     ·exact fh s z
    ·rcases List.mem_append.mp hs with z|z
     ·obtain⟨i,q1,q2,g,t,f,e⟩:=qy s z;exact⟨i,by omega,q2,g,t,f,e⟩
     ·obtain⟨i,hi⟩:=List.mem_iff_getElem?.mp z;obtain⟨g,t,fs,_,e,_⟩:=hgs i s hi;exact⟨j,by omega,o7,g,t,_,e⟩
  ·rintro E ⟨j,st,hr2,hj,b8,hstl,hsgl,qy⟩;refine zj rfl ?_;simp![eh,e7,xq];refine⟨_,rfl,by omega,.mk (r+1) _ (by rw[show((r+1:Nat):Int)=(r:Int)+1 by omega]) (by omega) (by simp[og]) λi hi=>?_⟩
   by_cases he:i<r
   ·obtain⟨gd,cy,q1,q2,q3⟩:=hrs i he;exact⟨gd,cy,by rw[Xq (by omega)];exact q1,q2,q3⟩
   ·have:i=r:=by omega
    subst this;refine⟨_,st,by rw[Xy (by omega),og,Nat.sub_self,hge];rfl,by rw[hge];exact b8,by omega,hsgl⟩
 ·rintro E ⟨r,rs,hr,mi,og,hrs⟩;have:=YX mi hr;have jm:0<=(1+v0)*(ss.length:Int):=Int.mul_nonneg (by omega) (by omega);have hm1:(1+v0)*(ss.length:Int)<=4*3:=Int.mul_le_mul (by omega) (by omega) (by omega) (by decide);simp![kws (o:=.no) (xs:=ss.map D.str) (by decide)];refine⟨rs,_,rfl,⟨by omega,by omega,λr' lf=>?_⟩,by omega,by omega,ks,⟨by omega,λi hi=>?_⟩,fq,ap,(λk g st hm=>?_),λk g st hm=>?_⟩
  ·obtain⟨i,hi,e⟩:=List.mem_iff_getElem.mp lf;obtain⟨gd,st,q1,q2,q3,_⟩:=hrs i (by omega);rw[X1 hi,e]at q1;have hk:=fq (ks.getD i 0) (by rw[X3,X1 (by omega)];exact Xk _);exact⟨_,gd,st,oq9 q1,hk.1,hk.2,λs hs=>(q2 s hs).1,by omega⟩
  ·obtain⟨gd,st,q1,q2,q3⟩:=hrs i (by omega);exact⟨gd,st,q1,λs hs=>(q2 s hs).2⟩
  ·obtain⟨i,hi,e⟩:=List.mem_iff_getElem.mp hm;obtain⟨gd,cy,q1,q2,q3,q4⟩:=hrs i (by omega);rw[X1 hi,e]at q1;have q1:=oq9 q1;injection q1 with q1;injection q1 with _ q1;injection q1 with _ q1;injection q1 with q1 _;injection q1 with q1;subst q1;exact q4
  ·obtain⟨i,hi,e⟩:=List.mem_iff_getElem.mp hm;obtain⟨gd,cy,q1,q2,q3,q4⟩:=hrs i (by omega);rw[X1 hi,e]at q1;have q1:=oq9 q1;injection q1 with q1;injection q1 with _ q1;injection q1 with _ q1;injection q1 with q1 _;injection q1 with q1;rw[q1];exact q3
end F
namespace F
open Q PySem C
noncomputable def V9(K:List D)(d:D):D:=match d with
 |.tup [room,.tup ks]=>.tup [.int (K.idxOf (.tup [room,.tup (pr ks)]):Nat),iT (jq ks)]
 |_=>.non
noncomputable def wqa(rs:List D)(s:D)(z:Str)(L:List D)(d:D):D:=match d with
 |.int p=>(match obD rs s z p with
  |some d=>V9 L d
  |none=>.non)
 |_=>.non
noncomputable def wvh(s:D):List D:=jV 0 ((jq (x3 s)).length+1)
noncomputable def qqw(ss:List Str)(rs L:List D)(s:D):List D:=ss.map λz=>.lst ((wvh s).map (wqa rs s z L))
noncomputable def Leads(L:List D)(e:D):Prop:=∀room ks,e=.tup [room,.tup ks]->D.tup [room,.tup (pr ks)]∈L
noncomputable def Clo(zs:List Str)(rs L:List D)(s:D):Prop:=∀z∈zs,∀p:Int,D.int p∈wvh s->∃e,obD rs s z p=some e/\Leads L e
noncomputable def Nrm(t:D):Prop:=∃room ks,t=.tup [room,.tup (pr ks)]
theorem qvq{A B:List D}{x:D}(h:A <+: B)(hx:x∈A):x∈B:=h.subset hx
theorem qvr{A B:List D}{x:D}(h:A <+: B)(hx:x∈A):B.idxOf x=A.idxOf x:=by
 obtain⟨t,rfl⟩:=h;rw[List.idxOf_append,Xa hx]
theorem vvq{A B:List D}{i:Nat}(h:A <+: B)(hi:i<A.length):B.getD i .non=A.getD i .non:=by
 obtain⟨t,rfl⟩:=h;rw[X3,X3,Xq hi]
theorem vwu(K:List D)(p:D):K <+: x4 K p/\p∈x4 K p/\∀t∈x4 K p,t∈K\/t=p:=by
 unfold x4
 split
 ·rename_i h;exact⟨Yx,h,λt ht=>.inl ht⟩
 ·exact⟨List.prefix_append _ _,by simp,λt ht=>by
   rcases List.mem_append.mp ht with z|z
   ·exact .inl z
   ·exact .inr (List.mem_singleton.mp z)⟩
theorem vk5(K:List D)(d:D):K <+: (vW K d).1/\(∀L,(vW K d).1 <+: L->(vW K d).2=V9 L d)/\Leads (vW K d).1 d/\((∀t∈K,Nrm t)->∀t∈(vW K d).1,Nrm t):=by
 unfold vW
 split
 ·rename_i room ks;obtain⟨h1,h2,h3⟩:=vwu K (.tup [room,.tup (pr ks)]);refine⟨h1,λL hL=>?_,λbp ff e=>?_,λhK t ht=>?_⟩
  ·unfold V9;dsimp only;rw[qvr hL h2]
  ·cases e;exact h2
  ·rcases h3 t ht with z|rfl
   ·exact hK t z
   ·exact⟨_,_,rfl⟩
 ·rename_i cx;refine⟨Yx,λL _=>?_,λbp ff e=>absurd e (cx _ _),λhK=>hK⟩;unfold V9
  split
  ·rename_i room ks;exact absurd rfl (cx room ks)
  ·rfl
theorem Leads.mono{A B:List D}{e:D}(h:A <+: B)(hl:Leads A e):Leads B e:=λroom ks he=>qvq h (hl room ks he)
theorem kxb{rs:List D}{s:D}{z:Str}:∀{ps K:List D} {r:List D×List D},v5 rs s z ps K=some r->K <+: r.1/\(∀L,r.1 <+: L->r.2=ps.map (wqa rs s z L))/\(∀p:Int,D.int p∈ps->∃e,obD rs s z p=some e/\Leads r.1 e)/\((∀t∈K,Nrm t)->∀t∈r.1,Nrm t)
 | [],K,r,h=>by
  rw [v5]at h;cases h;exact⟨Yx,λ_ _=>rfl,(λ_ h=>nomatch h),λh=>h⟩
 | .int p::ps,K,r,h=>by
  rw [v5]at h
  split at h
  ·cases h
  ·rename_i d hd;obtain⟨q,hq,rfl⟩:=Option.map_eq_some_iff.mp h;obtain⟨a1,a2,a3,a4⟩:=kxb hq;obtain⟨b1,b2,b3,b4⟩:=vk5 K d;refine⟨b1.trans a1,λL hL=>?_,λp' nu=>?_,λhK=>a4 (b4 hK)⟩
   ·show(vW K d).2::q.2=_;rw[List.map_cons,a2 L hL,b2 L (a1.trans hL)]
    congr 1
    show _=(match obD rs s z p with
     |some d=>V9 L d
     |none=>.non)
    rw[hd]
   ·rcases List.mem_cons.mp nu with e|e
    ·injection e with e;subst e;exact⟨d,hd,b3.mono a1⟩
    ·exact a3 p' e
 |.non::_,_,_,h=>by cases h
 |.bl _::_,_,_,h=>by cases h
 |.str _::_,_,_,h=>by cases h
 |.tup _::_,_,_,h=>by cases h
 |.lst _::_,_,_,h=>by cases h
 |.dct _::_,_,_,h=>by cases h
 |.obj _ _::_,_,_,h=>by cases h
theorem Clo.mono{zs:List Str}{rs A B:List D}{s:D}(h:A <+: B)(hc:Clo zs rs A s):Clo zs rs B s:=λz hz p hp=>by
 obtain⟨e,h1,h2⟩:=hc z hz p hp;exact⟨e,h1,h2.mono h⟩
theorem kje{rs:List D}{s:D}:∀{zs:List Str} {K:List D} {r:List D×List D},vk rs s zs K=some r->K <+: r.1/\(∀L,r.1 <+: L->r.2=qqw zs rs L s)/\Clo zs rs r.1 s/\((∀t∈K,Nrm t)->∀t∈r.1,Nrm t)
 | [],K,r,h=>by
  rw [vk]at h;cases h;exact⟨Yx,λ_ _=>rfl,(λ_ h=>nomatch h),λh=>h⟩
 | z :: zs,K,r,h=>by
  rw [vk]at h
  split at h
  ·cases h
  ·rename_i q hq;obtain⟨q2,p9,rfl⟩:=Option.map_eq_some_iff.mp h;obtain⟨a1,a2,a3,a4⟩:=kxb hq;obtain⟨b1,b2,b3,b4⟩:=kje p9;refine⟨a1.trans b1,λL hL=>?_,λz' hz' p hp=>?_,λhK=>b4 (a4 hK)⟩
   ·show D.lst q.2::q2.2=_;rw[b2 L hL,a2 L (b1.trans hL)];rfl
   ·rcases List.mem_cons.mp hz' with rfl|hz'
    ·obtain⟨e,h1,h2⟩:=a3 p hp;exact⟨e,h1,h2.mono b1⟩
    ·exact b3 z' hz' p hp
noncomputable def Inv(ss:List Str)(rs K ae:List D):Prop:=ae.length<=K.length/\(∀i,i<ae.length->Clo ss rs K (K.getD i .non)/\∀L,K <+: L->ae[i]?=some (VZ rs (K.getD i .non) (qqw ss rs L (K.getD i .non))))/\∀t∈K,Nrm t
theorem vzi{ss:List Str}{rs K ae:List D}{r:Option (List D×List D)}(h:Run ss rs K ae r):Inv ss rs K ae->∀q,r=some q->K <+: q.1/\Inv ss rs q.1 q.2/\q.2.length=q.1.length:=by
 induction h with
 | stop h=>
  intro hi q e;cases e;have:=hi.1;exact⟨Yx,hi,Nat.le_antisymm hi.1 (Nat.le_of_not_lt h)⟩
 | fail=>intro _ q e;cases e
 | @go K ae K' cm r bj e _ ih=>
  intro hi q hq;unfold Jv at e;obtain⟨q1,e1,e2⟩:=Option.map_eq_some_iff.mp e;cases e2;obtain⟨a1,a2,a3,a4⟩:=kje e1;have av:K.length<=q1.1.length:=a1.length_le;have rf:∀i,i<K.length->q1.1.getD i .non=K.getD i .non:=λi hi=>vvq a1 hi
  have hinv:Inv ss rs q1.1 (ae++[VZ rs (K.getD ae.length .non) q1.2]):=by
   refine⟨by rw[Xi,Yj];omega,λi lm=>?_,a4 hi.2.2⟩;rw[Xi,Yj]at lm
   by_cases h1:i<ae.length
   ·obtain⟨c1,c2⟩:=hi.2.1 i h1;rw[rf i (by omega)];refine⟨c1.mono a1,λL hL=>?_⟩;rw[Xq h1];exact c2 L (a1.trans hL)
   ·have:i=ae.length:=by omega
    subst this;rw[rf _ bj];refine⟨a3,λL hL=>?_⟩;rw[Xy (X9 _),Nat.sub_self,<-a2 L hL];rfl
  obtain⟨b1,b2,b3⟩:=ih hinv q hq;exact⟨a1.trans b1,b2,b3⟩
section
variable {r:Int->Int}{N:List Int}
theorem wkt(hr:Inj r N){acc:List Int}{d:D}(ha:∀i∈acc,i∈N)(hd:d∈nmV N):vj (acc.map r) (rnD r d)=(vj acc d).map r/\∀i∈vj acc d,i∈N:=by
 rcases wqz hd with rfl|⟨i,hi,rfl⟩
 ·exact⟨rfl,ha⟩
 ·by_cases hm:i∈acc
  ·have:r i∈acc.map r:=Xg hm;show(if r i∈acc.map r then _ else _)=List.map r (if i∈acc then _ else _)/\∀j∈(if i∈acc then _ else _),j∈N;rw[Xa this,Xa hm];exact⟨rfl,ha⟩
  ·have:r i∉acc.map r:=λh=>by
    obtain⟨j,hj,e⟩:=List.mem_map.mp h;rw[hr j (ha j hj) i hi e]at hj;exact hm hj
   show(if r i∈acc.map r then _ else _)=List.map r (if i∈acc then _ else _)/\∀j∈(if i∈acc then _ else _),j∈N;rw[Xe this,Xe hm];refine⟨by rw[Y0];rfl,λj hj=>?_⟩;rcases List.mem_append.mp hj with z|z
   ·exact ha j z
   ·rw[List.mem_singleton.mp z];exact hi
theorem qxa(hr:Inj r N):∀{ks:List D} {acc:List Int},(∀k∈ks,k∈nmV N)->(∀i∈acc,i∈N)->(ks.map (rnD r)).foldl vj (acc.map r)=(ks.foldl vj acc).map r/\∀i∈ks.foldl vj acc,i∈N
 |[],acc,_,ha=>⟨rfl,ha⟩
 |k::ks,acc,hk,ha=>by
  obtain⟨h1,h2⟩:=wkt hr ha (hk k X2);rw[List.map_cons,List.foldl_cons,List.foldl_cons,h1];exact qxa hr (λk h=>hk k (lc9 _ h)) h2
theorem qwc(hr:Inj r N){ks:List D}(hk:∀k∈ks,k∈nmV N):jq (ks.map (rnD r))=(jq ks).map r/\∀i∈jq ks,i∈N:=qxa (acc:=[]) hr hk (λ_ h=>nomatch h)
theorem qxh(hr:Inj r N){i:Int}(hi:i∈N):∀{l:List Int},(∀j∈l,j∈N)->(l.map r).findIdx (λw=>w==r i)=l.findIdx (λw=>w==i)
 |[],_=>rfl
 |a::l,h=>by
  rw[List.map_cons,List.findIdx_cons,List.findIdx_cons,qxh hr hi (λj hj=>h j (lc9 _ hj))]
  by_cases e:a=i
  ·subst e;simp
  ·rw[beq_false_of_ne e,beq_false_of_ne λz=>e (hr a (h a X2) i hi z)]
theorem wvx(hr:Inj r N){ks:List D}(hk:∀k∈ks,k∈nmV N):pr (ks.map (rnD r))=pr ks:=by
 obtain⟨h1,h2⟩:=qwc hr hk;unfold pr;rw[h1,Y9];refine Yr λd hd=>?_
 rcases wqz (hk d hd)with rfl|⟨i,hi,rfl⟩
 ·rfl
 ·show D.int _=D.int _;rw[qxh hr hi h2]
end
noncomputable def plI(ns:List Int)(i:Int):Int:=(ns.findIdx λw=>w==i:Nat)
theorem kj5{ns:List Int}{p:Int}:Inj (plI ns) (ns++[p]):=λa ha b hb e=>by
 have e:ns.findIdx (λw=>w==a)=ns.findIdx (λw=>w==b):=by unfold plI at e;omega
 have g:∀{x:Int},x∈ns->∃h:ns.findIdx (λw=>w==x)<ns.length,ns[ns.findIdx (λw=>w==x)]'h=x:=fun {x} hx=>⟨Z5 hx,by simpa using List.findIdx_getElem (p:=λw=>w==x) (w:=Z5 hx)⟩
 have nf:∀{x:Int},x∉ns->ns.findIdx (λw=>w==x)=ns.length:=fun {x} hx=>wwo (by rw[kvp];exact Xb hx)
 by_cases h1:a∈ns
 ·obtain⟨l1,q1⟩:=g h1
  by_cases h2:b∈ns
  ·obtain⟨l2,q2⟩:=g h2;rw[<-q1,<-q2]
   congr 1
  ·rw[nf h2]at e;omega
 ·by_cases h2:b∈ns
  ·obtain⟨l2,q2⟩:=g h2;rw[nf h1]at e;omega
  ·have ha':a=p:=by rcases List.mem_append.mp ha with z|z;exact absurd z h1;exact List.mem_singleton.mp z
   have ef:b=p:=by rcases List.mem_append.mp hb with z|z;exact absurd z h2;exact List.mem_singleton.mp z
   rw[ha',ef]
theorem wje(ks:List D):pr ks=ks.map (rnD (plI (jq ks))):=by
 unfold pr;refine Yr λd _=>?_
 cases d<;>rfl
theorem wkk{ks:List D}{p:Int}(hk:∀k∈ks,At k):∀k∈ks,k∈nmV (jq ks++[p]):=λk hm=>by
 rcases hk k hm with rfl|⟨i,rfl⟩
 ·exact X2
 ·exact lc9 _ (Xg (ll9 _ (qjl hm)))
theorem wk7{ks:List D}(hk:∀k∈ks,At k):jq (pr ks)=(jq ks).map (plI (jq ks)):=by
 rw[wje];exact(qwc (kj5 (p:=0)) (wkk hk)).1
theorem qq2{ks:List D}(hk:∀k∈ks,At k):(jq (pr ks)).length=(jq ks).length:=by rw[wk7 hk,X5]
noncomputable def WX(s:D):D:=match s with
 |.tup [room,.tup ks]=>.tup [room,.tup (pr ks)]
 |d=>d
theorem wx8{ss:List Str}{rs K:List D}{kps:List Int}{room:Int}{ks:List D}{z:Str}{p:Int}(hR:Rms rs)(hx:Rx ss kps rs)(hs:Sok kps (.tup [.int room,.tup ks]))(hc:Clo ss rs K (.tup [.int room,.tup (pr ks)]))(hz:z∈ss):
  (qX rs (z,p) (.tup [.int room,.tup ks])=[]/\obD rs (.tup [.int room,.tup (pr ks)]) z (plI (jq ks) p)=some .non) \/
  ∃(bp:Int) (ff:List D),qX rs (z,p) (.tup [.int room,.tup ks])=[.tup [.int bp,.tup ff]]/\Sok kps (.tup [.int bp,.tup ff])/\obD rs (.tup [.int room,.tup (pr ks)]) z (plI (jq ks) p)=some (.tup [.int bp,.tup (ff.map (rnD (plI (jq ks))))])/\pr (ff.map (rnD (plI (jq ks))))=pr ff/\jq (ff.map (rnD (plI (jq ks))))=(jq ff).map (plI (jq ks))/\(∀i∈jq ff,i∈jq ks++[p])/\D.tup [.int bp,.tup (pr ff)]∈K:=by
 obtain⟨_,_,e,r0,r1,hl,ha⟩:=id hs;injection e with e;injection e with e1 e;injection e with e2 _;injection e1 with e1;injection e2 with e2;subst e1 e2;have ka:SokV kps (nmV (jq ks++[p])) (.tup [.int room,.tup ks]):=⟨room,ks,rfl,r0,r1,hl,ha,wkk ha⟩;have mi:=vjj (w:=(z,p)) (kj5 (ns:=jq ks) (p:=p)) hR hx (by simp) ka;have hn:=qjn (w:=(z,p)) hR hx X2 (lc9 _ (Xg (by simp))) ka;have mi:qX rs (z,plI (jq ks) p) (.tup [.int room,.tup (ks.map (rnD (plI (jq ks))))])=_:=mi;rw[<-wje]at mi;have be:plI (jq ks) p<=(jq ks).length:=by unfold plI;have:=wwq (ks:=jq ks) (p:=p);omega
 have hpl0:0<=plI (jq ks) p:=by unfold plI;omega
 obtain⟨e,he,gf⟩:=hc z hz (plI (jq ks) p) (by
  unfold wvh;rw[z8,qq2 ha];unfold jV;exact List.mem_map.mpr ⟨(plI (jq ks) p).toNat,List.mem_range.mpr (by omega),by show D.int _=D.int _;congr 1;omega⟩)
 have ll:=he;unfold obD at he;rw[mi]at he;cases lh:qX rs (z,p) (.tup [.int room,.tup ks])with
 | nil=>
  rw[lh]at he;left;have he:some D.non=some e:=he;cases he;exact⟨rfl,ll⟩
 | cons s' t=>
  cases t with
  |cons s2 t=>
   rw[lh]at he;have he:(none:Option D)=some e:=he;cases he
  |nil=>
   rw[lh]at he;have he:some (rnS (plI (jq ks)) s')=some e:=he;cases he;obtain⟨bp,ff,rfl,q0,q1,q2,q3,q4⟩:=hn s' (by rw[lh];exact List.mem_singleton.mpr rfl);right;have lv:=qwc (kj5 (ns:=jq ks) (p:=p)) q4;have hp1:=wvx (kj5 (ns:=jq ks) (p:=p)) q4;refine⟨bp,ff,rfl,⟨bp,ff,rfl,q0,q1,q2,q3⟩,ll,hp1,lv.1,lv.2,?_⟩;have:=gf (.int bp) (ff.map (rnD (plI (jq ks)))) rfl;rw[hp1]at this;exact this
end F
namespace F
open Q PySem C
theorem kzf{ss:List Str}{rs:List D}{kps:List Int}(hR:Rms rs)(hx:Rx ss kps rs)(h3:∀k∈kps,k<=3){K ae:List D}{r:Option (List D×List D)}(h:Run ss rs K ae r):Kin kps V4 K->∀q,r=some q->Kin kps V4 q.1:=by
 have cs:∀{s:D} {z:Str},SokV kps V4 s->∀{ps K:List D} {r:List D×List D},(∀d∈ps,d∈V4)->Kin kps V4 K->v5 rs s z ps K=some r->Kin kps V4 r.1:=fun {s z} hs {ps}=>by
  induction ps with
  | nil=>intro K r _ hK h;rw[v5]at h;cases h;exact hK
  | cons d ps ih=>
   intro K r hp hK h;cases d with
   | int p=>
    rw[v5]at h
    split at h
    ·cases h
    ·rename_i d hd;obtain⟨q,hq,rfl⟩:=Option.map_eq_some_iff.mp h;exact ih (r:=q) (λd hd=>hp d (lc9 _ hd)) (qk9 h3 hK (wk5 hR hx hs (hp _ X2) hd)) hq
   |non=>cases h
   |bl=>cases h
   |str=>cases h
   |tup=>cases h
   |lst=>cases h
   |dct=>cases h
   |obj=>cases h
 have sg:∀{s:D},SokV kps V4 s->∀{zs:List Str} {K:List D} {r:List D×List D},Kin kps V4 K->vk rs s zs K=some r->Kin kps V4 r.1:=fun {s} hs {zs}=>by
  induction zs with
  | nil=>intro K r hK h;rw[vk]at h;cases h;exact hK
  | cons z zs ih=>
   intro K r hK h;rw[vk]at h
   split at h
   ·cases h
   ·rename_i q hq;obtain⟨q2,p9,rfl⟩:=Option.map_eq_some_iff.mp h;refine ih (r:=q2) (cs hs (λd hd=>?_) hK hq) p9;obtain⟨room,ks,rfl,_,_,_,_,_⟩:=id hs;have nv:=(Vz h3 hs).2;have rq:=kjs ks;rw[z8]at hd;obtain⟨i,i0,i1,rfl⟩:=WZ hd;have:i=0\/i=1\/i=2\/i=3:=by omega
    rcases this with rfl|rfl|rfl|rfl<;>simp[V4]
 induction h with
 |stop h=>intro hK q e;cases e;exact hK
 |fail=>intro _ q e;cases e
 |@go K ae K' cm r bj e _ ih=>
  intro hK q eq;unfold Jv at e;obtain⟨p,hp,e2⟩:=Option.map_eq_some_iff.mp e;cases e2;exact ih (sg (hK.2 _ (by rw[X3,X1 bj];exact Xk _)) hK hp) q eq
structure Pf (ss:List Str)(rs:List D)(kps:List Int)(K ae:List D):Prop where
 ms:Rms rs
 rx:Rx ss kps rs
 le:∀k∈kps,k<=3
 kin:Kin kps V4 K
 inv:Inv ss rs K ae
 len:ae.length=K.length
section
variable {ss:List Str}{rs:List D}{kps:List Int}{K ae:List D}
theorem qx3{t:D}(h:t∈K):K.idxOf t<K.length:=List.idxOf_lt_length_iff.mpr h
theorem vx4{t:D}(h:t∈K):K.getD (K.idxOf t) .non=t:=by
 rw[X3,X1 (qx3 h)];exact List.getElem_idxOf (qx3 h)
theorem Pf.at_(h:Pf ss rs kps K ae){t:D}(ht:t∈K):Clo ss rs K t/\ae[K.idxOf t]?=some (VZ rs t (qqw ss rs K t)):=by
 obtain⟨h1,h2⟩:=h.inv.2.1 (K.idxOf t) (by rw[h.len];exact qx3 ht);rw[vx4 ht]at h1 h2;exact⟨h1,h2 K Yx⟩
end
end F
namespace G
open Q PySem C F
noncomputable def fl(own:Int):D->D
 |.int f=>if f=own then .str "new" else .int f
 |d=>d
end G
namespace G
open Q PySem C F
noncomputable def nN(t:D):Nat:=(jq (x3 t)).length
end G
namespace G
open Q PySem C F
theorem qv1(x n:Int)(hx:0<=x)(h0:0<=n)(h1:n<=3):Oo C.m__law_signs [(.no,.int x),(.no,.int n)] (λy=>∃ss,y=(.rt,sL ss)/\(ss.length:Int)=n/\(∀z∈ss,Sg z)/\ss.Nodup) noX:=by
 unfold C.m__law_signs;refine qx ?_;simp![];refine(Zz x [8,840,8] (by decide) (by decide)).via ?_;rintro _ ⟨ds,rfl,hd⟩;obtain⟨sz,at_,st,rfl,a1,a2,a3,a4,a5,a6⟩:=wq7 hd;simp![];have b1:=Xu at_ (show sz+1≠0 by omega);have b2:=Xm at_ (show 0<sz+1 by omega);generalize at_ % (sz+1)=am at b1 b2;obtain⟨b,hb⟩:∃b,b=x / (53761+26*am*am):=⟨_,rfl⟩;refine Jq (λE jx=>∃k ss l7 l8 l9 ij o0 o1 o2 o3 o4 o5,E=[some (o0,.int x),some (o1,.int n),some (o2,.str "abcdefghijklmnopqrstuvwxyz"),some (o3,.int sz),some (o4,.int am),some (o5,.int st),some (.rt,sL ss),l7,l8,l9,ij]/\0<=k/\k<=n/\jx=jV k n/\(ss.length:Int)=k/\(∀z∈ss,Sg z)/\∀i:Nat,i<ss.length->Ltr b st am.toNat i (ss.getD i "")) ?_ ?_ ?_
 ·refine Vv ?_;simp![];exact⟨n,rfl,by omega,by omega,0,[],_,_,_,_,_,_,_,_,_,_,rfl,by omega,h0,rfl,rfl,(λz hz=>nomatch hz),λi hi=>absurd hi (Nat.not_lt_zero _)⟩
 ·rintro E d ds ⟨k,ss,l7,l8,l9,ij,o0,o1,o2,o3,o4,o5,rfl,k0,k1,hr,hl,hSg,hS⟩;obtain⟨hk,rfl,rfl⟩:=V1 k1 hr;simp![];refine Jq (λE jx=>∃j z l9 ij o8,E=[some (o0,.int x),some (o1,.int n),some (o2,.str "abcdefghijklmnopqrstuvwxyz"),some (o3,.int sz),some (o4,.int am),some (o5,.int st),some (.rt,sL ss),some (.no,.int k),some (o8,.str z),l9,ij]/\0<=j/\j<=sz+1/\jx=jV j (sz+1)/\(z.cps.size:Int)=j/\(∀c∈z.cps.toList,c∈ltr)/\(am<j->Ltr b st am.toNat ss.length z)) ?_ ?_ ?_
  ·refine Vv ?_;simp![];exact⟨sz+1,rfl,by omega,by omega,0,"",_,_,_,rfl,by omega,by omega,rfl,rfl,(λc hc=>nomatch hc),λh=>by omega⟩
  ·rintro E d ds ⟨j,z,l9,ij,o8,rfl,j0,j1,hr,hz,hzc,lr⟩;obtain⟨hj,rfl,rfl⟩:=V1 j1 hr;have jj0:0<=j*j:=Int.mul_nonneg j0 j0;have jj1:j*j<=8*8:=Int.mul_le_mul (by omega) (by omega) j0 (by decide);have kk0:0<=k*(st+1):=Int.mul_nonneg k0 (by omega);have kk1:k*(st+1)<=3*9:=Int.mul_le_mul (by omega) (by omega) (by omega) (by decide);have e1:26*j*j=26*(j*j):=Int.mul_assoc _ _ _;have hdv:xW (.int x) (.int (53761+26*j*j))=some (.int (x / (53761+26*j*j))):=div_i (by omega) (by omega);have key:∃w:Int,JV (.bl (j==am))=some (.int w)/\0<=w/\w<=1/\(j=am->w=1):=by
    by_cases h:j=am
    ·rw[show(j==am)=true by simpa using h];exact⟨1,rfl,by decide,by decide,λ_=>rfl⟩
    ·rw[show(j==am)=false by simpa using h];exact⟨0,rfl,by decide,by decide,λz=>absurd z h⟩
   simp![xq,hdv];obtain⟨w,hw,w0,w1,hw1⟩:=key;simp![hw];have hte:j=am->x / (53761+26*j*j)+k*(st+1)*w=b+ss.length*(st+1):=λh=>by rw[hw1 h,hb,h,hl,Int.mul_one]
   generalize x / (53761+26*j*j)+k*(st+1)*w=t at hte;have t0:=Xu t (show(26:Int)≠0 by decide);have t1:=Xm t (show(0:Int)<26 by decide);simp![vwp (t % 26) t0 t1];have hs:((⟨#[ltr.getD (t % 26).toNat 0]⟩:Str).cps.size)=1:=rfl;simp![wqg (a:=z) (b:=⟨#[ltr.getD (t % 26).toNat 0]⟩) (by rw[hs];omega)];refine⟨j+1,z++⟨#[ltr.getD (t % 26).toNat 0]⟩,_,_,_,rfl,by omega,by omega,rfl,by rw[qzv,hs];omega,λc hc=>?_,λh=>?_⟩
   ·have hc:c∈(z.cps++#[ltr.getD (t % 26).toNat 0]).toList:=hc;rw[Array.toList_append]at hc;rcases List.mem_append.mp hc with q|q
    ·exact hzc c q
    ·have h26:ltr.length=26:=by decide +kernel
     have:c=ltr.getD (t % 26).toNat 0:=by simpa using q
     rw[this,X3,X1 (by omega)];exact Xk _
   have hcp:(z++⟨#[ltr.getD (t % 26).toNat 0]⟩:Str).cps.toList=z.cps.toList++[ltr.getD (t % 26).toNat 0]:=by
    show(z.cps++#[ltr.getD (t % 26).toNat 0]).toList=_;rw[Array.toList_append]
   have hzs:z.cps.toList.length=z.cps.size:=Ya;unfold Ltr;rw[hcp]
   by_cases hja:j=am
   ·have ht:=hte hja;rw[Xy (by omega),show am.toNat - z.cps.toList.length=0 by omega,<-ht];rfl
   ·rw[Xq (by omega)];exact lr (by omega)
  ·rintro E ⟨j,z,l9,ij,o8,rfl,j0,j1,hr,hz,hzc,lr⟩;have:=YX j1 hr;refine zj rfl ?_;simp![];refine⟨_,rfl,by rw[X5];omega,?_⟩;rw[show ss.map D.str++[D.str z]=(ss++[z]).map D.str by simp];refine⟨k+1,ss++[z],_,_,_,_,_,_,_,_,_,_,rfl,by omega,by omega,rfl,by simp;omega,λy hy=>?_,λi hi=>?_⟩
   ·rcases List.mem_append.mp hy with q|q
    ·exact hSg y q
    ·rw[List.mem_singleton.mp q];exact⟨by omega,hzc⟩
   rw[Xi,Yj]at hi;rw[X3]
   by_cases lm:i<ss.length
   ·rw[Xq lm,<-X3];exact hS i lm
   ·have:i=ss.length:=by omega
    subst this;rw[Xy (X9 _),Nat.sub_self];exact lr (by omega)
 ·rintro E ⟨k,ss,l7,l8,l9,ij,o0,o1,o2,o3,o4,o5,rfl,k0,k1,hr,hl,hSg,hS⟩;have:=YX k1 hr;subst this;simp![qzp (o:=.rt) (ss:=ss) (by omega)];refine⟨J0 ss,rfl,by rw[kw0];exact hl,λz hz=>hSg z ((YQ ss).mem_iff.mp hz),(YQ ss).nodup_iff.mpr ?_⟩;rw[List.nodup_iff_pairwise_ne,List.pairwise_iff_getElem];intro i j hi hj md e;have p1:=hS i hi;have p2:=hS j hj;rw[X3,X1 hi]at p1;rw[X3,X1 hj]at p2;have p1:Ltr b st am.toNat i ss[i]:=p1;have p2:Ltr b st am.toNat j ss[j]:=p2;unfold Ltr at p1 p2;rw[e,p2]at p1;have p1:=oq9 p1;have m0:=Xu (b+i*(st+1)) (show(26:Int)≠0 by decide);have m1:=Xm (b+i*(st+1)) (show(0:Int)<26 by decide);have m2:=Xu (b+j*(st+1)) (show(26:Int)≠0 by decide);have m3:=Xm (b+j*(st+1)) (show(0:Int)<26 by decide);have:=vwh _ (by omega) _ (by omega) p1;have hij3:(i=0/\j=1)\/(i=0/\j=2)\/(i=1/\j=2):=by omega
  rcases hij3 with⟨rfl,rfl⟩|⟨rfl,rfl⟩|⟨rfl,rfl⟩
  ·have q:((1:Nat):Int)*(st+1)=st+1:=by omega
   have q2:((0:Nat):Int)*(st+1)=0:=by omega
   rw[q]at *;rw[q2]at *;omega
  ·have q:((2:Nat):Int)*(st+1)=2*st+2:=by omega
   have q2:((0:Nat):Int)*(st+1)=0:=by omega
   rw[q]at *;rw[q2]at *;omega
  ·have q:((2:Nat):Int)*(st+1)=2*st+2:=by omega
   have q2:((1:Nat):Int)*(st+1)=st+1:=by omega
   rw[q]at *;rw[q2]at *;omega
theorem ww1{ss:List Str}{rs:List D}{kps:List Int}{K ae:List D}{kp:Int}{gd st0:D}(hR:Rms rs)(hx:Rx ss kps rs)(h3:∀k∈kps,k<=3)(dk:rs[0]?=some (.tup [.int kp,gd,st0]))(i6:0<=kp)(dl:Run ss rs [.tup [.int 0,.tup (List.replicate kp.toNat .non)]] [] (some (K,ae))):Pf ss rs kps K ae/\D.tup [.int 0,.tup (List.replicate kp.toNat .non)]∈K/\V9 K (.tup [.int 0,.tup (List.replicate kp.toNat .non)])=.tup [.int 0,iT []]/\WX (.tup [.int 0,.tup (List.replicate kp.toNat .non)])=.tup [.int 0,.tup (List.replicate kp.toNat .non)]:=by
 have ka:Kin kps V4 [.tup [.int 0,.tup (List.replicate kp.toNat .non)]]:=kvh hR hx (by simp[V4]) dk i6;have hnm:∀n:Nat,jq (List.replicate n .non)=[]:=λn=>by
  unfold jq
  induction n with
  |zero=>rfl
  |succ n ih=>rw[List.replicate_succ,List.foldl_cons];exact ih
 have ri:∀n:Nat,pr (List.replicate n .non)=List.replicate n .non:=λn=>by unfold pr;rw[List.map_replicate];rfl
 have hnrm:Nrm (.tup [.int 0,.tup (List.replicate kp.toNat .non)]):=⟨.int 0,List.replicate kp.toNat .non,by rw[ri]⟩;obtain⟨a1,a2,a3⟩:=vzi dl ⟨Yf _,(λi hi=>absurd hi (Nat.not_lt_zero _)),λt ht=>by rw[List.mem_singleton.mp ht];exact hnrm⟩ (K,ae) rfl;have hm:=qvq a1 X2;refine⟨⟨hR,hx,h3,kzf hR hx h3 dl ka (K,ae) rfl,a2,a3⟩,hm,?_,by unfold WX;dsimp only;rw[ri]⟩;unfold V9;dsimp only;rw[ri,hnm,qvr a1 X2];simp
end G
namespace Nk35
open PySem Q
noncomputable def m_fits : Fn:= C.m_fits
noncomputable def m_held_by : Fn:= C.m_held_by
noncomputable def m_filled : Fn:= C.m_filled
noncomputable def m_first_standing : Fn:= C.m_first_standing
noncomputable def m_steps_at : Fn:= C.m_steps_at
noncomputable def m_fitting : Fn:= C.m_fitting
noncomputable def m_behind : Fn:= C.m_behind
noncomputable def m_names_held : Fn:= F.m_names_held
noncomputable def m_places_among : Fn:= F.m_places_among
noncomputable def m_plain_case : Fn:= F.m_plain_case
noncomputable def m_only_behind : Fn:= (F.m_only_behind (sRz "NotSingle"))
noncomputable def m_plain_cases : Fn:= (F.m_plain_cases (sRz "NotSingle"))
noncomputable def m_plain_of : Fn:= (F.m_plain_of (sRz "NotSingle"))
noncomputable def Jx:Fn:=fn 1
  (j4 (Kq ["NotSingle"] (Qz (K0 m_plain_of [(cV 0)])) (jQ (cC (.bl false))))
  (jQ (cC (.bl true))))
noncomputable def m__law_draw : Fn:= C.m__law_draw
noncomputable def m__law_digits : Fn:= C.m__law_digits
noncomputable def m__law_signs : Fn:= C.m__law_signs
noncomputable def m__law_name : Fn:= C.m__law_name
noncomputable def m__law_pool : Fn:= C.m__law_pool C.m__law_draw
noncomputable def m__law_asks : Fn:= F.m__law_asks
noncomputable def m__law_fills : Fn:= F.m__law_fills
noncomputable def m__law_single : Fn:= F.m__law_single C.m__law_draw
noncomputable def K6:Fn:=fn 1
  (jQ (qQ .dp [(WV (cF1 JJ (j6 (vV 0) (C9 0)))),(cLC .dp 1 [] (itS (cH (j6 (vV 0) (C9 1)))) (.n 0) tYes (qQ .dp [(cH (j6 (vV 0) (C9 0))),(cH (j6 (vV 0) (C9 1))),(WV (cF1 JJ (j6 (vV 0) (C9 2))))]))]))
noncomputable def m__law_fits : Fn:= C.m__law_fits
noncomputable def m__law_filled : Fn:= C.m__law_filled
noncomputable def m__law_fitting : Fn:= C.m__law_fitting
noncomputable def m__law_behind : Fn:= C.m__law_behind
noncomputable def YZ:Fn:=fn 2
  (j4 (jk 1 (kK .rt [(cF1 (pu1 (wY [("NotSingle",true)])) (vV 0)),(cF1 (pu1 (wY [("NotSingle",true)])) (vV 0)),(cF1 (pu1 (wY [("NotSingle",false)])) (vV 0))]))
  (j4 (jk 1 (cF2 jJ (vV 1) (vE (kK .rt [(cF1 (pu1 (wY [("NotSingle",false)])) (vV 0)),(cF1 (pu1 (wY [("NotSingle",false)])) (vV 0)),(cF1 (pu1 (wY [("NotSingle",false)])) (vV 0))]))))
  (j4 (jk 1 (cF2 jJ (vV 1) (vE (kK .rt [(cF1 (pu1 (wY [("NotSingle",false)])) (vV 0)),(cF1 (pu1 (wY [("NotSingle",false)])) (vV 0)),(cF1 (pu1 (wY [("NotSingle",false)])) (vV 0))]))))
  (jQ (cF2 jJ (vV 1) (vE (kK .rt [(cF1 (pu1 (wY [("NotSingle",false)])) (vV 0))])))))))
noncomputable def jkl:Fn:=fn 10
  (j4 (jk 4 (kK .rt []))
  (j4 (jk 5 (qQ .no [(cC (.int 0)),(cF2 kX (vE (qQ .no [(cC .non)])) (j6 (j6 (j6 (vV 2) (C9 1)) (C9 0)) (C9 0)))]))
  (j4 (wW (wqx (vV 1) (vE (cF2 (pu2 wwr) (vE (cF1 (pu1 v9) (vV 0))) (vE (cF2 jJ (vV 1) (C9 60)))))) (.n 6) (j4 (Qw [7,8] (jK m__law_digits [(jK m__law_draw [(cV 0),(cV 6)]),(kK .rt [(cC (.int 6)),(cC (.int 60))])]))
  (j4 (jk 7 (cH (j6 (j6 (vV 2) (C9 0)) (vE (cF2 (pu2 kQ) (vV 7) (vE (cF1 (pu1 v9) (j6 (vV 2) (C9 0)))))))))
  (j4 (jk 9 (jK m__law_fitting [(cV 2),(cV 5),(cV 7),(cH (j6 (vV 3) (vE (cF2 (pu2 kQ) (vV 8) (C9 3)))))]))
  (sIf (tE (cF2 (pu2 fNe) (vV 9) (vE (kK .rt [])))) (j4 (qw qZ 4 (qQ .no [(cH (j6 (vV 5) (C9 0))),(cH (j6 (vV 9) (C9 0)))]))
  (jk 5 (jK m__law_behind [(cV 2),(cV 5),(cH (j6 (vV 9) (C9 0))),(cH (j6 (vV 3) (vE (cF2 (pu2 kQ) (vV 8) (C9 3)))))]))) kZ)))))
  (jQ (cMv 4)))))
noncomputable def Zw:Fn:=fn 3
  (j4 (jk 1 (kK .rt []))
  (j4 (K7 ["NotSingle"] 2 (Qz (K0 m_plain_of [(cV 0)])) (jk 1 (jK YZ [(cV 2)])))
  (jQ (cLC .rt 1 [1] (wj (vE (cF1 (pu1 v9) (vV 1)))) (.n 0) (tEQ (j6 (vV 1) (vV 0))) (cV 0)))))
noncomputable def jkd:Fn:=fn 10
  (j4 (jk 4 (jK K6 [(cV 0)]))
  (ZX 4 5 1 [0] [1] [2] (j4 (Qw [6,7,8,9] (cH (j6 (vV 5) (j6 (vV 1) (C9 1))))) (j4 (sIf (tE (cF2 (pu2 fEq) (vV 3) (C9 1))) (j4 (jk 7 (cC (.str "any")))
  (jk 9 (cF2 kX (vE (qQ .no [(cC .non)])) (vE (cF1 (pu1 v9) (vV 9)))))) kZ) (vzg 5 (cF2 (pu2 kQ) (vV 2) (vE (cF2 jJ (vE (cF1 (pu1 v9) (vV 5))) (C9 1)))) (qQ .no [(cV 6),(cV 7),(cV 8),(cV 9)]))))
  (jQ (cMv 4))))
noncomputable def m_law:Fn:=fn 14
  (j4 (jk 1 (jK m__law_signs [(jK m__law_draw [(cV 0),(cC (.int 0))]),(cF2 jJ (C9 1) (vE (cF2 (pu2 kQ) (vE (jK m__law_draw [(cV 0),(cC (.int 1))])) (C9 3))))]))
  (j4 (Qw [2,3] (jK m__law_single [(cV 0),(cC (.int 6)),(cV 1)]))
  (j4 (jk 4 (jK jkl [(cV 0),(cV 3),(cV 2),(jK m__law_pool [(cV 0),(cC (.int 3)),(cC (.int 3))])]))
  (j4 (Qw [5,6,7] (jK m__law_digits [(jK m__law_draw [(cV 0),(cC (.int 2))]),(kK .rt [(cC (.int 55440)),(cC (.int 720720)),(cC (.int 2))])]))
  (j4 (jk 8 (jK K6 [(cV 2)]))
  (j4 (jk 9 (jK m_plain_of [(cV 8)]))
  (j4 (sIf (tOr (tE (cF2 (pu2 K8) (vE (jK Jx [(cV 8)])) (vE (cC (.bl true))))) (tE (cF2 (pu2 fNe) (vV 8) (vV 2)))) (jQ (cC (.bl false))) kZ)
  (j4 (jk 10 (qQ .no [(cH (j6 (vV 1) (C9 0))),(cC (.str "any")),(cC (.int 0)),(cF2 kX (vE (qQ .no [(cC .non)])) (j6 (j6 (j6 (vV 2) (C9 1)) (C9 0)) (C9 0)))]))
  (j4 (jk 11 (qQ .no [(cF1 JJ (vV 1)),(cF2 jJ (j6 (vE (jK K6 [(cV 2)])) (C9 1)) (vE (kK .rt [(qQ .no [(cC (.int 0)),(cC (.bl true)),(kK .rt [(cV 10),(cV 10)])])])))]))
  (j4 (sIf (tOr (tE (cF2 (pu2 K8) (vE (jK Jx [(cV 11)])) (vE (cC (.bl true))))) (tE (cF2 (pu2 fNe) (vE (jK m_plain_of [(cV 11)])) (vV 9)))) (jQ (cC (.bl false))) kZ)
  (j4 (sIf (tE (cF2 (pu2 fEq) (vV 4) (vE (kK .rt [])))) (jQ (cC (.bl true))) kZ)
  (j4 (jk 12 (jK jkd [(cV 2),(cH (j6 (vV 4) (vE (cF2 (pu2 kQ) (vV 5) (vE (cF1 (pu1 v9) (vV 4))))))),(cV 6),(cV 7)]))
  (j4 (jk 13 (jK K6 [(cV 12)]))
  (j4 (sIf (tOr (tE (cF2 (pu2 K8) (vE (jK Jx [(cV 12)])) (vE (cC (.bl false))))) (tOr (tE (cF2 (pu2 fNe) (vE (jK Zw [(cV 12)])) (vE (kK .rt [(cC (.int 0)),(cC (.int 1))])))) (tE (cF2 (pu2 fNe) (vV 12) (vV 13))))) (jQ (cC (.bl false))) kZ)
  (jQ (ZJ (vE (cF2 (pu2 wv1) (vE (jK Jx [(cV 8)])) (vE (cC (.bl true))))) (cF2 (pu2 fEq) (vE (jK m_plain_of [(cV 8)])) (vV 9))))))))))))))))))
end Nk35
namespace F
open Q PySem C G
theorem kxl{p:D->Bool}{ks:List D}{n:Int}:∀(st pre:List D),(jX p pre.length st).map (bh ks (pre++st) n)=(st.filter p).map (zW ks (.int n))
 | [],_=>rfl
 | s::r,pre=>by
  have ih:=kxl (p:=p) (ks:=ks) (n:=n) r (pre++[s]);rw[Xp,Xi,Yj,Y7]at ih;unfold jX
  by_cases h:p s=true
  ·rw[Xa h,List.map_cons,ih,List.filter_cons,Xa h,List.map_cons]
   congr 1
   rw[W2 (by simp)];simp
  ·rw[Xe h,ih,List.filter_cons,Xe h]
theorem qjm{rs:List D}{w:Str×Int}{s:D}:qX rs w s=((zq rs s).filter (kY w.1 (x3 s) (.int w.2))).map (zW (x3 s) (.int w.2)):=kxl (zq rs s) []
theorem qxg{p:D->Bool}:∀{r:List D} {k:Nat} {d:D},d∈jX p k r->∃(j:Nat) (s:D),d=.int (k+j:Nat)/\r[j]?=some s/\p s=true
 | [],_,_,h=>by unfold jX at h;cases h
 | s::r,k,d,h=>by
  unfold jX at h;have go:d∈jX p (k+1) r->∃(j:Nat) (s':D),d=.int (k+j:Nat)/\(s::r)[j]?=some s'/\p s'=true:=λh=>by
   obtain⟨j,s',e,e2,e3⟩:=qxg h;exact⟨j+1,s',by rw[e];congr 2;omega,e2,e3⟩
  split at h
  ·rename_i hp;rcases List.mem_cons.mp h with rfl|h
   ·exact⟨0,s,rfl,rfl,hp⟩
   ·exact go h
  ·exact go h
inductive Rch (ss:List Str)(rs:List D)(s0:D):D->Prop
 |nil:Rch ss rs s0 s0
 |step {s s':D} {z:Str} {p:Int}:Rch ss rs s0 s->z∈ss->s'∈qX rs (z,p) s->Rch ss rs s0 s'
section
variable {ss:List Str}{rs st:List D}{r k:Nat}{kp gd nw:D}
theorem vzc{s x:D}(hr:rs[r]?=some (.tup [kp,gd,.lst st]))(h:x∈zq rs s):x∈zq (rs.set r (.tup [kp,gd,.lst (st.take k++nw::st.drop k)])) s:=by
 unfold zq at h ⊢
 split at h
 ·rename_i room _;rw[X3]at h ⊢
  by_cases e:r=room.toNat
  ·subst e;have hl:=(List.getElem?_eq_some_iff.mp hr).1;rw[Y2 hl];rw[hr]at h;have h:x∈st:=h;show x∈st.take k++nw::st.drop k;rw[<-List.take_append_drop k st]at h;rcases List.mem_append.mp h with h|h
   ·exact ll9 _ h
   ·exact lr9 _ (lc9 _ h)
  ·rw[Xx e];exact h
 ·cases h
theorem qwe{w:Str×Int}{s x:D}(hr:rs[r]?=some (.tup [kp,gd,.lst st]))(h:x∈qX rs w s):x∈qX (rs.set r (.tup [kp,gd,.lst (st.take k++nw::st.drop k)])) w s:=by
 rw[qjm]at h ⊢;obtain⟨a,ha,rfl⟩:=List.mem_map.mp h;obtain⟨h1,h2⟩:=List.mem_filter.mp ha;exact List.mem_map.mpr ⟨a,List.mem_filter.mpr ⟨vzc hr h1,h2⟩,rfl⟩
theorem vqr{room:Int}{ks:List D}{z:Str}{p:Int}{d:D}(hr:rs[room.toNat]?=some (.tup [kp,gd,.lst st]))(hd:d∈jX (kY z ks (.int p)) 0 st)(hn:kY z ks (.int p) nw=true):2<=(qX (rs.set room.toNat (.tup [kp,gd,.lst (st.take k++nw::st.drop k)])) (z,p) (.tup [.int room,.tup ks])).length:=by
 have hl:=(List.getElem?_eq_some_iff.mp hr).1;rw[qjm,X5,QZ (Y2 hl),z8,List.filter_append,List.filter_cons,Xa hn,Xi,Xn];dsimp only;have e:st.filter (kY z ks (.int p))=(st.take k).filter (kY z ks (.int p))++(st.drop k).filter (kY z ks (.int p)):=by
  rw[<-List.filter_append,List.take_append_drop]
 obtain⟨j,s,_,h2,h3⟩:=qxg hd;have hm:s∈st.filter (kY z ks (.int p)):=List.mem_filter.mpr ⟨Xd h2,h3⟩;rw[e]at hm;have:=List.length_pos_of_mem hm;rw[Xi]at this;omega
theorem qva{kps:List Int}{K ae:List D}{s0:D}(hr:rs[r]?=some (.tup [kp,gd,.lst st]))(lj:Pf ss (rs.set r (.tup [kp,gd,.lst (st.take k++nw::st.drop k)])) kps K ae)(lc:Sok kps s0)(jm:WX s0∈K){s:D}(h:Rch ss rs s0 s):Sok kps s/\WX s∈K:=by
 induction h with
 | nil=>exact⟨lc,jm⟩
 | @step s s' z p _ hz hn ih=>
  obtain⟨hs,hm⟩:=ih;obtain⟨room,ks,rfl,r0,r1,hl,ha⟩:=id hs;have hm:D.tup [.int room,.tup (pr ks)]∈K:=hm;have hn:=qwe (k:=k) (nw:=nw) hr hn;rcases wx8 (p:=p) lj.ms lj.rx hs (lj.at_ hm).1 hz with⟨e,_⟩|⟨bp,ff,e,iz,_,_,_,_,hm'⟩
  ·rw[e]at hn;cases hn
  ·rw[e]at hn;rw[List.mem_singleton.mp hn];exact⟨iz,hm'⟩
theorem wk6{kps:List Int}{K ae:List D}{s0 d:D}{room p:Int}{ks:List D}{z:Str}(hr:rs[room.toNat]?=some (.tup [kp,gd,.lst st]))(lj:Pf ss (rs.set room.toNat (.tup [kp,gd,.lst (st.take k++nw::st.drop k)])) kps K ae)(lc:Sok kps s0)(jm:WX s0∈K)
  (hc:Rch ss rs s0 (.tup [.int room,.tup ks])) (hz:z∈ss) (hd:d∈jX (kY z ks (.int p)) 0 st) (hn:kY z ks (.int p) nw=true):False:=by
 obtain⟨hs,hm⟩:=qva hr lj lc jm hc;have hm:D.tup [.int room,.tup (pr ks)]∈K:=hm;have h2:=vqr (k:=k) (nw:=nw) hr hd hn;rcases wx8 (p:=p) lj.ms lj.rx hs (lj.at_ hm).1 hz with⟨e,_⟩|⟨_,_,e,_⟩
 ·rw[e]at h2;simp at h2
 ·rw[e]at h2;simp at h2
end
theorem vv2{ss:List Str}{rs K ae:List D}{r:Option (List D×List D)}(h:Run ss rs K ae r):∀q,r=some q->K <+: q.1:=by
 induction h with
 |stop h=>intro q e;cases e;exact Yx
 |fail=>intro q e;cases e
 |@go K ae K' cm r bj e _ ih=>
  intro q eq;unfold Jv at e;obtain⟨p,hp,e2⟩:=Option.map_eq_some_iff.mp e;cases e2;exact(kje hp).1.trans (ih q eq)
section
variable {ss:List Str}{rs n8:List D}{s:D}
theorem qk8(h:∀w,qX n8 w s=qX rs w s){z:Str}:∀(ps K:List D),v5 n8 s z ps K=v5 rs s z ps K
 | [],K=>by rw[v5,v5]
 | d::ps,K=>by
  cases d with
  |int p=>
   rw[v5,v5];unfold obD;rw[h]
   split
   ·rfl
   ·rw[qk8 h ps]
  |_=>rfl
theorem qj6(h:∀w,qX n8 w s=qX rs w s):∀(zs:List Str) (K:List D),vk n8 s zs K=vk rs s zs K
 |[],K=>by rw[vk,vk]
 |z::zs,K=>by
  rw[vk,vk];unfold kxa;rw[qk8 h]
  split
  ·rfl
  ·rw[qj6 h zs]
theorem qzy{K ae:List D}{r:Option (List D×List D)}(h:Run ss rs K ae r):∀q,r=some q->(∀s∈q.1,(∀w,qX n8 w s=qX rs w s)/\goodD n8 s=goodD rs s)->Run ss n8 K ae (some q):=by
 induction h with
 |stop h=>intro q e _;cases e;exact .stop h
 |fail=>intro q e;cases e
 |@go K ae K' cm r bj e h2 ih=>
  intro q eq hq;refine .go bj ?_ (ih q eq hq);have hK':K <+: q.1:=vv2 (Run.go bj e h2) q eq;have hm:K.getD ae.length .non∈q.1:=hK'.subset (by rw[X3,X1 bj];exact Xk _);obtain⟨h1,hg⟩:=hq _ hm;rw[<-e];unfold Jv VZ;rw[qj6 h1,hg]
theorem vke{x:D}{kps:List Int}(hl:rs.length=kps.length)(hs:Sok kps s):(∀w,qX (rs++[x]) w s=qX rs w s)/\goodD (rs++[x]) s=goodD rs s:=by
 obtain⟨room,ks,rfl,r0,r1,_,_⟩:=hs;have e:(rs++[x])[room.toNat]?=rs[room.toNat]?:=Xq (by omega);have es:zq (rs++[x]) (.tup [.int room,.tup ks])=zq rs (.tup [.int room,.tup ks]):=by
  unfold zq;dsimp only;rw[X3,X3,e]
 refine⟨λw=>?_,?_⟩
 ·unfold qX;rw[es]
 ·unfold goodD;dsimp only;rw[e]
end
end F
namespace Nk35
open Q PySem C F G
theorem h1:m__law_draw=C.m__law_draw:=rfl
theorem h2:m__law_digits=C.m__law_digits:=rfl
theorem h5:m__law_fitting=C.m__law_fitting:=rfl
theorem h6:m__law_behind=C.m__law_behind:=rfl
theorem h7:m__law_pool=C.m__law_pool C.m__law_draw:=rfl
theorem h8:m__law_signs=C.m__law_signs:=rfl
theorem h9:m__law_single=F.m__law_single C.m__law_draw:=rfl
theorem h12:m_plain_of=F.m_plain_of (sRz "NotSingle"):=rfl
theorem wqf{E:En}{i j m n:Nat}{q p1 p2:List Nat}{B Cc:Sm}{d dm d1:D}{om:Own}{N C:En->Prop}{R:Sd->Prop}{X:XP}(h0:E[i]?=some (some (.dp,d)))(hm:E[m]?=some (some (om,dm)))(hp:dm.pure=true)(hj:j<E.length)(hq:D.at q dm=some (.int (.ofNat n)))(iq:D.at (p1++[n]++p2) d=some d1)
  (h:Po (B ((E.set i none).set j (some (.dp,d1)))) (λE1=>∃d2,E1[j]?=some (some (.dp,d2))/\Po (Cc ((E1.set j none).set i (some (.dp,D.put d2 (p1++[n]++p2) d)))) N C R X) (λ_=>False) (λ_=>False) noX):Po (ZX i j m q p1 p2 B Cc E) N C R X:=by
 unfold ZX;rw[h0,hm];dsimp only;rw[Xa ⟨hp,hj⟩,hq];dsimp only;rw[iq];dsimp only;cases hb:B ((E.set i none).set j (some (.dp,d1)))with
 | none=>rw[hb,kz4]at h;exact h.elim
 | some f=>
  rw[hb]at h;cases f with
  |nx E1=>
   rw[ZK]at h;obtain⟨d2,e,h⟩:=h;dsimp only;rw[e];exact h
  |ct E1=>rw[ww0]at h;exact h.elim
  |rt E1 x=>rw[wjf]at h;exact h.elim
  |xc E1 c=>rw[wvz]at h;exact h.elim
  |bk E1=>exact(by unfold Po at h;exact h:False).elim
theorem vqc{E:En}{j:Nat}{kc vc:Ex}{o:Own}{ds:List D}{N C:En->Prop}{R:Sd->Prop}{X:XP}(h0:E[j]?=some (some (o,.lst ds)))
  (h:Eo (kc E) (λE1 x=>∃k:Int,x.2=.int k/\E1[j]?=some (some (o,.lst ds))/\Eo (vc E1) (λE2 y=>E2[j]?=some (some (.dp,.lst ds))/\vK y=true/\(0<=k/\k<=ds.length/\ds.length<10000)/\N (E2.set j (some (.dp,.lst (ds.take k.toNat++y.2::ds.drop k.toNat))))) X) X):Po (vzg j kc vc E) N C R X:=by
 unfold vzg;rw[h0,Xa (show Kj (some (some (o,.lst ds)))=true from rfl),Q2];refine h.mono ?_;rintro E1 ⟨ox,dx⟩ ⟨k,hk,h1,h2⟩;have hk:dx=.int k:=hk;subst hk;show Po (qw (wkx k) j vc E1) N C R X;unfold qw;rw[h1,Xa (show Kj (some (some (o,.lst ds)))=true from rfl),Q2];refine h2.mono ?_;rintro E2 y ⟨h3,h4,⟨k0,k1,k2⟩,h5⟩;rw[h3];dsimp only;have hg:wkx k ds y.2=some (ds.take k.toNat++y.2::ds.drop k.toNat):=by unfold wkx;rw[Xa ⟨k0,k1,by unfold big;omega⟩]
 rw[Xe (by decide),hg];dsimp only;rw[ZK,Xa ⟨rfl,h4⟩];exact h5
theorem qqx{own:Int}{s:D}(h:St own s):s.pure=true:=by
 obtain⟨z,g,to,fs,rfl,hg,hf,_⟩:=h;have e1:g.pure=true:=by rcases hg with rfl|rfl|⟨i,_,_,rfl⟩<;>rfl
 have e2:D.pures fs=true:=by
  rw[D.pures_all,Z2];intro f mz;rcases hf f mz with rfl|rfl|⟨i,_,_,rfl⟩<;>rfl
 show(true&&(g.pure&&(true&&(D.pures fs&&true))))=true;rw[e1,e2];rfl
theorem qzn{own:Int}{st:List D}(h:∀s∈st,St own s):D.pures st=true:=by
 rw[D.pures_all,Z2];exact λs hs=>qqx (h s hs)
theorem vq4{xs:List D}(h:D.pures xs=true):YK (.rt,.lst xs)=true:=by
 unfold YK;show(vK (.rt,.lst xs)||(Own.rt==Own.rt&&D.pures xs))=true;rw[h];simp
theorem kqi{G:D->Sd->Prop}(hG:∀d y,G d y->vK y=true):∀{ds:List D} {ys:List Sd},Each G ds ys->ys.all vK=true
 |[],[],_=>rfl
 |d::ds,y::ys,h=>by rw[List.all_cons,hG d y h.1,kqi hG h.2];rfl
 |[],_::_,h=>nomatch h
 |_::_,[],h=>nomatch h
theorem kj8{ss:List Str}{rs:List D}(hr:∀r∈rs,Rm r):Oo K6 [(.no,q9 ss rs)] (λy=>∃_:Unit,y=(.dp,q9 ss rs)/\True) noX:=by
 unfold K6;refine qx ?_;simp![p0,p1,vxw,vkj,kws (o:=.no) (xs:=ss.map D.str) (by decide)];refine⟨vq4 (D.pures_map _ _ λ_ _=>rfl),?_⟩;refine ZV [] (λd y=>y=(.dp,d)) ?_;simp![p1];refine⟨λd hd=>?_,λys hy=>?_⟩
 ·obtain⟨kp,gd,st,rfl,_,_,b8,_⟩:=hr d hd;simp![t0,t1,t2,kws (o:=.no) (xs:=st) (by decide),vxw,vkj];exact⟨vq4 (qzn b8),rfl,⟨_,rfl⟩,trivial⟩
 ·rw[wka (kqi (λd y h=>by rw[h];rfl) hy),vx8 (λd y h=>by rw[h]) hy];simp only[back,clr];simp![]
  first|trivial|exact⟨rfl,(),trivial⟩|exact⟨rfl,(),rfl,trivial⟩|trace_state
end Nk35
namespace Nk35
open Q PySem C F G
theorem wwv{a b:Int}{ds:List Int}(h:Digs [a,b] ds):∃x y,ds=[x,y]/\0<=x/\x<a/\0<=y/\y<b:=by
 obtain⟨x,e1,x0,x1⟩:=h.get 0 a rfl;obtain⟨y,e2,y0,y1⟩:=h.get 1 b rfl;have hl:=h.len
 match ds,hl,e1,e2 with
 |[p,q],_,e1,e2=>
  have e1:p=x:=by simpa using e1
  have e2:q=y:=by simpa using e2
  exact⟨x,y,by rw[e1,e2],x0,x1,y0,y1⟩
theorem qks{k n:Int}{d:D}{ds:List D}(h:d::ds=jV k n):k<n/\d=.int k/\ds=jV (k+1) n:=by
 by_cases hk:k<=n
 ·exact V1 hk h
 ·unfold jV at h;rw[show(n - k).toNat=0 by omega]at h;cases h
noncomputable def Mom(ss:List Str)(rs:List D)(s0 d:D):Prop:=∃(room p:Int) (ks st:List D) (kp gd:D) (j:Nat) (z:Str),d=.tup [.int room,.int j]/\0<=room/\Rch ss rs s0 (.tup [.int room,.tup ks])/\z∈ss/\rs[room.toNat]?=some (.tup [kp,gd,.lst st])/\D.int j∈jX (kY z ks (.int p)) 0 st
inductive RI1 (ns:List Int)(a b:Int)(ss:List Str)(rs:List D)(ps kps:List Int)(s0:D):En->List D->Prop
 |mk (k:Int) (ms:List D) (s:D) {l6 l7 l8 l9:Option Sd} {jx:List D} (h0:a<=k) (h1:k<=b\/k=a) (h2:jx=jV k b) (h3:(ms.length:Int)<=k - a) (h4:Rch ss rs s0 s) (h5:Sok kps s) (h6:∀d∈ms,Mom ss rs s0 d):RI1 ns a b ss rs ps kps s0 [some (.no,iL ns),some (.no,.int a),some (.no,q9 ss rs),some (.no,iL ps),some (.rt,.lst ms),some (.no,s),l6,l7,l8,l9] jx
theorem qq4(ns:List Int)(a:Int)(ss:List Str)(rs:List D)(ps kps:List Int){kp:Int}{gd st0:D}(rq:ns.length<=63)(ha:0<=a)(oh:a<=100)(hs:1<=ss.length)(fk:ss.length<=3)(hp:ps.length=3)(hR:Rms rs)(hx:Rx ss kps rs)(dk:rs[0]?=some (.tup [.int kp,gd,st0]))(i6:0<=kp)(hk1:kp<=3)(lc:Sok kps (.tup [.int 0,.tup (List.replicate kp.toNat .non)])):
  Oo jkl [(.no,iL ns),(.no,.int a),(.no,q9 ss rs),(.no,iL ps)] (λy=>∃ms,y=(.rt,.lst ms)/\ms.length<=200/\∀d∈ms,Mom ss rs (.tup [.int 0,.tup (List.replicate kp.toNat .non)]) d) noX:=by
 have my:jY (.lst rs) (.int 0)=some (.tup [.int kp,gd,st0]):=wq (by decide) dk;have hne0:fNe (.lst []) (.lst [])=some (.bl false):=rfl;unfold jkl;simp only[h1,h2,h5,h6];refine qx ?_;simp![C.p1,my,C.t0,qjo (o1:=.no) (o2:=.no) (a:=.non) (k:=kp) (by decide) i6 (by omega)];generalize (D.tup [.int 0,.tup (List.replicate kp.toNat .non)])=s0 at *;obtain⟨b,hb,hb2⟩:∃b:Int,wwr (.int ns.length) (.int (a+60))=some (.int b)/\b<=63:=by
  refine⟨_,wkb,?_⟩
  split<;>omega
 by_cases hbl:-1000<=b
 rotate_left
 ·exfalso;rw[wkb]at hb;injection hb with hb;injection hb with hb
  split at hb<;>omega
 refine Jq (RI1 ns a b ss rs ps kps s0) ?_ ?_ ?_
 ·refine vwr ?_;simp![hb];exact⟨_,_,rfl,rfl,by omega,by omega,by omega,by omega,.mk a [] s0 (by omega) (.inr rfl) rfl (by simp) .nil lc (λd h=>nomatch h)⟩
 ·rintro E d ds ⟨k,ms,s,k0,k1,hr,hml,hrc,hok,hmo⟩;obtain⟨hk,rfl,rfl⟩:=qks hr;simp![];refine(W8 ns k (by omega) (by omega)).use ?_;intro x _;simp![];refine(Zz x [6,60] (by decide) (by decide)).use ?_;intro ds hd;obtain⟨v,p,rfl,v0,_,p0',_⟩:=wwv hd;have u0:=Xu v (show(ss.length:Int)≠0 by omega);have u1:=Xm v (show(0:Int)<ss.length by omega);have w0:=Xu p (show(3:Int)≠0 by omega);have w1:=Xm p (show(0:Int)<3 by omega);have esg:jY (sL ss) (.int (v % ss.length))=some (.str (ss[(v % ss.length).toNat]'(by omega))):=wq u0 (by rw[Xw,X1 (by omega)];rfl);have nh:ss[(v % ss.length).toNat]'(by omega)∈ss:=Xk _;generalize ss[(v % ss.length).toNat]'(by omega)=sg at esg nh;obtain⟨nm,enm,hnm,_⟩:=ixI ps (λx=>x∈ps) (λ_ h=>h) (p % 3) w0 (by omega);have iq:At (.int nm):=.inr ⟨nm,rfl⟩;obtain⟨room,ks,st,ju,rfl,r0,er,b8,fw,gu,jg⟩:=W6 hR hx hok;have lh:qX rs (sg,nm) (.tup [.int room,.tup ks])=(jX (kY sg ks (.int nm)) 0 st).map (bh ks st nm):=by unfold qX;rw[QZ er,z8]
  simp![C.p0,mod_i (a:=v) (b:=(ss.length:Int)) (by omega),esg,mod_i (a:=p) (b:=3) (by omega),enm];refine(kzc r0 er b8 (by omega) fw iq).use ?_;intro _ _;have hfi:∀d∈jX (kY sg ks (.int nm)) 0 st,∃i:Int,d=.int i:=λd hd=>kk5 d hd
  cases hf:jX (kY sg ks (.int nm)) 0 st with
  | nil=>
   simp![hne0];exact .mk (k+1) ms _ (by omega) (.inl (by omega)) rfl (by omega) hrc hok hmo
  | cons c fr=>
   have hcm:c∈jX (kY sg ks (.int nm)) 0 st:=by rw[hf];exact X2
   obtain⟨j,rfl,_,hj⟩:=V8 hcm;have hj:j<st.length:=by omega
   have cx:fNe (.lst (.int j::fr)) (.lst [])=some (.bl true):=by
    have:=wk8 hfi;rw[hf]at this;exact this
   have nr:jY (.lst (.int j::fr)) (.int 0)=some (.int j):=by
    refine wq (by decide) ?_;rfl
   have o9:jY (.tup [.int room,.tup ks]) (.int 0)=some (.int room):=rfl;simp![cx];refine zj rfl ?_;simp![nr,o9];refine⟨_,rfl,by omega,?_⟩;simp![nr,mod_i (a:=p) (b:=3) (by omega),enm];refine(qq6 (d:=.int nm) r0 er b8 hj).use ?_;intro _ _;simp![];refine .mk (k+1) (ms++[.tup [.int room,.int j]]) _ ?_ (.inl ?_) rfl ?_ (.step hrc nh (p:=nm) ?_) (kq9 b8 fw gu hj) λd hd=>?_
   ·omega
   ·omega
   ·simp;omega
   ·rw[lh,hf,List.map_cons,W2 hj];exact X2
   ·rcases List.mem_append.mp hd with hd|hd
    ·exact hmo d hd
    ·exact⟨room,nm,ks,st,_,_,j,sg,List.mem_singleton.mp hd,r0,hrc,nh,er,hcm⟩
 ·rintro E ⟨k,ms,s,k0,k1,hr,hml,hrc,hok,hmo⟩;simp![];exact⟨ms,rfl,by omega,hmo⟩
end Nk35
namespace Nk35
open Q PySem C F G
theorem kvv{ss:List Str}{rs st fs:List D}{n j:Nat}{kp gd g:D}{z:Str}{to f9 way own:Int}(hR:∀r∈rs,Rm r)(hr:rs[n]?=some (.tup [kp,gd,.lst st]))(hj:st[j]?=some (.tup [.str z,g,.int to,.tup fs]))(b8:St own (.tup [.str z,g,.int to,.tup fs]))(jg:st.length<=12)(be:0<=f9):
  Oo jkd [(.no,q9 ss rs),(.no,.tup [.int n,.int j]),(.no,.int f9),(.no,.int way)] (λy=>∃(nw:D) (k:Nat),y=(.dp,q9 ss (rs.set n (.tup [kp,gd,.lst (st.take k++nw::st.drop k)])))/\(nw=.tup [.str z,g,.int to,.tup fs]\/nw=.tup [.str z,.str "any",.int to,.tup (List.replicate fs.length .non)])) noX:=by
 have hx5:jY (.lst st) (.int j)=some (.tup [.str z,g,.int to,.tup fs]):=wq (by omega) hj;have ht1:jY (.tup [.int n,.int j]) (.int 1)=some (.int j):=rfl;have hpu:=qqx b8;have iq:D.at ([1]++[n]++[2]) (q9 ss rs)=some (.lst st):=by
  show(match rs[n]? with|some d=>D.at [2] d|none=>none)=_;rw[hr];rfl
 have bv:∀y:D,D.put y ([1]++[n]++[2]) (q9 ss rs)=q9 ss (rs.set n (.tup [kp,gd,y])):=λy=>by
  show D.tup [sL ss,match rs[n]? with|some d=>Q.D.lst (rs.set n (D.put y [2] d))|none=>_]=_;rw[hr];rfl
 unfold jkd;refine qx ?_;simp![];refine(kj8 hR).use ?_;intro _ _;simp![];refine wqf rfl rfl rfl (show 5<10 by decide) rfl iq ?_;simp only[bv,List.set_cons_zero,List.set_cons_succ];simp![ht1,hx5,hpu];have ro:D.pures [.str z,g,.int to,.tup fs]=true:=hpu;rw [Xa ro];have mx:fs.length<=3:=by obtain⟨_,_,_,_,e,_,_,h⟩:=b8;injection e with e;injection e with _ e;injection e with _ e;injection e with _ e;injection e with e _;injection e with e;rw[e];exact h
 have m0:=Xu f9 (show(st.length:Int)+1≠0 by omega);have m1:=Xm f9 (show(0:Int)<(st.length:Int)+1 by omega)
 by_cases hw:way=1
 ·subst hw;have hpn:D.pures [.str z,.str "any",.int to,.tup (List.replicate fs.length .non)]=true:=by
   have:D.pures (List.replicate fs.length .non)=true:=by
    rw[D.pures_all,Z2];intro d hd;rw[Yd hd];rfl
   show(true&&(true&&(true&&(D.pures (List.replicate fs.length .non)&&true))))=true;rw[this];rfl
  have e1:fEq (.int 1) (.int 1)=some (.bl true):=rfl;simp![e1,qjo (o1:=.no) (o2:=.no) (a:=.non) (k:=(fs.length:Int)) (by decide) (by omega) (by omega)];refine vqc rfl ?_;simp![mod_i (a:=f9) (b:=(st.length:Int)+1) (by omega)];refine⟨_,rfl,?_,⟨m0,by omega,by omega⟩,_,rfl,_,_,rfl,.inr (by simp)⟩;show(false||D.pures _)=true;rw[Bool.false_or]
  simpa using hpn
 ·have e1:fEq (.int way) (.int 1)=some (.bl false):=by rw[xq];simp[hw]
  simp![e1];refine vqc rfl ?_;simp![mod_i (a:=f9) (b:=(st.length:Int)+1) (by omega)];exact⟨_,rfl,ro,⟨m0,by omega,by omega⟩,_,rfl,_,_,rfl,.inl rfl⟩
end Nk35
namespace Nk35
open Q PySem C F G
theorem qxu{K:List D}{d:D}{n:Nat}:(vW K d).2.flat (n+2)=true:=by
 unfold vW
 split
 ·show(true&&(D.flats n (List.map D.int _)&&true))=true;rw[wZ λk hk=>by obtain⟨i,_,rfl⟩:=List.mem_map.mp hk;cases n<;>rfl];rfl
 ·cases n<;>rfl
theorem kqo{rs:List D}{s:D}{z:Str}{n:Nat}:∀{ps K:List D} {r:List D×List D},v5 rs s z ps K=some r->D.flats (n+2) r.2=true
 | [],K,r,h=>by rw[v5]at h;cases h;rfl
 | .int p::ps,K,r,h=>by
  rw[v5]at h
  split at h
  ·cases h
  ·rename_i d _;obtain⟨q,hq,rfl⟩:=Option.map_eq_some_iff.mp h;show(D.flat _ _&&D.flats _ _)=true;rw[qxu,kqo hq];rfl
 |.non::_,_,_,h=>by cases h
 |.bl _::_,_,_,h=>by cases h
 |.str _::_,_,_,h=>by cases h
 |.tup _::_,_,_,h=>by cases h
 |.lst _::_,_,_,h=>by cases h
 |.dct _::_,_,_,h=>by cases h
 |.obj _ _::_,_,_,h=>by cases h
theorem kqb{rs:List D}{s:D}{n:Nat}:∀{zs:List Str} {K:List D} {r:List D×List D},vk rs s zs K=some r->D.flats (n+3) r.2=true
 | [],K,r,h=>by rw[vk]at h;cases h;rfl
 | z::zs,K,r,h=>by
  rw[vk]at h
  split at h
  ·cases h
  ·rename_i q hq;obtain⟨q2,p9,rfl⟩:=Option.map_eq_some_iff.mp h;show(D.flats (n+2) q.2&&D.flats (n+3) q2.2)=true;rw[kqo hq,kqb p9];rfl
theorem qx5{rs:List D}{s:D}{n:Nat}(h:∀r∈rs,Rm r):(F.goodD rs s).flat n=true:=by
 unfold F.goodD
 split
 ·split
  ·rename_i g _ e;obtain⟨_,_,_,e2,_⟩:=h _ (Xd e);injection e2 with e2;injection e2 with _ e2;injection e2 with e2 _;rw[e2];cases n<;>rfl
  ·cases n<;>rfl
 ·cases n<;>rfl
theorem qzz{ss:List Str}{rs K ae:List D}{r:Option (List D×List D)}(hR:∀r∈rs,Rm r)(h:Run ss rs K ae r):D.flats 37 ae=true->∀q,r=some q->D.flats 37 q.2=true:=by
 induction h with
 | stop h=>intro h1 q e;cases e;exact h1
 | fail=>intro _ q e;cases e
 | @go K ae K' cm r bj e _ ih=>
  intro h1 q eq;unfold Jv at e;obtain⟨p,hp,e2⟩:=Option.map_eq_some_iff.mp e;cases e2;refine ih ?_ q eq;have app:∀{a b:List D},D.flats 37 a=true->D.flats 37 b=true->D.flats 37 (a++b)=true:=fun {a b} ha hb=>by
   induction a with
   |nil=>exact hb
   |cons x a ih=>
    have ha:(D.flat 37 x&&D.flats 37 a)=true:=ha;rw[Bool.and_eq_true]at ha;show(D.flat 37 x&&D.flats 37 (a++b))=true;rw[ha.1,ih ha.2];rfl
  refine app h1 ?_;show((true&&(D.flat 36 (F.goodD rs _)&&(D.flats 35 p.2&&true)))&&true)=true;rw[qx5 hR,kqb (n:=32) hp];rfl
theorem vje{ss:List Str}{rs:List D}{kps:List Int}{s0:D}{q:List D×List D}(hR:Rms rs)(hx:Rx ss kps rs)(h3:∀k∈kps,k<=3)(h0:Kin kps V4 [s0])(hr:Run ss rs [s0] [] (some q)):(D.tup [q9 ss q.2,.lst q.1]).flat 40=true:=by
 have a1:=kzf hR hx h3 hr h0 q rfl;show((D.flats 37 (ss.map D.str)&&(D.flats 37 q.2&&true))&&(D.flats 38 q.1&&true))=true;rw[wZ λk hk=>by obtain⟨w,_,rfl⟩:=List.mem_map.mp hk;rfl,qzz hR.2.2 hr rfl q rfl,wZ λk hk=>qxd (n:=36) (a1.2 k hk)];rfl
theorem wku{ss:List Str}{rs st:List D}{kps:List Int}{n k:Nat}{kp gd nw:D}(hR:Rms rs)(hx:Rx ss kps rs)(hr:rs[n]?=some (.tup [kp,gd,.lst st]))(hnw:St (kps.getD n 0) nw)(gu:Sx ss kps nw)(h12:st.length<=12):
  Rms (rs.set n (.tup [kp,gd,.lst (st.take k++nw::st.drop k)]))/\Rx ss kps (rs.set n (.tup [kp,gd,.lst (st.take k++nw::st.drop k)])):=by
 have hn:n<rs.length:=(List.getElem?_eq_some_iff.mp hr).1;obtain⟨ju,cy,e,b8⟩:=hx.2 n (by rw[<-hx.1];exact hn);rw[hr]at e;injection e with e;injection e with e;injection e with e1 e;injection e with e2 e;injection e with e3 _;injection e3 with e3;subst e1 e2 e3;obtain⟨sj,gd2,bn,e,k0,k3,fk,_⟩:=hR.2.2 _ (Xd hr);injection e with e;injection e with e1 e;injection e with e2 e;injection e with e3 _;injection e1 with e1;injection e3 with e3;subst e3;rw[<-e1]at fk k0 k3;have mem:∀{P:D->Prop},(∀s∈st,P s)->P nw->∀s∈st.take k++nw::st.drop k,P s:=fun {P} h1 h2 s hs=>by
  rcases List.mem_append.mp hs with hs|hs
  ·exact h1 s (List.mem_of_mem_take hs)
  ·rcases List.mem_cons.mp hs with rfl|hs
   ·exact h2
   ·exact h1 s (List.mem_of_mem_drop hs)
 refine⟨⟨by rw[Yp];exact hR.1,by rw[Yp];exact hR.2.1,λr lf=>?_⟩,by rw[Yp];exact hx.1,λi hi=>?_⟩
 ·rcases List.mem_or_eq_of_mem_set lf with h|rfl
  ·exact hR.2.2 r h
  ·refine⟨_,_,_,rfl,k0,k3,mem fk hnw,?_⟩;simp only[Xi,Z0,Xn,Z1];omega
 ·by_cases e:n=i
  ·subst e;exact⟨ju,_,Y2 hn,mem b8 gu⟩
  ·rw[Xx e];exact hx.2 i hi
theorem vwg{ss:List Str}{rs:List D}{kps:List Int}{z:Str}(hR:Rms rs)(hx:Rx ss kps rs)(hz:z∈ss)(h3:∀k∈kps,0<=k/\k<=3){tw:D}(htw:tw=.tup [.str z,.str "any",.int 0,.tup (List.replicate (kps.getD 0 0).toNat .non)]):
  Rmw (rs++[.tup [.int 0,.bl true,.lst [tw,tw]]])/\Rx ss (kps++[0]) (rs++[.tup [.int 0,.bl true,.lst [tw,tw]]]):=by
 have hl:=hx.1;have h1:=hR.1;have h4:=hR.2.1;have hk:=h3 (kps.getD 0 0) (by rw[X3,X1 (by omega)];exact Xk _);have gt:∀i:Nat,i<kps.length->(kps++[0]).getD i 0=kps.getD i 0:=λi hi=>by
  rw[X3,X3,Xq hi]
 refine⟨⟨by simp,by simp;omega,λr hr=>?_⟩,by simp[hl],λi hi=>?_⟩
 ·rcases List.mem_append.mp hr with hr|hr
  ·exact hR.2.2 r hr
  ·rw[List.mem_singleton.mp hr];refine⟨0,true,_,rfl,by omega,by omega,λs hs=>?_,by simp⟩;have:s=tw:=by simpa using hs
   rw[this,htw];refine⟨z,_,0,_,rfl,.inr (.inl rfl),λf hf=>.inr (.inl (Yd hf)),?_⟩;rw[Xz];omega
 ·by_cases e:i<kps.length
  ·obtain⟨gd,st,e1,e2⟩:=hx.2 i e;refine⟨gd,st,by rw[Xq (by omega),gt i e];exact e1,λs hs=>?_⟩;obtain⟨w,g,to,fs,rfl,a1,a2,a3,a4⟩:=e2 s hs;exact⟨w,g,to,fs,rfl,a1,a2,by simp;omega,by rw[gt _ (by omega)];exact a4⟩
  ·have:i=kps.length:=by simp at hi;omega
   subst this;refine⟨true,[tw,tw],?_,λs hs=>?_⟩
   ·rw[Xy (by omega),hl,Nat.sub_self,X3,Xy (X9 _),Nat.sub_self];rfl
   ·have:s=tw:=by simpa using hs
    rw[this,htw];refine⟨z,_,0,_,rfl,hz,by omega,by simp,?_⟩;rw[Xz];show _=(kps++[0]).getD 0 0;rw[gt 0 (by omega)];omega
end Nk35
namespace Nk35
open Q PySem C F G
section
variable {ss:List Str}{rs:List D}{kps:List Int}{kp:Int}{gd st0:D}{q:List D×List D}
theorem qwa(hR:Rmw rs)(hx:Rx ss kps rs)(h3:∀k∈kps,k<=3)(dk:rs[0]?=some (.tup [.int kp,gd,st0]))(i6:0<=kp)(fq:kp<=3)(hr:Run ss rs [.tup [.int 0,.tup (List.replicate kp.toNat .non)]] [] (some q)):
  Oo (F.m_plain_of (sRz "NotSingle")) [(.no,q9 ss rs)] (λy=>∃_:Unit,y=(.no,.tup [q9 ss q.2,.lst q.1])/\True) noX:=by
 refine(jw1 (X:=noX) hR hx h3 dk i6 fq λh=>by cases h.det hr).mono ?_;rintro y ⟨K,ae,rfl,h⟩;cases h.det hr;exact⟨(),rfl,trivial⟩
theorem qwb(hR:Rmw rs)(hx:Rx ss kps rs)(h3:∀k∈kps,k<=3)(dk:rs[0]?=some (.tup [.int kp,gd,st0]))(i6:0<=kp)(fq:kp<=3)(hr:∀q,¬Run ss rs [.tup [.int 0,.tup (List.replicate kp.toNat .non)]] [] (some q)):
  Oo (F.m_plain_of (sRz "NotSingle")) [(.no,q9 ss rs)] (λ_=>False) (λc=>c="NotSingle"):=by
 refine(jw1 (X:=λc=>c="NotSingle") hR hx h3 dk i6 fq λh=>⟨wvg,rfl⟩).mono ?_;rintro y ⟨K,ae,rfl,h⟩;exact hr _ h
theorem jxv(hR:Rmw rs)(hx:Rx ss kps rs)(h3:∀k∈kps,k<=3)(dk:rs[0]?=some (.tup [.int kp,gd,st0]))(i6:0<=kp)(fq:kp<=3)(hr:Run ss rs [.tup [.int 0,.tup (List.replicate kp.toNat .non)]] [] (some q)):
  Oo Jx [(.no,q9 ss rs)] (λy=>∃_:Unit,y=(.dp,.bl true)/\True) noX:=by
 unfold Jx;simp only[h12];refine qx ?_;simp![↓vkk];refine(qwa hR hx h3 dk i6 fq hr).ox ?_ (λc h=>h.elim);rintro y ⟨_,rfl,_⟩;simp![]
 first|trivial|exact⟨(),trivial⟩|exact⟨(),rfl,trivial⟩
theorem qv0(hR:Rmw rs)(hx:Rx ss kps rs)(h3:∀k∈kps,k<=3)(dk:rs[0]?=some (.tup [.int kp,gd,st0]))(i6:0<=kp)(fq:kp<=3)(hr:∀q,¬Run ss rs [.tup [.int 0,.tup (List.replicate kp.toNat .non)]] [] (some q)):
  Oo Jx [(.no,q9 ss rs)] (λy=>∃_:Unit,y=(.dp,.bl false)/\True) noX:=by
 unfold Jx;simp only[h12];refine qx ?_;simp![↓vkk];refine(qwb hR hx h3 dk i6 fq hr).ox (λy h=>h.elim) ?_;rintro c rfl;refine⟨by simp,?_⟩;simp![]
 first|trivial|exact⟨(),trivial⟩|exact⟨(),rfl,trivial⟩
theorem kinds_ok:Oo YZ [(.no,.obj "NotSingle" [])] (λy=>∃_:Unit,y=(.rt,.lst [.bl true,.bl true,.bl false,.bl false,.bl false,.bl false,.bl false,.bl false,.bl false,.bl false])/\True) noX:=by
 have a1:wY [("NotSingle",true)] (.obj "NotSingle" [])=some (.bl true):=vqb (by decide);have a2:wY [("NotSingle",false)] (.obj "NotSingle" [])=some (.bl false):=vqb (by decide);unfold YZ;refine qx ?_;simp![a1,a2,Wq (o1:=.rt) (o2:=.no) (a:=[.bl true,.bl true,.bl false]) (b:=[.bl false,.bl false,.bl false]) (by decide) (by decide) (by decide),Wq (o1:=.rt) (o2:=.no) (a:=[.bl true,.bl true,.bl false,.bl false,.bl false,.bl false]) (b:=[.bl false,.bl false,.bl false]) (by decide) (by decide) (by decide),Wq (o1:=.rt) (o2:=.no) (a:=[.bl true,.bl true,.bl false,.bl false,.bl false,.bl false,.bl false,.bl false,.bl false]) (b:=[.bl false]) (by decide) (by decide) (by decide)]
 first|trivial|exact⟨(),trivial⟩|exact⟨(),rfl,trivial⟩
theorem qkr(hR:Rmw rs)(hx:Rx ss kps rs)(h3:∀k∈kps,k<=3)(dk:rs[0]?=some (.tup [.int kp,gd,st0]))(i6:0<=kp)(fq:kp<=3)(hr:∀q,¬Run ss rs [.tup [.int 0,.tup (List.replicate kp.toNat .non)]] [] (some q)):
  Oo Zw [(.no,q9 ss rs)] (λy=>∃_:Unit,y=(.rt,.lst [.int 0,.int 1])/\True) noX:=by
 unfold Zw;simp only[h12];refine qx ?_;simp![];refine(qwb hR hx h3 dk i6 fq hr).ox (λy h=>h.elim) ?_;rintro c rfl;refine⟨by simp,?_⟩;simp![];refine kinds_ok.use ?_;intro _ _;simp![];rw[show ∀a:Option Sd,cLC .rt 1 [1] (wj (vE (cF1 (pu1 v9) (vV 1)))) (.n 0) (tEQ (j6 (vV 1) (vV 0))) (cV 0) [a,some (.rt,.lst [.bl true,.bl true,.bl false,.bl false,.bl false,.bl false,.bl false,.bl false,.bl false,.bl false]),none]=some (.ok [a,some (.rt,.lst [.bl true,.bl true,.bl false,.bl false,.bl false,.bl false,.bl false,.bl false,.bl false,.bl false]),none] (.rt,.lst [.int 0,.int 1]))from λ_=>by with_unfolding_all rfl,zK]
 first|trivial|exact⟨(),trivial⟩|exact⟨(),rfl,trivial⟩
end
theorem kwr{ss:List Str}{rs:List D}(h:∀r∈rs,Rm r):(q9 ss rs).flat 40=true:=by
 show D.flats 39 [sL ss,.lst rs]=true;refine wZ λd hd=>?_
 simp only[Yc,Xv,or_false]at hd;rcases hd with rfl|rfl
 ·show D.flats 38 (ss.map D.str)=true;exact wZ λk hk=>by obtain⟨w,_,rfl⟩:=List.mem_map.mp hk;rfl
 ·show D.flats 38 rs=true;exact wZ λr hr=>C.room_flat (n:=34) (h r hr)
theorem qzo{ss:List Str}{rs st:List D}{kps:List Int}{n:Nat}{kp gd:D}(hR:Rms rs)(hx:Rx ss kps rs)(hr:rs[n]?=some (.tup [kp,gd,.lst st])):∀s∈st,St (kps.getD n 0) s/\Sx ss kps s:=by
 have hn:n<rs.length:=(List.getElem?_eq_some_iff.mp hr).1;obtain⟨ju,cy,e,b8⟩:=hx.2 n (by rw[<-hx.1];exact hn);rw[hr]at e;injection e with e;injection e with e;injection e with e1 e;injection e with e2 e;injection e with e3 _;injection e3 with e3;subst e1 e2 e3;obtain⟨sj,gd2,bn,e,k0,k3,fk,_⟩:=hR.2.2 _ (Xd hr);injection e with e;injection e with e1 e;injection e with e2 e;injection e with e3 _;injection e1 with e1;injection e3 with e3;subst e3;rw[<-e1]at fk;exact λs hs=>⟨fk s hs,b8 s hs⟩
theorem wkj(ns:List Int)(rq:ns.length<=63):Oo m_law [(.no,iL ns)] (λy=>y.2=.bl true) noX:=by
 unfold m_law;simp only[h1,h2,h7,h8,h9,h12];refine qx ?_;simp![];refine(W8 ns 0 (by decide) (by decide)).use ?_;intro x0 nr;simp![];refine(W8 ns 1 (by decide) (by decide)).use ?_;intro x1 hx1;have q0:=Xu x1 (show(3:Int)≠0 by decide);have q1:=Xm x1 (show(0:Int)<3 by decide);simp![mod_i (a:=x1) (b:=3) (by decide)];refine(qv1 x0 (1+x1 % 3) nr.1 (by omega) (by omega)).use ?_;rintro ss ⟨hss,hS,mr⟩;simp![];refine(F.single_ok12 W8 ns 6 ss (by decide) (by decide) (by omega) (by omega) mr).use2 ?_;rintro rs at_ ⟨hR,a0,a1,kps,hx,fq,ap,hSg,h12'⟩;have h3:∀k∈kps,k<=3:=λk hk=>(fq k hk).2
 have og:rs.length=kps.length:=hx.1;have hR1:=hR.1;have hR4:=hR.2.1;have ny:kps.length<=4:=by omega
 obtain⟨gd,st0,dk,_⟩:=hx.2 0 (by omega);have dh:=fq (kps.getD 0 0) (by rw[X3,X1 (by omega)];exact Xk _);obtain⟨kp,nq⟩:∃kp,kps.getD 0 0=kp:=⟨_,rfl⟩;rw [nq]at dk dh;have ka:Kin kps V4 [.tup [.int 0,.tup (List.replicate kp.toNat .non)]]:=kvh (hR:=hR) hx (by simp[V4]) dk dh.1;have pz:=vjo hR hx h3 hSg;have hI0:SokV kps V4 (.tup [.int 0,.tup (List.replicate kp.toNat .non)])/\(ap=true->W1 (x3 (.tup [.int 0,.tup (List.replicate kp.toNat .non)]))):=⟨ka.2 _ X2,λ_=>λi j p h _=>by
  have:=Yd (Xd h);cases this⟩
 have lc:=hI0.1.ok;simp![];refine(vvs W8 ns 3 3 (by decide) (by decide) (by decide) (by decide)).use ?_;rintro ps ⟨be,_⟩;simp![];refine(qq4 ns at_ ss rs ps kps rq (by omega) (by omega) (by omega) (by omega) (by omega) hR hx dk dh.1 dh.2 lc).use ?_;rintro ms ⟨hml,hmo⟩;simp![];refine(W8 ns 2 (by decide) (by decide)).use ?_;intro x2 _;simp![];refine(Zz x2 [55440,720720,2] (by decide) (by decide)).use ?_;intro ds hd;obtain⟨i4,f9,way,rfl,c0,_,c1,_,c2,_⟩:=wq7 hd;simp![];refine(kj8 hR.2.2).use ?_;intro _ _;simp![];refine(jw1 (X:=noX) hR hx h3 dk dh.1 dh.2 (λh=>by
  obtain⟨q,e,_⟩:=qzx pz h (λk hk=>by rw[List.mem_singleton.mp hk];exact hI0);cases e)).use2 ?_
 intro K ae dl;have mx:=kwr (ss:=ss) hR.2.2;have hof:(D.tup [q9 ss ae,.lst K]).flat 40=true:=vje hR hx h3 ka dl;have e1:K8 (.bl true) (.bl true)=some (.bl false):=rfl;simp![];refine(jxv hR hx h3 dk dh.1 dh.2 dl).use ?_;intro _ _;simp![e1,kzb mx];obtain⟨z0,hz0,hz0m⟩:∃z0,jY (sL ss) (.int 0)=some (.str z0)/\z0∈ss:=⟨ss[0]'(by omega),wq (by decide) (by rw[Xw];show(ss[0]?).map D.str=_;rw[X1 (by omega)];rfl),Xk _⟩;have my:jY (.lst rs) (.int 0)=some (.tup [.int kp,.bl gd,.lst st0]):=wq (by decide) dk;simp![hz0,p1,my,t0,qjo (o1:=.no) (o2:=.no) (a:=.non) (k:=kp) (by decide) dh.1 (by omega),kws (o:=.no) (xs:=ss.map D.str) (by decide)];generalize htw:D.tup [.str z0,.str "any",.int 0,.tup (List.replicate kp.toNat .non)]=tw;refine(kj8 hR.2.2).use ?_;intro _ _;obtain⟨hR2,hx2⟩:=vwg (tw:=tw) hR hx hz0m fq (by rw[nq];exact htw.symm);have h32:∀k∈kps++[0],k<=3:=λk hk=>by
  rcases List.mem_append.mp hk with hk|hk
  ·exact h3 k hk
  ·rw[List.mem_singleton.mp hk];decide
 have rn:(rs++[.tup [.int 0,.bl true,.lst [tw,tw]]])[0]?=some (.tup [.int kp,.bl gd,.lst st0]):=by rw[Xq (by omega)];exact dk
 have mq:Run ss (rs++[.tup [.int 0,.bl true,.lst [tw,tw]]]) [.tup [.int 0,.tup (List.replicate kp.toNat .non)]] [] (some (K,ae)):=qzy dl _ rfl λs hs=>vke og ((kzf hR hx h3 dl ka _ rfl).2 s hs).ok
 simp![p1,Wq (o1:=.no) (o2:=.no) (a:=rs) (b:=[.tup [.int 0,.bl true,.lst [tw,tw]]]) (by decide) (by decide) (by simp;omega)];refine(jxv hR2 hx2 h32 rn dh.1 dh.2 mq).use ?_;intro _ _;simp![e1];refine(qwa hR2 hx2 h32 rn dh.1 dh.2 mq).use ?_;intro _ _;simp![kzb hof]
 by_cases hms:ms=[]
 ·subst hms;have e2:fEq (.lst []) (.lst [])=some (.bl true):=rfl;simp![e2]
 ·have fm:=List.length_pos_iff.mpr hms;have e2:fEq (.lst ms) (.lst [])=some (.bl false):=by
   have hf:(D.lst ms).flat 40=true:=by
    show D.flats 39 ms=true;refine wZ λd hd=>?_
    obtain⟨_,_,_,_,_,_,_,_,rfl,_⟩:=hmo d hd;rfl
   unfold fEq;rw[hf];cases ms with
   |nil=>exact absurd rfl hms
   |cons a l=>rfl
  have w0:=Xu i4 (show(ms.length:Int)≠0 by omega);have w1:=Xm i4 (show(0:Int)<(ms.length:Int)by omega);obtain⟨m,em,hm⟩:∃m,jY (.lst ms) (.int (i4 % (ms.length:Int)))=some m/\m∈ms:=⟨ms[(i4 % (ms.length:Int)).toNat]'(by omega),wq w0 (X1 _),Xk _⟩;obtain⟨room,p,ks,st,sj,ju,j,z,rfl,r0,hrch,hz,er,dz⟩:=hmo m hm;obtain⟨n,rfl⟩:∃n:Nat,room=n:=⟨room.toNat,by omega⟩;have se:rs[n]?=some (.tup [sj,ju,.lst st]):=by simpa using er
  obtain⟨j',s,ej,hs,hc⟩:=qxg dz;have:j=j':=by injection ej with ej;omega
  subst this;obtain⟨hSt,hSx⟩:=qzo hR hx se s (Xd hs);obtain⟨w,g,to,fs,rfl,b1,b2,b3⟩:=id hSt;obtain⟨w',g',to',fs',e4,d1,d2,d3,d4⟩:=id hSx;injection e4 with e4;injection e4 with e5 e4;injection e4 with e6 e4;injection e4 with e7 e4;injection e4 with e8 _;injection e5 with e5;injection e7 with e7;injection e8 with e8;subst e5 e6 e7 e8;have hwz:(w==z)=true:=by
   have:((w==z)&&v7 ks (.int p) g)=true:=hc;rw[Bool.and_eq_true]at this;exact this.1
  simp![e2,mod_i (a:=i4) (b:=(ms.length:Int)) (by omega),em];refine(kvv hR.2.2 se hs hSt (h12' _ _ _ (Xd se)) c1).use2 ?_;intro nw k hnw;have kg:St (kps.getD n 0) nw/\Sx ss kps nw/\kY z ks (.int p) nw=true:=by
   rcases hnw with rfl|rfl
   ·exact⟨hSt,hSx,hc⟩
   ·refine⟨⟨w,_,to,_,rfl,.inr (.inl rfl),λf hf=>.inr (.inl (Yd hf)),by rw[Xz];exact b3⟩,⟨w,_,to,_,rfl,d1,d2,d3,by rw[Xz];exact d4⟩,?_⟩;show((w==z)&&v7 ks (.int p) (.str "any"))=true;rw[hwz];rfl
  obtain⟨i1,i2,i3⟩:=kg;obtain⟨oj,jb⟩:=wku (k:=k) hR hx se i1 i2 (h12' _ _ _ (Xd se));obtain⟨gd2,bn,jr,_⟩:=jb.2 0 (by omega);rw[nq]at jr;have ig:∀q,¬Run ss (rs.set n (.tup [sj,ju,.lst (st.take k++nw::st.drop k)])) [.tup [.int 0,.tup (List.replicate kp.toNat .non)]] [] (some q):=λq hq=>by
   obtain⟨K',cm⟩:=q;obtain⟨lj,jm,_,hp0⟩:=ww1 oj jb h3 jr dh.1 hq;exact wk6 (room:=(n:Int)) (k:=k) (nw:=nw) er (by simpa using lj) lc (by rw[hp0];exact jm) hrch hz dz i3
  have p8:=kwr (ss:=ss) oj.2.2;generalize rs.set n (.tup [sj,ju,.lst (st.take k++nw::st.drop k)])=rs' at oj jb jr ig p8;simp![];refine(kj8 oj.2.2).use ?_;intro _ _;have e3:K8 (.bl false) (.bl false)=some (.bl false):=rfl;have e4:fNe (.lst [.int 0,.int 1]) (.lst [.int 0,.int 1])=some (.bl false):=rfl;have e5:wv1 (.bl true) (.bl true)=some (.bl true):=rfl;simp![];refine(qv0 oj jb h3 jr dh.1 dh.2 ig).use ?_;intro _ _;simp![e3];refine(qkr oj jb h3 jr dh.1 dh.2 ig).use ?_;intro _ _;simp![e4,kzb p8];refine(jxv hR hx h3 dk dh.1 dh.2 dl).use ?_;intro _ _;simp![e5];refine(qwa hR hx h3 dk dh.1 dh.2 dl).use ?_;intro _ _;simp![C.eq_self hof]
theorem law_true(ns:List Int)(hl:ns.length<=63)(hb:∀i∈ns,Builtin.Int.intBits i<=1048576):∃E o,m_law [(.no,.lst (ns.map D.int))]=some (.ok E (o,.bl true)):=by
 obtain⟨E,⟨o,d⟩,h,hd⟩:=(wkj ns hl).out;have hd:d=.bl true:=hd;subst hd;exact⟨E,o,h⟩
end Nk35
namespace Nk35
open PySem L2 L3 Q
def top(i:Nat):Stmt:=PySem.Challenge.pw_freshrooms_k35_not_told_singly.main.body.getD i (.Pass ⟨0,0,0,0⟩)
abbrev qv5:Stmt:=top 12
abbrev kjh:Stmt:=top 14
abbrev kqv:Stmt:=top 13
abbrev jq6:Stmt:=top 16
abbrev jxz:Stmt:=top 19
abbrev kji:Stmt:=top 17
abbrev kqw:Stmt:=top 18
abbrev jvw:Stmt:=top 26
abbrev jqt:Stmt:=top 27
abbrev jvv:Stmt:=top 24
abbrev jvb:Stmt:=top 25
abbrev jva:Stmt:=top 23
abbrev jz0:Stmt:=top 22
abbrev jwn:Stmt:=top 21
abbrev jwr:Stmt:=top 29
abbrev jve:Stmt:=top 30
abbrev jvx:Stmt:=top 31
abbrev jwp:Stmt:=top 32
abbrev jwo:Stmt:=top 33
abbrev jwt:Stmt:=top 34
abbrev jvz:Stmt:=top 35
abbrev jvc:Stmt:=top 36
abbrev jws:Stmt:=top 37
abbrev jwq:Stmt:=top 38
abbrev jvd:Stmt:=top 39
abbrev jqw:Stmt:=top 40
abbrev jvf:Stmt:=top 41
abbrev jvy:Stmt:=top 42
abbrev jqv:Stmt:=top 43
abbrev jqu:Stmt:=top 44
abbrev jq7:Stmt:=top 45
abbrev vv0:Stmt:=top 46
theorem sc_fits:FnScope ["step","kept","name","asks"] ["step","kept","name"] (k8 qv5):=mkS
theorem qkp:FnScope ["fill","kept","name"] ["fill","kept","name"] (k8 kjh):=mkS
theorem qv4:FnScope ["step","kept","name"] ["step","kept","name"] (k8 kqv):=mkS
theorem jxy:FnScope ["machine"] ["machine"] (k8 jq6):=mkS
theorem kxv:FnScope ["machine","standing"] ["machine","standing"] (k8 jxz):=mkS
theorem sc_fitting:FnScope ["machine","standing","sign","name","kept","steps"] ["machine","standing","sign","name"] (k8 kji):=mkS
theorem sc_behind:FnScope ["machine","standing","number","name","step"] ["machine","standing","number","name"] (k8 kqw):=mkS
theorem sc_names_held:FnScope ["kept","names","name"] ["kept"] (k8 jvw):=mkS
theorem kjg:FnScope ["names","kept"] ["names","kept"] (k8 jqt):=mkS
theorem sc_plain_case:FnScope ["standing","numbers","names","pair"] ["standing","numbers"] (k8 jvv):=mkS
theorem sc_only_behind:FnScope ["machine","standing","sign","name","steps"] ["machine","standing","sign","name"] (k8 jvb):=mkS
theorem sc_plain_cases:FnScope ["machine","pair","sign","numbers","names"] ["machine","pair","sign","numbers"] (k8 jva):=mkS
theorem sc_plain_of:FnScope ["machine","numbers","rooms","pair","steps"] ["machine"] (k8 jz0):=mkS
theorem kw2:FnScope ["machine"] ["machine"] (k8 jwn):=mkS
theorem sc__law_draw:FnScope ["_law_script","_law_k","_law_most","_law_x"] ["_law_script","_law_k"] (k8 jwr):=mkS
theorem sc__law_digits:FnScope ["_law_x","_law_sizes","_law_found","_law_size"] ["_law_x","_law_sizes"] (k8 jve):=mkS
theorem sc__law_signs:FnScope ["_law_x","_law_many","_law_letters","_law_size","_law_at","_law_step","_law_signs_here","_law_k","_law_sign","_law_j","_law_turn"] ["_law_x","_law_many"] (k8 jvx):=mkS
theorem kw4:FnScope ["_law_x"] ["_law_x"] (k8 jwp):=mkS
theorem kw3:FnScope ["_law_script","_law_start","_law_many"] ["_law_script","_law_start","_law_many"] (k8 jwo):=mkS
theorem sc__law_asks:FnScope ["_law_y","_law_here","_law_apart","_law_some"] ["_law_y","_law_here","_law_apart"] (k8 jwt):=mkS
theorem sc__law_fills:FnScope ["_law_z","_law_ask","_law_here","_law_there","_law_apart","_law_some","_law_fills_here","_law_d","_law_one"] ["_law_z","_law_ask","_law_here","_law_there","_law_apart"] (k8 jvz):=mkS
theorem sc__law_single:FnScope ["_law_script","_law_start","_law_signs_here","_law_head","_law_size","_law_keepers","_law_rooms","_law_r","_law_steps","_law_s","_law_y","_law_k","_law_ask","_law_to","_law_fills_here"] ["_law_script","_law_start","_law_signs_here"] (k8 jvc):=mkS
theorem kw6:FnScope ["_law_machine"] ["_law_machine"] (k8 jws):=mkS
theorem kw5:FnScope ["_law_step","_law_kept","_law_name_here"] ["_law_step","_law_kept","_law_name_here"] (k8 jwq):=mkS
theorem sc__law_filled:FnScope ["_law_step","_law_kept","_law_name_here","_law_found","_law_fill"] ["_law_step","_law_kept","_law_name_here"] (k8 jvd):=mkS
theorem sc__law_fitting:FnScope ["_law_machine","_law_standing","_law_sign","_law_name_here","_law_steps"] ["_law_machine","_law_standing","_law_sign","_law_name_here"] (k8 jqw):=mkS
theorem sc__law_behind:FnScope ["_law_machine","_law_standing","_law_k","_law_name_here","_law_step"] ["_law_machine","_law_standing","_law_k","_law_name_here"] (k8 jvf):=mkS
theorem sc__law_kinds:FnScope ["_law_error","_law_found"] ["_law_error"] (k8 jvy):=mkS
theorem sc__law_moments:FnScope ["_law_script","_law_start","_law_machine","_law_pool_here","_law_moments_here","_law_standing","_law_k","_law_sign","_law_pick","_law_some"] ["_law_script","_law_start","_law_machine","_law_pool_here"] (k8 jqv):=mkS
theorem sc__law_refusal:FnScope ["_law_machine","_law_found","_law_error"] ["_law_machine"] (k8 jqu):=mkS
theorem sc__law_with_step:FnScope ["_law_machine","_law_moment","_law_place","_law_way","_law_other","_law_steps","_law_sign","_law_ask","_law_to","_law_fills_here"] ["_law_machine","_law_moment","_law_place","_law_way"] (k8 jq7):=mkS
theorem sc_law:FnScope ["_law_script","_law_signs_here","_law_machine","_law_at","_law_moments_here","_law_which","_law_place","_law_way","_law_handed","_law_due","_law_twice","_law_beside","_law_other","_law_kept"] ["_law_script"] (k8 vv0):=mkS
structure Txt (K:PySem.W.Frag)(mg:Str->Option Value)(a7 ac ai af aj ah a9 ag a8 aa:Addr):Prop where
 b_ValueError:mg "ValueError"=none
 b_enumerate:mg "enumerate"=none
 b_int:mg "int"=none
 b_isinstance:mg "isinstance"=none
 b_len:mg "len"=none
 b_list:mg "list"=none
 b_min:mg "min"=none
 b_range:mg "range"=none
 b_sorted:mg "sorted"=none
 b_tuple:mg "tuple"=none
 n_NotSingle:PySem.W.nsIn K mainGlobals "NotSingle"=some (some (.ref a7))
 m_NotSingle:mg "NotSingle"=some (.ref a7)
 e_NotSingle:ECls K mg "NotSingle" a7
 n_TooGreat:PySem.W.nsIn K mainGlobals "TooGreat"=some (some (.ref ac))
 m_TooGreat:mg "TooGreat"=some (.ref ac)
 n_NoRow:PySem.W.nsIn K mainGlobals "NoRow"=some (some (.ref ai))
 m_NoRow:mg "NoRow"=some (.ref ai)
 n_NoText:PySem.W.nsIn K mainGlobals "NoText"=some (some (.ref af))
 m_NoText:mg "NoText"=some (.ref af)
 n_NoWay:PySem.W.nsIn K mainGlobals "NoWay"=some (some (.ref aj))
 m_NoWay:mg "NoWay"=some (.ref aj)
 n_NoFit:PySem.W.nsIn K mainGlobals "NoFit"=some (some (.ref ah))
 m_NoFit:mg "NoFit"=some (.ref ah)
 n_NoMachine:PySem.W.nsIn K mainGlobals "NoMachine"=some (some (.ref a9))
 m_NoMachine:mg "NoMachine"=some (.ref a9)
 n_NoName:PySem.W.nsIn K mainGlobals "NoName"=some (some (.ref ag))
 m_NoName:mg "NoName"=some (.ref ag)
 n_NoExchange:PySem.W.nsIn K mainGlobals "NoExchange"=some (some (.ref a8))
 m_NoExchange:mg "NoExchange"=some (.ref a8)
 n_RoomError:PySem.W.nsIn K mainGlobals "RoomError"=some (some (.ref aa))
 m_RoomError:mg "RoomError"=some (.ref aa)
 h_NotSingle_NotSingle:PySem.W.exmOne K (.ref a7) (.ref a7)=some true
 i_NotSingle_TooGreat:PySem.W.kitOne K (.ref a7) (.ref ac)=some false
 i_NotSingle_NoRow:PySem.W.kitOne K (.ref a7) (.ref ai)=some false
 i_NotSingle_NoText:PySem.W.kitOne K (.ref a7) (.ref af)=some false
 i_NotSingle_NoWay:PySem.W.kitOne K (.ref a7) (.ref aj)=some false
 i_NotSingle_NoFit:PySem.W.kitOne K (.ref a7) (.ref ah)=some false
 i_NotSingle_NoMachine:PySem.W.kitOne K (.ref a7) (.ref a9)=some false
 i_NotSingle_NoName:PySem.W.kitOne K (.ref a7) (.ref ag)=some false
 i_NotSingle_NotSingle:PySem.W.kitOne K (.ref a7) (.ref a7)=some true
 i_NotSingle_ValueError:PySem.W.kitOne K (.ref a7) (.type "ValueError")=some true
 i_NotSingle_NoExchange:PySem.W.kitOne K (.ref a7) (.ref a8)=some false
 h_NotSingle_RoomError:PySem.W.exmOne K (.ref a7) (.ref aa)=some true
section
variable (P:Program)(w:PySem.World)(K:PySem.W.Frag)(mg:Str->Option Value)(base:Heap)
abbrev vqm:=kW P w K mg base 1 "fits" ["step","kept","name"] (spF K mg 3 m_fits)
abbrev kxp:=kW P w K mg base 1 "held_by" ["fill","kept","name"] (spF K mg 3 m_held_by)
abbrev qkh:=kW P w K mg base 2 "filled" ["step","kept","name"] (spF K mg 3 m_filled)
abbrev jvo:=kW P w K mg base 1 "first_standing" ["machine"] (spF K mg 1 m_first_standing)
abbrev jzf:=kW P w K mg base 1 "steps_at" ["machine","standing"] (spF K mg 2 m_steps_at)
abbrev kxq:=kW P w K mg base 2 "fitting" ["machine","standing","sign","name"] (spF K mg 4 m_fitting)
abbrev qki:=kW P w K mg base 3 "behind" ["machine","standing","number","name"] (spF K mg 4 m_behind)
abbrev jqq:=kW P w K mg base 1 "names_held" ["kept"] (spF K mg 1 m_names_held)
abbrev jwj:=kW P w K mg base 1 "places_among" ["names","kept"] (spF K mg 2 m_places_among)
abbrev jzk:=kW P w K mg base 2 "plain_case" ["standing","numbers"] (spM K mg 1 m_plain_case)
abbrev jxp:=kW P w K mg base 4 "only_behind" ["machine","standing","sign","name"] (spF K mg 4 m_only_behind)
abbrev jxo:=kW P w K mg base 5 "plain_cases" ["machine","pair","sign","numbers"] (spM K mg 3 m_plain_cases)
abbrev jwf:=kW P w K mg base 6 "plain_of" ["machine"] (spF K mg 1 m_plain_of)
abbrev kkl:=kW P w K mg base 7 "is_single" ["machine"] (spF K mg 1 Jx)
abbrev YW:=kW P w K mg base 1 "_law_draw" ["_law_script","_law_k"] (spF K mg 2 m__law_draw)
abbrev YV:=kW P w K mg base 1 "_law_digits" ["_law_x","_law_sizes"] (spF K mg 2 m__law_digits)
abbrev jzl:=kW P w K mg base 2 "_law_signs" ["_law_x","_law_many"] (spF K mg 2 m__law_signs)
abbrev kkn:=kW P w K mg base 1 "_law_name" ["_law_x"] (spF K mg 1 m__law_name)
abbrev kkm:=kW P w K mg base 2 "_law_pool" ["_law_script","_law_start","_law_many"] (spF K mg 3 m__law_pool)
abbrev kkp:=kW P w K mg base 1 "_law_asks" ["_law_y","_law_here","_law_apart"] (spF K mg 3 m__law_asks)
abbrev jzn:=kW P w K mg base 1 "_law_fills" ["_law_z","_law_ask","_law_here","_law_there","_law_apart"] (spF K mg 5 m__law_fills)
abbrev jxq:=kW P w K mg base 2 "_law_single" ["_law_script","_law_start","_law_signs_here"] (spF K mg 3 m__law_single)
abbrev jx1:=kW P w K mg base 1 "_law_copy" ["_law_machine"] (spF K mg 1 K6)
abbrev kko:=kW P w K mg base 1 "_law_fits" ["_law_step","_law_kept","_law_name_here"] (spF K mg 3 m__law_fits)
abbrev jxr:=kW P w K mg base 1 "_law_filled" ["_law_step","_law_kept","_law_name_here"] (spF K mg 3 m__law_filled)
abbrev jwm:=kW P w K mg base 2 "_law_fitting" ["_law_machine","_law_standing","_law_sign","_law_name_here"] (spF K mg 4 m__law_fitting)
abbrev jxs:=kW P w K mg base 2 "_law_behind" ["_law_machine","_law_standing","_law_k","_law_name_here"] (spF K mg 4 m__law_behind)
abbrev jzm:=wv7 P w K mg base 1 "_law_kinds" ["_law_error"] (spF K mg 1 YZ)
abbrev jwl:=kW P w K mg base 3 "_law_moments" ["_law_script","_law_start","_law_machine","_law_pool_here"] (spF K mg 4 jkl)
abbrev jwk:=kW P w K mg base 7 "_law_refusal" ["_law_machine"] (spF K mg 1 Zw)
abbrev jvp:=kW P w K mg base 2 "_law_with_step" ["_law_machine","_law_moment","_law_place","_law_way"] (spF K mg 4 jkd)
end
section
variable {a7 ac ai af aj ah a9 ag a8 aa:Addr}
variable {P:Program}{w:PySem.World}{K:PySem.W.Frag}{mg:Str->Option Value}{base:Heap}{f:Addr}{fd:FuncData}
theorem vwd(T:Txt K mg a7 ac ai af aj ah a9 ag a8 aa)  (F:Fun K "fits" "fits" qv5 f fd):FnOk P w K mg base (CXE P w) 1 f fd ["step","kept","name"] (spF K mg 3 m_fits):=
 qV F sc_fits (qY rfl) λb6 A outer s H vs Q E hr h=>have nd:=sc_fits.nd;qW rfl
  (j9 (qA nd (k9 (kx (vv 0) ki))) (j9 (vJ (kw (vw hr.units) vq (vv 3) ks (k7 _) x5) (jw (kq (q_C zx (λ_=>xQ)))) vY) (j9 (vJ (kw (vw hr.units) vq (vv 3) ks (k7 _) x5) (jw (kq (z7 (kj2 hr.units) kja (vv 2) (vv 1) (by rfl)))) vY) (jw (kq (z7 (vw hr.units) vq (kx (vv 1) (vv 3)) (vv 2) (k7 _))))))) h
theorem qkz(T:Txt K mg a7 ac ai af aj ah a9 ag a8 aa)  (F:Fun K "held_by" "held_by" kjh f fd):FnOk P w K mg base (CXE P w) 1 f fd ["fill","kept","name"] (spF K mg 3 m_held_by):=
 qV F qkp (qY rfl) λb6 A outer s H vs Q E hr h=>qW rfl
  (j9 (vJ (kw Zj kxn (vv 0) kn (k7 _) qkc) (jw (kq kN)) vY) (jw (kq (vvf (kw (vw hr.units) vq (vv 0) ks (k7 _) x5) (cv 2) (k9 (kx (vv 1) (vv 0))))))) h
theorem qw8(T:Txt K mg a7 ac ai af aj ah a9 ag a8 aa)(dv:kxp P w K mg base)(F:Fun K "filled" "filled" kqv f fd):FnOk P w K mg base (CXE P w) 2 f fd ["step","kept","name"] (spF K mg 3 m_filled):=
 qV F qv4 (qY rfl) λb6 A outer s H vs Q E hr h=>qW rfl
  (jw (kq (qT (j5 (qM .rt 1 [1,2] 3 ["fill","kept","name"] (JY (k9 (kx (vv 0) ki))) (λ_ _ _ _ _=>(qC dv hr (j3 (cv 0) (j3 (cv 1) (j3 (cv 2) j8))))))) T.b_tuple))) h
theorem jz4(T:Txt K mg a7 ac ai af aj ah a9 ag a8 aa)  (F:Fun K "first_standing" "first_standing" jq6 f fd):FnOk P w K mg base (CXE P w) 1 f fd ["machine"] (spF K mg 1 m_first_standing):=
 qV F jxy (qY rfl) λb6 A outer s H vs Q E hr h=>qW rfl
  (jw (kq (vQ (o:=.no) (j3 kI (j3 (oX (j5 (vQ (o:=.no) (j3 kN j8))) (kx (kx (kx (vv 0) ki) ki) ki)) j8))))) h
theorem kz9(T:Txt K mg a7 ac ai af aj ah a9 ag a8 aa)  (F:Fun K "steps_at" "steps_at" jxz f fd):FnOk P w K mg base (CXE P w) 1 f fd ["machine","standing"] (spF K mg 2 m_steps_at):=
 qV F kxv (qY rfl) λb6 A outer s H vs Q E hr h=>qW rfl
  (jw (kq (k9 (kx (kx (kx (vv 0) ki) (kx (vv 1) ki)) ki)))) h
theorem qq0(T:Txt K mg a7 ac ai af aj ah a9 ag a8 aa)(ba:jzf P w K mg base)(ib:vqm P w K mg base)(F:Fun K "fitting" "fitting" kji f fd):FnOk P w K mg base (CXE P w) 2 f fd ["machine","standing","sign","name"] (spF K mg 4 m_fitting):=
 qV F sc_fitting (qY rfl) λb6 A outer s H vs Q E hr h=>have nd:=sc_fitting.nd;qW rfl
  (j9 (qA nd (k9 (kx (vv 1) ki))) (j9 (qA nd (qC ba hr (j3 (cv 0) (j3 (cv 1) j8)))) (jw (kq (qm .rt 2 [2,4,3] 6 ["number","step","sign","kept","name"] (vks (cv 5) rfl T.b_enumerate) (λhN _ _ _ _ _=>(Vk (is:=[0,1]) (Vx K (t:=gNs [0,1]) (n:=2) (wX (J8 (i:=0) hN rfl (by first|exact Or.inl rfl|exact Or.inr rfl)) (wX (J8 (i:=1) hN rfl (by first|exact Or.inl rfl|exact Or.inr rfl)) Vw))))) (λ_ _ _ _ _=>(vj2 (QW.pt (Q5 (kw (vw hr.units) vq (kx (vv 1) ki) (vv 2) (k7 _) x5) (Kk (YJ (j5 (qC ib hr (j3 (cv 1) (j3 (cv 3) (j3 (cv 4) j8))))))))))) (λ_ _ _ _ _=>(cv 0))))))) h
theorem qw9(T:Txt K mg a7 ac ai af aj ah a9 ag a8 aa)(ba:jzf P w K mg base)(fe:qkh P w K mg base)(F:Fun K "behind" "behind" kqw f fd):FnOk P w K mg base (CXE P w) 3 f fd ["machine","standing","number","name"] (spF K mg 4 m_behind):=
 qV F sc_behind (qY rfl) λb6 A outer s H vs Q E hr h=>have nd:=sc_behind.nd;qW rfl
  (j9 (qA nd (k9 (kx (j5 (qC ba hr (j3 (cv 0) (j3 (cv 1) j8)))) (vv 2)))) (jw (kq (vQ (o:=.no) (j3 (k9 (kx (vv 4) ki)) (j3 (qC fe hr (j3 (cv 4) (j3 (k9 (kx (vv 1) ki)) (j3 (cv 3) j8)))) j8)))))) h
theorem kv3(T:Txt K mg a7 ac ai af aj ah a9 ag a8 aa)  (F:Fun K "names_held" "names_held" jvw f fd):FnOk P w K mg base (CXE P w) 1 f fd ["kept"] (spF K mg 1 m_names_held):=
 qV F sc_names_held (qY rfl) λb6 A outer s H vs Q E hr h=>have nd:=sc_names_held.nd;qW rfl
  (j9 (qA nd (qJ (o:=.rt) j8)) (j9 (qF (JY (cv 0)) (gN nd) (jw (vJ (QW.pt (Q5 (kw qw2 qza (vv 2) kn (k7 _) qz4) (Kk (kw (kj2 hr.units) kja (vv 2) (vv 1) (by rfl) qkb)))) (jw (qP (cv 2))) vY))) (jw (kq (Z7 (pv 1)))))) h
theorem kjn(T:Txt K mg a7 ac ai af aj ah a9 ag a8 aa)  (F:Fun K "places_among" "places_among" jqt f fd):FnOk P w K mg base (CXE P w) 1 f fd ["names","kept"] (spF K mg 2 m_places_among):=
 qV F kjg (qY rfl) λb6 A outer s H vs Q E hr h=>qW rfl
  (jw (kq (qT (j5 (qM .rt 1 [0] 2 ["name","names"] (JY (cv 1)) (λ_ _ _ _ _=>(vvf (kw Zj kxn (vv 0) kn (k7 _) qkc) kN (vvb hr.units (vv 1) (vv 0)))))) T.b_tuple))) h
theorem kv2(T:Txt K mg a7 ac ai af aj ah a9 ag a8 aa)(ax:jqq P w K mg base)(br:jwj P w K mg base)(F:Fun K "plain_case" "plain_case" jvv f fd):FnOk P w K mg base (CXE P w) 2 f fd ["standing","numbers"] (spM K mg 1 m_plain_case):=
 qV F sc_plain_case (qqy rfl) λb6 A outer s H vs Q E hr h=>have nd:=sc_plain_case.nd;qxc rfl
  (j9 (vJ (kw Zj kxn (vv 0) kn (k7 _) qkc) (jw (kq kN)) vY) (j9 (qA nd (qC ax hr (j3 (k9 (kx (vv 0) ki)) j8))) (j9 (qA nd (vQ (o:=.no) (j3 (k9 (kx (vv 0) ki)) (j3 (qC br hr (j3 (cv 2) (j3 (k9 (kx (vv 0) ki)) j8))) j8)))) (jw (kq (vQ (o:=.no) (j3 (vzy (i:=1) hr.units (pv 1) (vv 3) (j5 (wqv (kxd K) qzc (vv 1) T.b_len qz2))) (j3 (QE.weak (qT (vv 2) T.b_tuple)) wj7)))))))) h
theorem kkx(T:Txt K mg a7 ac ai af aj ah a9 ag a8 aa)(du:kxq P w K mg base)(ez:qki P w K mg base)(F:Fun K "only_behind" "only_behind" jvb f fd):FnOk P w K mg base (CXE P w) 4 f fd ["machine","standing","sign","name"] (spF K mg 4 m_only_behind):=
 qV F sc_only_behind (qY rfl) λb6 A outer s H vs Q E hr h=>have nd:=sc_only_behind.nd;qW rfl
  (j9 (qA nd (qC du hr (j3 (cv 0) (j3 (cv 1) (j3 (cv 2) (j3 (cv 3) j8)))))) (j9 (vJ (kw XV (Q7 (g:=λa b=>decide (b<a))) (j5 (qL (vv 4) T.b_len)) ki (k7 _) Q9) (jw (vv9 T.e_NotSingle T.m_NotSingle QK vq1)) vY) (jw (kq (vvf (YJ (vv 4)) (qC ez hr (j3 (cv 0) (j3 (cv 1) (j3 (k9 (kx (vv 4) ki)) (j3 (cv 3) j8))))) kN))))) h
theorem kkw(T:Txt K mg a7 ac ai af aj ah a9 ag a8 aa)(cp:jzk P w K mg base)(ci:jxp P w K mg base)(ax:jqq P w K mg base)(F:Fun K "plain_cases" "plain_cases" jva f fd):FnOk P w K mg base (CXE P w) 5 f fd ["machine","pair","sign","numbers"] (spM K mg 3 m_plain_cases):=
 qV F sc_plain_cases (qqy rfl) λb6 A outer s H vs Q E hr h=>have nd:=sc_plain_cases.nd;qxc rfl
  (j9 (qA nd (wj1 (j5 (oA (j5 (qL (j5 (qC ax hr (j3 (k9 (kx (vv 1) ki)) j8))) T.b_len)) ki)) T.b_range T.b_list)) (jw (kq (qM .rt 1 [0,1,2,3] 5 ["name","machine","pair","sign","numbers"] (JY (QE.weak (cv 4))) (λ_ _ _ _ _=>(qvl (i:=4) cp (hr.mono (by decide)) QK (wqu (qC ci hr (j3 (cv 1) (j3 (cv 2) (j3 (cv 3) (j3 (cv 0) j8))))) (wxm (i:=4) (pv 4))))))))) h
theorem kza(T:Txt K mg a7 ac ai af aj ah a9 ag a8 aa)(bb:jvo P w K mg base)(c8:jxo P w K mg base)(ax:jqq P w K mg base)(F:Fun K "plain_of" "plain_of" jz0 f fd):FnOk P w K mg base (CXE P w) 6 f fd ["machine"] (spF K mg 1 m_plain_of):=
 qV F sc_plain_of (qY rfl) λb6 A outer s H vs Q E hr h=>have nd:=sc_plain_of.nd;qW rfl
  (j9 (qA nd (wj4 hr.units (qC bb hr (j3 (cv 0) j8)) kI)) (j9 (qA nd (qJ (o:=.rt) j8)) (j9 (vv7 (wju ⟨_,_,rfl,rfl⟩) (kw wjw (Q7 (g:=λa b=>decide (a<b))) (j5 (qL (vv 2) T.b_len)) (j5 (wqv (kxd K) qzc (vv 1) T.b_len qz2)) (k7 _) Q9) (j9 (qA nd (k9 (kx (j5 (zX (kqp rfl) qkf (vv 1) T.b_list Qk)) (j5 (qL (vv 2) T.b_len))))) (j9 (qvj (i:=4) (o:=.rt) (k:=1) (R:=[0,3,1]) ["sign","machine","pair","numbers"] nd rfl (by first|exact Or.inl rfl|exact Or.inr rfl) (JY (QE.weak (k9 (kx (vv 0) ki)))) (λ_ _ _ _ _=>(VY (J8 (i:=0) (show(["sign","machine","pair","numbers"]:List Str).Nodup by decide +kernel) rfl (by first|exact Or.inl rfl|exact Or.inr rfl)))) (λ_ _ _ _ _=>vv8) (λ_ _ _ _ _=>(qvl (i:=3) c8 (hr.mono (by decide)) QK (wqu (cv 1) (wqu (cv 2) (wqu (cv 0) (wxm (i:=3) (pv 3))))))) QK ⟨_,_,rfl,rfl⟩ (by decide) (show ∀j∈([0,3,1]:List Nat) ,j<5 by decide)) (jw (qP (vQ (o:=.no) (j3 (qL (j5 (qC ax hr (j3 (k9 (kx (vv 3) ki)) j8))) T.b_len) (j3 (k9 (kx (kx (kx (vv 0) ki) (kx (vv 3) ki)) ki)) (j3 (cv 4) j8))))))))) (jw (kq (vQ (o:=.no) (j3 (vQ (o:=.no) (j3 (zX (Zv K) kkk (kx (vv 0) ki) T.b_list Qk) (j3 (cv 2) j8))) (j3 (zX (kqp rfl) qkf (vv 1) T.b_list Qk) j8)))))))) h
theorem kwh(T:Txt K mg a7 ac ai af aj ah a9 ag a8 aa)(az:jwf P w K mg base)(F:Fun K "is_single" "is_single" jwn f fd):FnOk P w K mg base (CXE P w) 7 f fd ["machine"] (spF K mg 1 Jx):=
 qV F kw2 (qY rfl) λb6 A outer s H vs Q E hr h=>qW rfl
  (j9 (vzw (cs:=["NotSingle"]) ⟨_,_,rfl,rfl⟩ T.m_NotSingle rfl (kkf T.e_NotSingle T.n_NotSingle T.h_NotSingle_NotSingle kqm) (qvk az (hr.mono (by decide)) (j3 (cv 0) j8)) (λx_x=>(jw (kq (q_C zx (λ_=>xQ)))))) (jw (kq (q_C zx (λ_=>xQ))))) h
theorem kwl(T:Txt K mg a7 ac ai af aj ah a9 ag a8 aa)  (F:Fun K "_law_draw" "_law_draw" jwr f fd):FnOk P w K mg base (CXE P w) 1 f fd ["_law_script","_law_k"] (spF K mg 2 m__law_draw):=
 qV F sc__law_draw (qY rfl) λb6 A outer s H vs Q E hr h=>have nd:=sc__law_draw.nd;qW rfl
  (j9 (qA nd (oX ki (j5 (xJ qji qke ki ki)))) (j9 (qA nd (oA (j5 (oX (j5 (oX (vv 1) (vv 1))) (vv 1))) ki)) (j9 (vJ (kw wjw (Q7 (g:=λa b=>decide (a<b))) (vv 1) (j5 (qL (vv 0) T.b_len)) (k7 _) Q9) (jw (qA nd (k9 (kx (vv 0) (vv 1))))) (jw (vJ (kw XV (Q7 (g:=λa b=>decide (b<a))) (j5 (qL (vv 0) T.b_len)) ki (k7 _) Q9) (jw (qA nd (oX (j5 (oA (j5 (oM (kx (vv 0) (j5 (oM (vv 1) (j5 (qL (vv 0) T.b_len))))) ki)) ki)) (vv 3)))) vY))) (jw (kq (oM (j5 (oX (j5 (oM (vv 3) (vv 2))) (j5 (xJ qji qke ki ki)))) (vv 2))))))) h
theorem kq0(T:Txt K mg a7 ac ai af aj ah a9 ag a8 aa)  (F:Fun K "_law_digits" "_law_digits" jve f fd):FnOk P w K mg base (CXE P w) 1 f fd ["_law_x","_law_sizes"] (spF K mg 2 m__law_digits):=
 qV F sc__law_digits (qY rfl) λb6 A outer s H vs Q E hr h=>have nd:=sc__law_digits.nd;qW rfl
  (j9 (qA nd (qJ (o:=.rt) j8)) (j9 (qF (JY (cv 1)) (gN nd) (j9 (qP (oM (vv 0) (vv 3))) (jw (qA nd (xJ kj1 qkg (vv 0) (vv 3)))))) (jw (kq (Z7 (pv 2)))))) h
theorem kv4(T:Txt K mg a7 ac ai af aj ah a9 ag a8 aa)(ao:YV P w K mg base)(F:Fun K "_law_signs" "_law_signs" jvx f fd):FnOk P w K mg base (CXE P w) 2 f fd ["_law_x","_law_many"] (spF K mg 2 m__law_signs):=
 qV F sc__law_signs (qY rfl) λb6 A outer s H vs Q E hr h=>have nd:=sc__law_signs.nd;qW rfl
  (j9 (qA nd kS) (j9 (kwb (qC ao hr (j3 (cv 0) (j3 (qJ (o:=.rt) (j3 kI (j3 kI (j3 kI j8)))) j8))) (Vk (is:=[3,4,5]) (Vx K (t:=gNs [3,4,5]) (n:=3) (wX (gn nd) (wX (gn nd) (wX (gn nd) Vw)))))) (j9 (qA nd (oM (vv 4) (j5 (oA (vv 3) ki)))) (j9 (qA nd (qJ (o:=.rt) j8)) (j9 (qF (Kv (vv 1) rfl T.b_range) (gN nd) (j9 (qA nd kS) (j9 (qF (Kv (j5 (oA (vv 3) ki)) rfl T.b_range) (gN nd) (j9 (qA nd (oA (j5 (xJ kj1 qkg (vv 0) (j5 (oA ki (j5 (oX (j5 (oX ki (vv 9))) (vv 9))))))) (j5 (oX (j5 (oX (vv 7) (j5 (oA (vv 5) ki)))) (j5 (zX kki qzd (j5 (z7 (vw hr.units) vq (vv 9) (vv 4) (k7 _))) T.b_int qz3)))))) (jw (qA nd (oA (vv 8) (kx (vv 2) (j5 (oM (vv 10) ki)))))))) (jw (qP (cv 8)))))) (jw (kq (wqv (kzm rfl) qz9 (vv 6) T.b_sorted qz1)))))))) h
theorem kwj(T:Txt K mg a7 ac ai af aj ah a9 ag a8 aa)  (F:Fun K "_law_name" "_law_name" jwp f fd):FnOk P w K mg base (CXE P w) 1 f fd ["_law_x"] (spF K mg 1 m__law_name):=
 qV F kw4 (qY rfl) λb6 A outer s H vs Q E hr h=>qW rfl
  (j9 (vJ (kw (vw hr.units) vq (j5 (oM (vv 0) ki)) ki (k7 _) x5) (jw (kq (xJ qw1 qz8 (j5 (oM (j5 (xJ kj1 qkg (vv 0) ki)) ki)) ki))) vY) (jw (kq (oA (j5 (xJ qw1 qz8 (j5 (oM (j5 (xJ kj1 qkg (vv 0) ki)) (j5 (xJ qw1 qz8 (j5 (oX ki (j5 (xJ qji qke ki ki)))) ki)))) (j5 (xJ qji qke ki ki)))) ki)))) h
theorem kwi(T:Txt K mg a7 ac ai af aj ah a9 ag a8 aa)(da:kkn P w K mg base)(au:YW P w K mg base)(F:Fun K "_law_pool" "_law_pool" jwo f fd):FnOk P w K mg base (CXE P w) 2 f fd ["_law_script","_law_start","_law_many"] (spF K mg 3 m__law_pool):=
 qV F kw3 (qY rfl) λb6 A outer s H vs Q E hr h=>qW rfl
  (jw (kq (qM .rt 1 [0,1] 3 ["_law_k","_law_script","_law_start"] (Kv (vv 2) rfl T.b_range) (λ_ _ _ _ _=>(qC da hr (j3 (qC au hr (j3 (cv 1) (j3 (oA (vv 2) (vv 0)) j8))) j8)))))) h
theorem kwn(T:Txt K mg a7 ac ai af aj ah a9 ag a8 aa)  (F:Fun K "_law_asks" "_law_asks" jwt f fd):FnOk P w K mg base (CXE P w) 1 f fd ["_law_y","_law_here","_law_apart"] (spF K mg 3 m__law_asks):=
 qV F sc__law_asks (qY rfl) λb6 A outer s H vs Q E hr h=>have nd:=sc__law_asks.nd;qW rfl
  (j9 (vJ (kw (vw hr.units) vq (kx (vv 0) ki) ki (k7 _) x5) (jw (kq (qJ (o:=.rt) (j3 kS j8)))) vY) (j9 (qA nd (qJ (o:=.rt) j8)) (j9 (vJ (QW.pt (KW (kw XV (Q7 (g:=λa b=>decide (b<a))) (kx (vv 0) ki) ki (k7 _) Q9) (V0 (QW.pt (Q5 (kw (vw hr.units) vq (vv 1) ki (k7 _) x5) (Kk (kw XV (Q7 (g:=λa b=>decide (b<a))) (kx (vv 0) ki) ki (k7 _) Q9))))))) (jw (qP kS)) vY) (j9 (vJ (QW.pt (Q5 (kw XV (Q7 (g:=λa b=>decide (b<a))) (vv 1) ki (k7 _) Q9) (Kk (kw XV (Q7 (g:=λa b=>decide (b<a))) (kx (vv 0) ki) ki (k7 _) Q9)))) (j9 (qP (oM (kx (vv 0) ki) (vv 1))) (jw (vJ (YJ (vv 2)) (jw (qA nd (oA (vv 3) (j5 (qm .rt 1 [3,0] 4 ["_law_k","_law_some","_law_y"] (Kv (vv 1) rfl T.b_range) (λhN _ _ _ _ _=>(VY (J8 (i:=0) hN rfl (by first|exact Or.inl rfl|exact Or.inr rfl)))) (λ_ _ _ _ _=>(vj2 (QW.pt (Q5 (kw (kj2 hr.units) kja (vv 0) (vv 1) (by rfl) qkb) (Kk (kw (vw hr.units) vq (kx (vv 2) (j5 (oA ki (vv 0)))) ki (k7 _) x5)))))) (λ_ _ _ _ _=>(cv 0))))))) vY))) vY) (j9 (vJ (kw (vw hr.units) vq (kx (vv 0) ki) ki (k7 _) x5) (jw (wvn (i:=3) (pv 3) rfl qq3)) vY) (jw (kq (Z7 (pv 3))))))))) h
theorem kv6(T:Txt K mg a7 ac ai af aj ah a9 ag a8 aa)  (F:Fun K "_law_fills" "_law_fills" jvz f fd):FnOk P w K mg base (CXE P w) 1 f fd ["_law_z","_law_ask","_law_here","_law_there","_law_apart"] (spF K mg 5 m__law_fills):=
 qV F sc__law_fills (qY rfl) λb6 A outer s H vs Q E hr h=>have nd:=sc__law_fills.nd;qW rfl
  (j9 (qA nd (oA (j5 (qJ (o:=.rt) (j3 kS (j3 kN j8)))) (j5 (wj1 (vv 2) T.b_range T.b_list)))) (j9 (qA nd (qJ (o:=.rt) j8)) (j9 (qF (JY (wxl (vv 0) wvo (vva (vv 3)))) (gN nd) (j9 (qA nd (k9 (kx (vv 5) (j5 (oM (vv 7) (j5 (qL (vv 5) T.b_len))))))) (j9 (vJ (QW.pt (Q5 (YJ (vv 4)) (Kk (kw qw2 qza (vv 8) kn (k7 _) qz4)))) (jw (vJ (QW.pt (KW (kw (vwa hr.units) vxl (vv 8) (vv 6) (by rfl) vxh) (KW (QW.pt (Q5 (kw (vw hr.units) vq (vv 8) ks (k7 _) x5) (Kk (QW.pt (KW (kw (vw hr.units) vq (vv 1) ks (k7 _) x5) (V0 (kw (vwa hr.units) vxl (vv 1) (vv 6) (by rfl) vxh))))))) (V0 (QW.pt (Q5 (kw (vw hr.units) vq (vv 8) (vv 1) (k7 _) x5) (Kk (kw (vwa hr.units) vxl ks (vv 6) (by rfl) vxh)))))))) (jw (qA nd kN)) vY)) vY) (jw (qP (cv 8)))))) (jw (kq (qT (vv 6) T.b_tuple)))))) h
theorem kky(T:Txt K mg a7 ac ai af aj ah a9 ag a8 aa)(ao:YV P w K mg base)(au:YW P w K mg base)(d9:kkp P w K mg base)(cn:jzn P w K mg base)(F:Fun K "_law_single" "_law_single" jvc f fd):FnOk P w K mg base (CXE P w) 2 f fd ["_law_script","_law_start","_law_signs_here"] (spF K mg 3 m__law_single):=
 qV F sc__law_single (qY rfl) λb6 A outer s H vs Q E hr h=>have nd:=sc__law_single.nd;qW rfl
  (j9 (qA nd (qC ao hr (j3 (qC au hr (j3 (cv 0) (j3 (cv 1) j8))) (j3 (oA (j5 (oA (j5 (qJ (o:=.rt) (j3 kI (j3 kI (j3 kI j8))))) (j5 (oX (j5 (qJ (o:=.rt) (j3 kI j8))) ki)))) (j5 (oX (j5 (qJ (o:=.rt) (j3 kI j8))) ki))) j8)))) (j9 (qA nd (oA ki (kx (vv 3) ki))) (j9 (qvj (i:=5) (o:=.rt) (k:=1) (R:=[3]) ["_law_r","_law_head"] nd rfl (by first|exact Or.inl rfl|exact Or.inr rfl) (Kv (vv 4) rfl T.b_range) (λ_ _ _ _ _=>(VY (J8 (i:=0) (show(["_law_r","_law_head"]:List Str).Nodup by decide +kernel) rfl (by first|exact Or.inl rfl|exact Or.inr rfl)))) (λ_ _ _ _ _=>vv8) (λ_ _ _ _ _=>(oM (kx (vv 1) (j5 (oA ki (vv 0)))) (j5 (oA ki (j5 (zX kki qzd (j5 (z7 (vw hr.units) vq (kx (vv 1) ki) ki (k7 _))) T.b_int qz3)))))) QK ⟨_,_,rfl,rfl⟩ (by decide) (show ∀j∈([3]:List Nat) ,j<15 by decide)) (j9 (qA nd (qJ (o:=.rt) j8)) (j9 (qF (Kv (vv 4) rfl T.b_range) (gN nd) (j9 (qA nd (qJ (o:=.rt) j8)) (j9 (qF (Kv (j5 (qL (vv 2) T.b_len)) rfl T.b_range) (gN nd) (j9 (qA nd (qC au hr (j3 (cv 0) (j3 (oA (j5 (oA (j5 (oA (vv 1) ki)) (j5 (oX (vv 7) (j5 (qL (vv 2) T.b_len)))))) (vv 9)) j8)))) (j9 (qA nd (qC ao hr (j3 (cv 10) (j3 (oA (j5 (qJ (o:=.rt) (j3 kI (j3 kI (j3 kI (j3 kI (j3 kI (j3 kI j8)))))))) (j5 (oX (j5 (qJ (o:=.rt) (j3 kI (j3 kI (j3 kI (j3 kI j8)))))) ki))) j8)))) (jw (qF (vks (qC d9 hr (j3 (cv 10) (j3 (k9 (kx (vv 5) (vv 7))) (j3 (z7 (vw hr.units) vq (kx (vv 3) ki) ki (k7 _)) j8)))) rfl T.b_enumerate) (Vk (is:=[11,12]) (Vx K (t:=gNs [11,12]) (n:=2) (wX (gn nd) (wX (gn nd) Vw)))) (j9 (qA nd (oM (kx (vv 10) (j5 (oA ki (j5 (oX ki (vv 11)))))) (vv 4))) (j9 (qA nd (qC cn hr (j3 (wxl (vv 10) (vva (j5 (oA ki (j5 (oX ki (vv 11)))))) (vva (j5 (oA ki (j5 (oX ki (vv 11))))))) (j3 (cv 12) (j3 (k9 (kx (vv 5) (vv 7))) (j3 (k9 (kx (vv 5) (vv 13))) (j3 (z7 (vw hr.units) vq (kx (vv 3) ki) ki (k7 _)) j8))))))) (jw (qP (vQ (o:=.no) (j3 (k9 (kx (vv 2) (vv 9))) (j3 (cv 12) (j3 (cv 13) (j3 (cv 14) j8)))))))))))))) (jw (qP (vQ (o:=.no) (j3 (k9 (kx (vv 5) (vv 7))) (j3 (z7 (vw hr.units) vq (kx (vv 3) (j5 (oA ki (vv 7)))) ki (k7 _)) (j3 (cv 8) j8))))))))) (jw (kq (vQ (o:=.no) (j3 (vQ (o:=.no) (j3 (zX (Zv K) kkk (vv 2) T.b_list Qk) (j3 (cv 6) j8))) (j3 (oA (j5 (oA (vv 1) ki)) (j5 (oX (vv 4) (j5 (qL (vv 2) T.b_len))))) j8)))))))))) h
theorem kwm(T:Txt K mg a7 ac ai af aj ah a9 ag a8 aa)  (F:Fun K "_law_copy" "_law_copy" jws f fd):FnOk P w K mg base (CXE P w) 1 f fd ["_law_machine"] (spF K mg 1 K6):=
 qV F kw6 (qY rfl) λb6 A outer s H vs Q E hr h=>qW rfl
  (jw (kq (vQ (o:=.dp) (q:=false) (j3 (QE.weak (vzz (zX (Zv K) kkk (kx (vv 0) ki) T.b_list Qk))) (j3 (QE.weak (qM .dp 1 [] 1 ["_law_room"] (JY (k9 (kx (vv 0) ki))) (λ_ _ _ _ _=>(vQ (o:=.dp) (j3 (k9 (kx (vv 0) ki)) (j3 (k9 (kx (vv 0) ki)) (j3 (vzz (zX (Zv K) kkk (kx (vv 0) ki) T.b_list Qk)) j8))))))) wj7))))) h
theorem kwk(T:Txt K mg a7 ac ai af aj ah a9 ag a8 aa)  (F:Fun K "_law_fits" "_law_fits" jwq f fd):FnOk P w K mg base (CXE P w) 1 f fd ["_law_step","_law_kept","_law_name_here"] (spF K mg 3 m__law_fits):=
 qV F kw5 (qY rfl) λb6 A outer s H vs Q E hr h=>qW rfl
  (j9 (vJ (kw (vw hr.units) vq (kx (vv 0) ki) ks (k7 _) x5) (jw (kq (z7 (kj2 hr.units) kja (vv 2) (vv 1) (by rfl)))) vY) (jw (kq (q_or (j5 (z7 (vw hr.units) vq (kx (vv 0) ki) ks (k7 _))) (vkr (z7 (vw hr.units) vq (kx (vv 1) (kx (vv 0) ki)) (vv 2) (k7 _))))))) h
theorem kkz(T:Txt K mg a7 ac ai af aj ah a9 ag a8 aa)  (F:Fun K "_law_filled" "_law_filled" jvd f fd):FnOk P w K mg base (CXE P w) 1 f fd ["_law_step","_law_kept","_law_name_here"] (spF K mg 3 m__law_filled):=
 qV F sc__law_filled (qY rfl) λb6 A outer s H vs Q E hr h=>have nd:=sc__law_filled.nd;qW rfl
  (j9 (qA nd (qJ (o:=.rt) j8)) (j9 (qF (JY (k9 (kx (vv 0) ki))) (gN nd) (jw (vJ (QW.pt (KW (kw Zj kxn (vv 4) kn (k7 _) qkc) (V0 (kw (vw hr.units) vq (vv 4) ks (k7 _) x5)))) (jw (qP (k9 (kx (j5 (qJ (o:=.rt) (j3 (cv 2) (j3 kN j8)))) (j5 (zX kki qzd (j5 (z7 Zj kxn (vv 4) kn (k7 _))) T.b_int qz3)))))) (jw (qP (k9 (kx (vv 1) (vv 4)))))))) (jw (kq (qT (vv 3) T.b_tuple))))) h
theorem kjq(T:Txt K mg a7 ac ai af aj ah a9 ag a8 aa)(cz:kko P w K mg base)(F:Fun K "_law_fitting" "_law_fitting" jqw f fd):FnOk P w K mg base (CXE P w) 2 f fd ["_law_machine","_law_standing","_law_sign","_law_name_here"] (spF K mg 4 m__law_fitting):=
 qV F sc__law_fitting (qY rfl) λb6 A outer s H vs Q E hr h=>have nd:=sc__law_fitting.nd;qW rfl
  (j9 (qA nd (k9 (kx (kx (kx (vv 0) ki) (kx (vv 1) ki)) ki))) (jw (kq (qm .rt 1 [4,2,1,3] 5 ["_law_k","_law_steps","_law_sign","_law_standing","_law_name_here"] (Kv (j5 (qL (vv 4) T.b_len)) rfl T.b_range) (λhN _ _ _ _ _=>(VY (J8 (i:=0) hN rfl (by first|exact Or.inl rfl|exact Or.inr rfl)))) (λ_ _ _ _ _=>(vj2 (QW.pt (Q5 (kw (vw hr.units) vq (kx (kx (vv 1) (vv 0)) ki) (vv 2) (k7 _) x5) (Kk (YJ (j5 (qC cz hr (j3 (k9 (kx (vv 1) (vv 0))) (j3 (k9 (kx (vv 3) ki)) (j3 (cv 4) j8))))))))))) (λ_ _ _ _ _=>(cv 0)))))) h
theorem kq1(T:Txt K mg a7 ac ai af aj ah a9 ag a8 aa)(cf:jxr P w K mg base)(F:Fun K "_law_behind" "_law_behind" jvf f fd):FnOk P w K mg base (CXE P w) 2 f fd ["_law_machine","_law_standing","_law_k","_law_name_here"] (spF K mg 4 m__law_behind):=
 qV F sc__law_behind (qY rfl) λb6 A outer s H vs Q E hr h=>have nd:=sc__law_behind.nd;qW rfl
  (j9 (qA nd (k9 (kx (kx (kx (kx (vv 0) ki) (kx (vv 1) ki)) ki) (vv 2)))) (jw (kq (vQ (o:=.no) (j3 (k9 (kx (vv 4) ki)) (j3 (qC cf hr (j3 (cv 4) (j3 (k9 (kx (vv 1) ki)) (j3 (cv 3) j8)))) j8)))))) h
theorem kv5(T:Txt K mg a7 ac ai af aj ah a9 ag a8 aa)  (F:Fun K "_law_kinds" "_law_kinds" jvy f fd):FnOk0 P w K mg base 1 f fd ["_law_error"] (spF K mg 1 YZ):=
 vxo F sc__law_kinds (qY rfl) λb6 A outer s H vs Q hr h=>have nd:=sc__law_kinds.nd;qW rfl
  (j9 (qA nd (qJ (o:=.rt) (j3 (J9 (vv 0) T.b_isinstance (Kz T.m_NotSingle) rfl (K4 T.n_NotSingle T.i_NotSingle_NotSingle J5)) (j3 (J9 (vv 0) T.b_isinstance (vw2 (v:=.ty "ValueError") rfl T.b_ValueError kvo rfl) rfl (wks T.n_NotSingle T.i_NotSingle_ValueError J5)) (j3 (J9 (vv 0) T.b_isinstance (Kz T.m_NoExchange) rfl (K4 T.n_NotSingle T.i_NotSingle_NoExchange J5)) j8))))) (j9 (qA nd (oA (vv 1) (j5 (qJ (o:=.rt) (j3 (J9 (vv 0) T.b_isinstance (Kz T.m_NoFit) rfl (K4 T.n_NotSingle T.i_NotSingle_NoFit J5)) (j3 (J9 (vv 0) T.b_isinstance (Kz T.m_NoMachine) rfl (K4 T.n_NotSingle T.i_NotSingle_NoMachine J5)) (j3 (J9 (vv 0) T.b_isinstance (Kz T.m_NoName) rfl (K4 T.n_NotSingle T.i_NotSingle_NoName J5)) j8))))))) (j9 (qA nd (oA (vv 1) (j5 (qJ (o:=.rt) (j3 (J9 (vv 0) T.b_isinstance (Kz T.m_NoRow) rfl (K4 T.n_NotSingle T.i_NotSingle_NoRow J5)) (j3 (J9 (vv 0) T.b_isinstance (Kz T.m_NoText) rfl (K4 T.n_NotSingle T.i_NotSingle_NoText J5)) (j3 (J9 (vv 0) T.b_isinstance (Kz T.m_NoWay) rfl (K4 T.n_NotSingle T.i_NotSingle_NoWay J5)) j8))))))) (jw (kq (oA (vv 1) (j5 (qJ (o:=.rt) (j3 (J9 (vv 0) T.b_isinstance (Kz T.m_TooGreat) rfl (K4 T.n_NotSingle T.i_NotSingle_TooGreat J5)) j8))))))))) h
theorem kjp(T:Txt K mg a7 ac ai af aj ah a9 ag a8 aa)(ao:YV P w K mg base)(bq:jwm P w K mg base)(au:YW P w K mg base)(c9:jxs P w K mg base)(F:Fun K "_law_moments" "_law_moments" jqv f fd):FnOk P w K mg base (CXE P w) 3 f fd ["_law_script","_law_start","_law_machine","_law_pool_here"] (spF K mg 4 jkl):=
 qV F sc__law_moments (qY rfl) λb6 A outer s H vs Q E hr h=>have nd:=sc__law_moments.nd;qW rfl
  (j9 (qA nd (qJ (o:=.rt) j8)) (j9 (qA nd (vQ (o:=.no) (j3 kI (j3 (oX (j5 (vQ (o:=.no) (j3 kN j8))) (kx (kx (kx (vv 2) ki) ki) ki)) j8)))) (j9 (qF (wj2 (vv 1) (j5 (q_b2 (qxv rfl) (wx3 λ_ _=>rfl) (j5 (qL (vv 0) T.b_len)) (j5 (oA (vv 1) ki)) T.b_min wqe)) rfl T.b_range) (gN nd) (j9 (kwb (qC ao hr (j3 (qC au hr (j3 (cv 0) (j3 (cv 6) j8))) (j3 (qJ (o:=.rt) (j3 kI (j3 kI j8))) j8))) (Vk (is:=[7,8]) (Vx K (t:=gNs [7,8]) (n:=2) (wX (gn nd) (wX (gn nd) Vw))))) (j9 (qA nd (k9 (kx (kx (vv 2) ki) (j5 (oM (vv 7) (j5 (qL (kx (vv 2) ki) T.b_len))))))) (j9 (qA nd (qC bq hr (j3 (cv 2) (j3 (cv 5) (j3 (cv 7) (j3 (k9 (kx (vv 3) (j5 (oM (vv 8) ki)))) j8)))))) (jw (vJ (kw (qw5 hr.units) ZQ (vv 9) (j5 (qJ (o:=.rt) j8)) (k7 _) qz5) (j9 (qP (vQ (o:=.no) (j3 (k9 (kx (vv 5) ki)) (j3 (k9 (kx (vv 9) ki)) j8)))) (jw (qA nd (qC c9 hr (j3 (cv 2) (j3 (cv 5) (j3 (k9 (kx (vv 9) ki)) (j3 (k9 (kx (vv 3) (j5 (oM (vv 8) ki)))) j8)))))))) vY)))))) (jw (kq (Z7 (pv 4))))))) h
theorem kjo(T:Txt K mg a7 ac ai af aj ah a9 ag a8 aa)(az:jwf P w K mg base)(ck:jzm P w K mg base)(F:Fun K "_law_refusal" "_law_refusal" jqu f fd):FnOk P w K mg base (CXE P w) 7 f fd ["_law_machine"] (spF K mg 1 Zw):=
 qV F sc__law_refusal (qY rfl) λb6 A outer s H vs Q E hr h=>have nd:=sc__law_refusal.nd;qW rfl
  (j9 (qA nd (qJ (o:=.rt) j8)) (j9 (vzx (i:=2) (cs:=["NotSingle"]) nd rfl rfl ⟨_,_,rfl,rfl⟩ T.m_RoomError rfl (kkf T.e_NotSingle T.n_NotSingle T.h_NotSingle_RoomError kqm) (qvk az (hr.mono (by decide)) (j3 (cv 0) j8)) (λx_x=>(jw (qA nd (vve (Z:=⟨K,mg,E⟩) ck (vj0 (hr.mono (by decide))) (j3 (cv 2) j8)))))) (jw (kq (qm .rt 1 [1] 3 ["_law_k","_law_found"] (Kv (j5 (qL (vv 1) T.b_len)) rfl T.b_range) (λhN _ _ _ _ _=>(VY (J8 (i:=0) hN rfl (by first|exact Or.inl rfl|exact Or.inr rfl)))) (λ_ _ _ _ _=>(vj2 (YJ (kx (vv 1) (vv 0))))) (λ_ _ _ _ _=>(cv 0))))))) h
theorem jz5(T:Txt K mg a7 ac ai af aj ah a9 ag a8 aa)(b5:jx1 P w K mg base)(F:Fun K "_law_with_step" "_law_with_step" jq7 f fd):FnOk P w K mg base (CXE P w) 2 f fd ["_law_machine","_law_moment","_law_place","_law_way"] (spF K mg 4 jkd):=
 qV F sc__law_with_step (qY rfl) λb6 A outer s H vs Q E hr h=>have nd:=sc__law_with_step.nd;qW rfl
  (j9 (qA nd (qC b5 hr (j3 (cv 0) j8))) (wvr (i:=4) (j:=5) (m:=1) (q:=[0]) (p:=[1]) (p2:=[2]) nd rfl (by first|exact Or.inl rfl|exact Or.inr rfl) (qvo 2 (vvk (qjf 1 (qvn K (pv 4)) (λ_ _=>rfl)) (qjf 0 (qvn K (pv 1)) (λ_ _=>rfl)) (λ_ _=>rfl)) (λ_ _=>rfl)) (kwb (k9 (kx (vv 5) (kx (vv 1) ki))) (Vk (is:=[6,7,8,9]) (Vx K (t:=gNs [6,7,8,9]) (n:=4) (wX (gn nd) (wX (gn nd) (wX (gn nd) (wX (gn nd) Vw))))))) (vJ (kw (vw hr.units) vq (vv 3) ki (k7 _) x5) (j9 (qA nd kS) (jw (qA nd (oX (j5 (vQ (o:=.no) (j3 kN j8))) (j5 (qL (vv 9) T.b_len)))))) vY) (wvp (j:=5) (pv 5) (oM (vv 2) (j5 (oA (j5 (qL (vv 5) T.b_len)) ki))) (vQ (o:=.no) (j3 (cv 6) (j3 (cv 7) (j3 (cv 8) (j3 (cv 9) j8))))) rfl qwf) (jw (kq (Z7 (pv 4)))))) h
theorem wk1(T:Txt K mg a7 ac ai af aj ah a9 ag a8 aa)(cq:jzl P w K mg base)(ce:jxq P w K mg base)(bt:jwl P w K mg base)(ao:YV P w K mg base)(b5:jx1 P w K mg base)(az:jwf P w K mg base)(b9:jvp P w K mg base)(au:YW P w K mg base)(db:kkm P w K mg base)(b7:kkl P w K mg base)(bu:jwk P w K mg base)(F:Fun K "law" "law" vv0 f fd):FnOk P w K mg base (CXE P w) 8 f fd ["_law_script"] (spF K mg 1 m_law):=
 qV F sc_law (qY rfl) λb6 A outer s H vs Q E hr h=>have nd:=sc_law.nd;qW rfl
  (j9 (qA nd (qC cq hr (j3 (qC au hr (j3 (cv 0) (j3 kI j8))) (j3 (oA ki (j5 (oM (j5 (qC au hr (j3 (cv 0) (j3 kI j8)))) ki))) j8)))) (j9 (kwb (qC ce hr (j3 (cv 0) (j3 kI (j3 (cv 1) j8)))) (Vk (is:=[2,3]) (Vx K (t:=gNs [2,3]) (n:=2) (wX (gn nd) (wX (gn nd) Vw))))) (j9 (qA nd (qC bt hr (j3 (cv 0) (j3 (cv 3) (j3 (cv 2) (j3 (qC db hr (j3 (cv 0) (j3 kI (j3 kI j8)))) j8)))))) (j9 (kwb (qC ao hr (j3 (qC au hr (j3 (cv 0) (j3 kI j8))) (j3 (qJ (o:=.rt) (j3 kI (j3 kI (j3 kI j8)))) j8))) (Vk (is:=[5,6,7]) (Vx K (t:=gNs [5,6,7]) (n:=3) (wX (gn nd) (wX (gn nd) (wX (gn nd) Vw)))))) (j9 (qA nd (qC b5 hr (j3 (cv 2) j8))) (j9 (qA nd (qC az hr (j3 (cv 8) j8))) (j9 (vJ (QW.pt (KW (kw qw4 kzs (j5 (qC b7 hr (j3 (cv 8) j8))) (j5 (q_C zx (λ_=>xQ))) (k7 _) kzo) (V0 (kw (qw5 hr.units) ZQ (vv 8) (vv 2) (k7 _) qz5)))) (jw (kq (q_C zx (λ_=>xQ)))) vY) (j9 (qA nd (vQ (o:=.no) (j3 (k9 (kx (vv 1) ki)) (j3 kS (j3 kI (j3 (oX (j5 (vQ (o:=.no) (j3 kN j8))) (kx (kx (kx (vv 2) ki) ki) ki)) j8)))))) (j9 (qA nd (vQ (o:=.no) (j3 (zX (Zv K) kkk (vv 1) T.b_list Qk) (j3 (oA (kx (j5 (qC b5 hr (j3 (cv 2) j8))) ki) (j5 (qJ (o:=.rt) (j3 (vQ (o:=.no) (j3 kI (j3 (q_C zx (λ_=>xQ)) (j3 (qJ (o:=.rt) (j3 (cv 10) (j3 (cv 10) j8))) j8)))) j8)))) j8)))) (j9 (vJ (QW.pt (KW (kw qw4 kzs (j5 (qC b7 hr (j3 (cv 11) j8))) (j5 (q_C zx (λ_=>xQ))) (k7 _) kzo) (V0 (kw (qw5 hr.units) ZQ (j5 (qC az hr (j3 (cv 11) j8))) (vv 9) (k7 _) qz5)))) (jw (kq (q_C zx (λ_=>xQ)))) vY) (j9 (vJ (kw (vw hr.units) vq (vv 4) (j5 (qJ (o:=.rt) j8)) (k7 _) x5) (jw (kq (q_C zx (λ_=>xQ)))) vY) (j9 (qA nd (qC b9 hr (j3 (cv 2) (j3 (k9 (kx (vv 4) (j5 (oM (vv 5) (j5 (qL (vv 4) T.b_len)))))) (j3 (cv 6) (j3 (cv 7) j8)))))) (j9 (qA nd (qC b5 hr (j3 (cv 12) j8))) (j9 (vJ (QW.pt (KW (kw qw4 kzs (j5 (qC b7 hr (j3 (cv 12) j8))) (j5 (q_C zx (λ_=>xQ))) (k7 _) kzo) (KW (kw (qw5 hr.units) ZQ (j5 (qC bu hr (j3 (cv 12) j8))) (j5 (qJ (o:=.rt) (j3 kI (j3 kI j8)))) (k7 _) qz5) (V0 (kw (qw5 hr.units) ZQ (vv 12) (vv 13) (k7 _) qz5))))) (jw (kq (q_C zx (λ_=>xQ)))) vY) (jw (kq (wvu (j5 (z7 ww7 wqk (j5 (qC b7 hr (j3 (cv 8) j8))) (j5 (q_C zx (λ_=>xQ))) (k7 _))) (vkr (z7 (vw hr.units) vq (j5 (qC az hr (j3 (cv 8) j8))) (vv 9) (k7 _)))))))))))))))))))) h
end
theorem all_mk{l:PySem.W.OpenLaw}{w:PySem.World}{K:PySem.W.Frag}{h:Heap}{mg:Str->Option Value}{fa:Addr}(X:K.In h)(G:h.Ns mainGlobals mg)(iw:mg "law"=some (.ref fa)){a7 ac ai af aj ah a9 ag a8 aa:Addr}
  (g0:Gf K "fits" qv5)
  (g1:Gf K "held_by" kjh)
  (g2:Gf K "filled" kqv)
  (g3:Gf K "first_standing" jq6)
  (g4:Gf K "steps_at" jxz)
  (g5:Gf K "fitting" kji)
  (g6:Gf K "behind" kqw)
  (g7:Gf K "names_held" jvw)
  (g8:Gf K "places_among" jqt)
  (g9:Gf K "plain_case" jvv)
  (g10:Gf K "only_behind" jvb)
  (g11:Gf K "plain_cases" jva)
  (g12:Gf K "plain_of" jz0)
  (g13:Gf K "is_single" jwn)
  (g14:Gf K "_law_draw" jwr)
  (g15:Gf K "_law_digits" jve)
  (g16:Gf K "_law_signs" jvx)
  (g17:Gf K "_law_name" jwp)
  (g18:Gf K "_law_pool" jwo)
  (g19:Gf K "_law_asks" jwt)
  (g20:Gf K "_law_fills" jvz)
  (g21:Gf K "_law_single" jvc)
  (g22:Gf K "_law_copy" jws)
  (g23:Gf K "_law_fits" jwq)
  (g24:Gf K "_law_filled" jvd)
  (g25:Gf K "_law_fitting" jqw)
  (g26:Gf K "_law_behind" jvf)
  (g27:Gf K "_law_kinds" jvy)
  (g28:Gf K "_law_moments" jqv)
  (g29:Gf K "_law_refusal" jqu)
  (g30:Gf K "_law_with_step" jq7)
  (g31:Gf K "law" vv0)
  (z_ValueError:PySem.W.nsIn K mainGlobals "ValueError"=some none)
  (z_enumerate:PySem.W.nsIn K mainGlobals "enumerate"=some none)
  (z_int:PySem.W.nsIn K mainGlobals "int"=some none)
  (z_isinstance:PySem.W.nsIn K mainGlobals "isinstance"=some none)
  (z_len:PySem.W.nsIn K mainGlobals "len"=some none)
  (z_list:PySem.W.nsIn K mainGlobals "list"=some none)
  (z_min:PySem.W.nsIn K mainGlobals "min"=some none)
  (z_range:PySem.W.nsIn K mainGlobals "range"=some none)
  (z_sorted:PySem.W.nsIn K mainGlobals "sorted"=some none)
  (z_tuple:PySem.W.nsIn K mainGlobals "tuple"=some none)
  (n_NotSingle:PySem.W.nsIn K mainGlobals "NotSingle"=some (some (.ref a7)))
  (ec_NotSingle:PySem.W.excIn K a7 bmV "ValueError.__new__"=true) (ga_NotSingle:PySem.W.findIn K (.ref a7) "__getattribute__"=some (some (.builtin "BaseException.__getattribute__"))) (gt_NotSingle:PySem.W.findIn K (.ref a7) "__getattr__"=some none) (fa_NotSingle:PySem.W.findIn K (.ref a7) "__class__"=some (some (.builtin "object.__class__"))) (fg_NotSingle:PySem.W.specialIn K (.builtin "object.__class__") "__get__"=some (some (.builtin "getset_descriptor.__get__"))) (ft_NotSingle:PySem.W.takesIn K (.builtin "object.__class__")=some true) (ob_NotSingle:PySem.W.mroIn K a7 (.type "object")=some true) (bx_NotSingle:PySem.W.mroIn K a7 (.type "BaseException")=some true) (cl_NotSingle:PySem.W.isClsIn K a7=true)
  (n_TooGreat:PySem.W.nsIn K mainGlobals "TooGreat"=some (some (.ref ac)))
  (n_NoRow:PySem.W.nsIn K mainGlobals "NoRow"=some (some (.ref ai)))
  (n_NoText:PySem.W.nsIn K mainGlobals "NoText"=some (some (.ref af)))
  (n_NoWay:PySem.W.nsIn K mainGlobals "NoWay"=some (some (.ref aj)))
  (n_NoFit:PySem.W.nsIn K mainGlobals "NoFit"=some (some (.ref ah)))
  (n_NoMachine:PySem.W.nsIn K mainGlobals "NoMachine"=some (some (.ref a9)))
  (n_NoName:PySem.W.nsIn K mainGlobals "NoName"=some (some (.ref ag)))
  (n_NoExchange:PySem.W.nsIn K mainGlobals "NoExchange"=some (some (.ref a8)))
  (n_RoomError:PySem.W.nsIn K mainGlobals "RoomError"=some (some (.ref aa)))
  (h_NotSingle_NotSingle:PySem.W.exmOne K (.ref a7) (.ref a7)=some true)
  (i_NotSingle_TooGreat:PySem.W.kitOne K (.ref a7) (.ref ac)=some false)
  (i_NotSingle_NoRow:PySem.W.kitOne K (.ref a7) (.ref ai)=some false)
  (i_NotSingle_NoText:PySem.W.kitOne K (.ref a7) (.ref af)=some false)
  (i_NotSingle_NoWay:PySem.W.kitOne K (.ref a7) (.ref aj)=some false)
  (i_NotSingle_NoFit:PySem.W.kitOne K (.ref a7) (.ref ah)=some false)
  (i_NotSingle_NoMachine:PySem.W.kitOne K (.ref a7) (.ref a9)=some false)
  (i_NotSingle_NoName:PySem.W.kitOne K (.ref a7) (.ref ag)=some false)
  (i_NotSingle_NotSingle:PySem.W.kitOne K (.ref a7) (.ref a7)=some true)
  (i_NotSingle_ValueError:PySem.W.kitOne K (.ref a7) (.type "ValueError")=some true)
  (i_NotSingle_NoExchange:PySem.W.kitOne K (.ref a7) (.ref a8)=some false)
  (h_NotSingle_RoomError:PySem.W.exmOne K (.ref a7) (.ref aa)=some true)
  : ∃fd:FuncData,(∀(s:Shared) (v:Value),BindsTo s fd ⟨[v],[]⟩ [("_law_script",v)])/\∀base:Heap,K.In base->base.Ns mainGlobals mg->FnOk l.prog w K mg base (CXE l.prog w) 8 fa fd ["_law_script"] (spF K mg 1 m_law):=by
 have T:Txt K mg a7 ac ai af aj ah a9 ag a8 aa:=⟨Y5 X G z_ValueError,Y5 X G z_enumerate,Y5 X G z_int,Y5 X G z_isinstance,Y5 X G z_len,Y5 X G z_list,Y5 X G z_min,Y5 X G z_range,Y5 X G z_sorted,Y5 X G z_tuple,n_NotSingle,Y6 X G n_NotSingle,⟨Y6 X G n_NotSingle,ec_NotSingle,vqn ga_NotSingle gt_NotSingle fa_NotSingle fg_NotSingle ft_NotSingle ob_NotSingle bx_NotSingle cl_NotSingle⟩,n_TooGreat,Y6 X G n_TooGreat,n_NoRow,Y6 X G n_NoRow,n_NoText,Y6 X G n_NoText,n_NoWay,Y6 X G n_NoWay,n_NoFit,Y6 X G n_NoFit,n_NoMachine,Y6 X G n_NoMachine,n_NoName,Y6 X G n_NoName,n_NoExchange,Y6 X G n_NoExchange,n_RoomError,Y6 X G n_RoomError,h_NotSingle_NotSingle,i_NotSingle_TooGreat,i_NotSingle_NoRow,i_NotSingle_NoText,i_NotSingle_NoWay,i_NotSingle_NoFit,i_NotSingle_NoMachine,i_NotSingle_NoName,i_NotSingle_NotSingle,i_NotSingle_ValueError,i_NotSingle_NoExchange,h_NotSingle_RoomError⟩;refine g31.law X G iw fun {base _ _} F=>?_
 have ib:vqm l.prog w K mg base:=g0.d X G (vwd T );have dv:kxp l.prog w K mg base:=g1.d X G (qkz T );have fe:qkh l.prog w K mg base:=g2.d X G (qw8 T dv);have bb:jvo l.prog w K mg base:=g3.d X G (jz4 T );have ba:jzf l.prog w K mg base:=g4.d X G (kz9 T );have du:kxq l.prog w K mg base:=g5.d X G (qq0 T ba ib);have ez:qki l.prog w K mg base:=g6.d X G (qw9 T ba fe);have ax:jqq l.prog w K mg base:=g7.d X G (kv3 T );have br:jwj l.prog w K mg base:=g8.d X G (kjn T );have cp:jzk l.prog w K mg base:=g9.d X G (kv2 T ax br);have ci:jxp l.prog w K mg base:=g10.d X G (kkx T du ez);have c8:jxo l.prog w K mg base:=g11.d X G (kkw T cp ci ax);have az:jwf l.prog w K mg base:=g12.d X G (kza T bb c8 ax);have b7:kkl l.prog w K mg base:=g13.d X G (kwh T az);have au:YW l.prog w K mg base:=g14.d X G (kwl T );have ao:YV l.prog w K mg base:=g15.d X G (kq0 T );have cq:jzl l.prog w K mg base:=g16.d X G (kv4 T ao);have da:kkn l.prog w K mg base:=g17.d X G (kwj T );have db:kkm l.prog w K mg base:=g18.d X G (kwi T da au);have d9:kkp l.prog w K mg base:=g19.d X G (kwn T );have cn:jzn l.prog w K mg base:=g20.d X G (kv6 T );have ce:jxq l.prog w K mg base:=g21.d X G (kky T ao au d9 cn);have b5:jx1 l.prog w K mg base:=g22.d X G (kwm T );have cz:kko l.prog w K mg base:=g23.d X G (kwk T );have cf:jxr l.prog w K mg base:=g24.d X G (kkz T );have bq:jwm l.prog w K mg base:=g25.d X G (kjq T cz);have c9:jxs l.prog w K mg base:=g26.d X G (kq1 T cf);have ck:jzm l.prog w K mg base:=g27.d0 X G (kv5 T );have bt:jwl l.prog w K mg base:=g28.d X G (kjp T ao bq au c9);have bu:jwk l.prog w K mg base:=g29.d X G (kjo T az ck);have b9:jvp l.prog w K mg base:=g30.d X G (jz5 T b5);exact wk1 T cq ce bt ao b5 az b9 au db b7 bu F
end Nk35
namespace PySem.W.Fast
theorem tw7523031024251725404:True:=⟨⟩
theorem tw1060314047261534037:True:=⟨⟩
theorem tw8571637561995388200:True:=⟨⟩
theorem tw14188429610407341804:True:=⟨⟩
theorem tw14601651496245132577:True:=⟨⟩
theorem tw13290368134879804327:True:=⟨⟩
theorem tw7504866049648595251:True:=⟨⟩
theorem tw16646931515938878880:True:=⟨⟩
theorem tw8477718598156184510:True:=⟨⟩
theorem tw2910133720972622404:True:=⟨⟩
theorem tw9940776491606434543:True:=⟨⟩
theorem tw1319300314251712013:True:=⟨⟩
theorem tw1514933862597938363:True:=⟨⟩
theorem tw17445981003483352897:True:=⟨⟩
theorem tw3526448796276512767:True:=⟨⟩
theorem tw17851347784542805988:True:=⟨⟩
theorem tw15935079510251348817:True:=⟨⟩
theorem tw16835180338066671037:True:=⟨⟩
theorem tw16693679984338683098:True:=⟨⟩
theorem tw9334748393218199483:True:=⟨⟩
theorem tw12700524851638038601:True:=⟨⟩
theorem tw9506008352545946183:True:=⟨⟩
theorem tw18147846213852303590:True:=⟨⟩
theorem tw13199658774982252551:True:=⟨⟩
theorem tw10943424227630602823:True:=⟨⟩
theorem tw1973299814784108562:True:=⟨⟩
theorem tw9522550753091239905:True:=⟨⟩
theorem tw5647558992727082530:True:=⟨⟩
theorem tw12946689957577025527:True:=⟨⟩
theorem tw12087049939255074471:True:=⟨⟩
theorem tw13339893479807169893:True:=⟨⟩
theorem tw16138145280611523094:True:=⟨⟩
theorem tw12106944750073468233:True:=⟨⟩
theorem tw1473038840079543739:True:=⟨⟩
theorem tw3779625028900324910:True:=⟨⟩
theorem tw8318936604064301056:True:=⟨⟩
theorem tw94094746362494177:True:=⟨⟩
theorem tw7525239288740234849:True:=⟨⟩
theorem tw15736142031159342150:True:=⟨⟩
theorem tw8496801393153166653:True:=⟨⟩
theorem tw17746331643347095049:True:=⟨⟩
theorem tw14039662447537087802:True:=⟨⟩
theorem tw5755757029985311757:True:=⟨⟩
theorem tw2085957545784674392:True:=⟨⟩
theorem tw3033207417307515858:True:=⟨⟩
theorem tw272137957154210749:True:=⟨⟩
theorem tw13675144128501598822:True:=⟨⟩
theorem tw8285750656050378991:True:=⟨⟩
theorem tw17580160024941530775:True:=⟨⟩
theorem tw12562777396894592084:True:=⟨⟩
theorem tw11479738719998870351:True:=⟨⟩
theorem tw14786186147660619158:True:=⟨⟩
theorem tw1149590362031616369:True:=⟨⟩
theorem tw7154682619661089084:True:=⟨⟩
theorem tw16947015516358353243:True:=⟨⟩
theorem tw11765103447470264583:True:=⟨⟩
theorem tw2022475914606134915:True:=⟨⟩
theorem tw10042516382939755164:True:=⟨⟩
theorem tw286394895601154807:True:=⟨⟩
theorem tw7659555924434834174:True:=⟨⟩
theorem tw5571614537536539287:True:=⟨⟩
theorem tw14781723188693595703:True:=⟨⟩
theorem tw13729922112401176546:True:=⟨⟩
theorem tw18402312638893507262:True:=⟨⟩
theorem tw7189180427120451797:True:=⟨⟩
theorem tw2409924041242731234:True:=⟨⟩
theorem tw8137318961566767013:True:=⟨⟩
theorem tw14285541394086095268:True:=⟨⟩
theorem tw10803178033053685884:True:=⟨⟩
theorem tw7810458388087118639:True:=⟨⟩
theorem tw14663357837010998477:True:=⟨⟩
theorem tw11009598425367327558:True:=⟨⟩
theorem tw1344197731247281779:True:=⟨⟩
theorem tw5755179915448077294:True:=⟨⟩
theorem tw11849247649468042628:True:=⟨⟩
theorem tw1642483410059155560:True:=⟨⟩
theorem tw2475275840150410454:True:=⟨⟩
theorem tw10756762866295018582:True:=⟨⟩
theorem tw1715208802181943561:True:=⟨⟩
theorem tw9605461639171757034:True:=⟨⟩
theorem tw6160150950250935861:True:=⟨⟩
theorem tw659613014784968233:True:=⟨⟩
theorem tw13059844091964526433:True:=⟨⟩
theorem tw4273759477615579259:True:=⟨⟩
theorem tw8642249953583313776:True:=⟨⟩
theorem tw12275586955689043001:True:=⟨⟩
theorem tw11398065219692307510:True:=⟨⟩
theorem tw15109553965125041723:True:=⟨⟩
theorem tw12542118785036689858:True:=⟨⟩
theorem tw18041134193781300710:True:=⟨⟩
theorem tw732073763542208062:True:=⟨⟩
theorem tw6938162351466798076:True:=⟨⟩
theorem tw10177396906421979603:True:=⟨⟩
theorem tw14199501462542732433:True:=⟨⟩
theorem tw11554440447801874346:True:=⟨⟩
theorem tw15782034484058363522:True:=⟨⟩
theorem tw14534113264901191756:True:=⟨⟩
theorem tw17167746571396937568:True:=⟨⟩
theorem tw11565551193059180610:True:=⟨⟩
theorem tw1155375058294112355:True:=⟨⟩
theorem tw17012602781637324363:True:=⟨⟩
theorem tw7818199774368593957:True:=⟨⟩
theorem tw7494705992237284769:True:=⟨⟩
theorem tw858951861083467470:True:=⟨⟩
theorem tw13957779035339914520:True:=⟨⟩
theorem tw15094898011751408943:True:=⟨⟩
theorem tw17164121669667869610:True:=⟨⟩
theorem tw16501835530608389759:True:=⟨⟩
theorem tw3233102781038690285:True:=⟨⟩
theorem tw12196038604538799711:True:=⟨⟩
theorem tw9336535886537023196:True:=⟨⟩
theorem tw2434012440728567615:True:=⟨⟩
theorem tw13483203842945836529:True:=⟨⟩
theorem tw10193802271377971927:True:=⟨⟩
theorem tw3422677932423983406:True:=⟨⟩
theorem tw7560989590021492482:True:=⟨⟩
theorem tw2270636884939447000:True:=⟨⟩
theorem tw5285941861374577486:True:=⟨⟩
theorem tw10572459138131114932:True:=⟨⟩
theorem tw1393205814374657825:True:=⟨⟩
theorem tw445716481170217167:True:=⟨⟩
theorem tw8202846186086043638:True:=⟨⟩
theorem tw8099294699244357585:True:=⟨⟩
theorem tw10761330053005548443:True:=⟨⟩
theorem tw16461026880205822685:True:=⟨⟩
theorem tw11361073874272491830:True:=⟨⟩
theorem tw9741041833798454269:True:=⟨⟩
theorem tw12151031493149050110:True:=⟨⟩
theorem tw10712193705751623393:True:=⟨⟩
theorem tw16014795340575427454:True:=⟨⟩
theorem tw14439574986464563099:True:=⟨⟩
theorem tw10799500038189774743:True:=⟨⟩
theorem tw5155765533543982217:True:=⟨⟩
theorem tw15790415448701542439:True:=⟨⟩
theorem tw18157211570273900677:True:=⟨⟩
theorem tw8153131040301053200:True:=⟨⟩
theorem tw6171251433710184069:True:=⟨⟩
theorem tw4420121049063040412:True:=⟨⟩
theorem tw12424873696177499553:True:=⟨⟩
theorem tw12535991550660029644:True:=⟨⟩
theorem tw1034528982220829604:True:=⟨⟩
theorem tw16463352020907271446:True:=⟨⟩
theorem tw12731492960267871818:True:=⟨⟩
end PySem.W.Fast
open PySem PySem.W PyProof.Rows
set_option maxRecDepth 100000 in
set_option maxHeartbeats 0 in
theorem PySem.Challenge.cw_freshrooms_k35_not_told_singly_holds : PySem.Challenge.rw_freshrooms_k35_not_told_singly.Holds := by
 w_on;o_law;k_head;(case hw=>w_witness2)
 k_fill
 refine Q.walkQ (l:=PySem.Challenge.rw_freshrooms_k35_not_told_singly) (n:=63) (k:=8) (x:="_law_script") (f:=Nk35.m_law) rfl (by decide) rfl ⟨rfl,by decide,by decide,rfl⟩ (fun w h Y=>PySem.W.kIn_of Y) ?F Nk35.law_true
 case F =>
  intro w mg fa h KX G hmg
  refine' Nk35.all_mk KX G hmg ?_ ?_ ?_ ?_ ?_ ?_ ?_ ?_ ?_ ?_ ?_ ?_ ?_ ?_ ?_ ?_ ?_ ?_ ?_ ?_ ?_ ?_ ?_ ?_ ?_ ?_ ?_ ?_ ?_ ?_ ?_ ?_ ?z_ValueError ?z_enumerate ?z_int ?z_isinstance ?z_len ?z_list ?z_min ?z_range ?z_sorted ?z_tuple ?n_NotSingle ?ec_NotSingle ?ga_NotSingle ?gt_NotSingle ?fa_NotSingle ?fg_NotSingle ?ft_NotSingle ?ob_NotSingle ?bx_NotSingle ?cl_NotSingle ?n_TooGreat ?n_NoRow ?n_NoText ?n_NoWay ?n_NoFit ?n_NoMachine ?n_NoName ?n_NoExchange ?n_RoomError ?h_NotSingle_NotSingle ?i_NotSingle_TooGreat ?i_NotSingle_NoRow ?i_NotSingle_NoText ?i_NotSingle_NoWay ?i_NotSingle_NoFit ?i_NotSingle_NoMachine ?i_NotSingle_NoName ?i_NotSingle_NotSingle ?i_NotSingle_ValueError ?i_NotSingle_NoExchange ?h_NotSingle_RoomError
  all_goals try (refine' Q.Gf.mk ?a ?b ?c ?d;(case a=>k_is);(case b=>k_is);(case c=>k_is);(case d=>k_is))
  (case z_ValueError=>k_is)
  (case z_enumerate=>k_is)
  (case z_int=>k_is)
  (case z_isinstance=>k_is)
  (case z_len=>k_is)
  (case z_list=>k_is)
  (case z_min=>k_is)
  (case z_range=>k_is)
  (case z_sorted=>k_is)
  (case z_tuple=>k_is)
  (case n_NotSingle=>k_is)
  (case ec_NotSingle=>k_exc)
  (case ga_NotSingle=>k_is)
  (case gt_NotSingle=>k_is)
  (case fa_NotSingle=>k_is)
  (case fg_NotSingle=>k_is)
  (case ft_NotSingle=>k_is)
  (case ob_NotSingle=>k_is)
  (case bx_NotSingle=>k_is)
  (case cl_NotSingle=>k_is)
  (case n_TooGreat=>k_is)
  (case n_NoRow=>k_is)
  (case n_NoText=>k_is)
  (case n_NoWay=>k_is)
  (case n_NoFit=>k_is)
  (case n_NoMachine=>k_is)
  (case n_NoName=>k_is)
  (case n_NoExchange=>k_is)
  (case n_RoomError=>k_is)
  (case h_NotSingle_NotSingle=>kts_exm)
  (case i_NotSingle_TooGreat=>kit_is)
  (case i_NotSingle_NoRow=>kit_is)
  (case i_NotSingle_NoText=>kit_is)
  (case i_NotSingle_NoWay=>kit_is)
  (case i_NotSingle_NoFit=>kit_is)
  (case i_NotSingle_NoMachine=>kit_is)
  (case i_NotSingle_NoName=>kit_is)
  (case i_NotSingle_NotSingle=>kit_is)
  (case i_NotSingle_ValueError=>kit_is)
  (case i_NotSingle_NoExchange=>kit_is)
  (case h_NotSingle_RoomError=>kts_exm)
