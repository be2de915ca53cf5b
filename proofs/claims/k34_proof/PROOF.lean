import PyProof.Rows.All
import Wide.All
import OpenK.AllK
import Wide.FinOn
import Lean
import PySem.Challenge.RW_freshrooms_k34_whole_plain_form_alike
set_option Elab.async false
set_option linter.all false
set_option bootstrap.genMatcherCode false
set_option compiler.extract_closed false
set_option maxRecDepth 100000
theorem Ŕq(_:True:=by rfl):True:=trivial
theorem Ŕq.z:True:=trivial
open Ŕq renaming _auto_1→Ŕ
theorem ŕq(_:True:=by decide):True:=trivial
theorem ŕq.z:True:=trivial
open ŕq renaming _auto_1→ŕ
theorem Ŗq(_:True:=by intro _;rfl):True:=trivial
theorem Ŗq.z:True:=trivial
open Ŗq renaming _auto_1→Ŗ
theorem ŗq(_:True:=by decide +kernel):True:=trivial
theorem ŗq.z:True:=trivial
open ŗq renaming _auto_1→ŗ
theorem Řq(_:True:=by first|exact .inl rfl|exact .inr rfl|assumption):True:=trivial
theorem Řq.z:True:=trivial
open Řq renaming _auto_1→Ř
theorem řq(_:True:=by first|exact Or.inl rfl|exact Or.inr (Or.inl rfl)|exact Or.inr (Or.inr rfl)):True:=trivial
theorem řq.z:True:=trivial
open řq renaming _auto_1→ř
theorem Śq(_:True:=by first|exact Or.inl rfl|exact Or.inr rfl):True:=trivial
theorem Śq.z:True:=trivial
open Śq renaming _auto_1→Ś
theorem śq(_:True:=by first|exact .inl rfl|exact .inr rfl):True:=trivial
theorem śq.z:True:=trivial
open śq renaming _auto_1→ś
theorem oq9{α : Type _}{a b : α}(h:some a=some b):a=b:=Option.some.inj h
theorem lr9{α : Type _}{a : α}{b : List α}(c : List α)(h:a ∈ b):a ∈ c ++ b:=List.mem_append_right c h
theorem ll9{α : Type _}{a : α}{b : List α}(c : List α)(h:a ∈ b):a ∈ b ++ c:=List.mem_append_left c h
theorem lc9{α : Type _}{a : α}{l : List α}(b : α)(h:a ∈ l):a ∈ b::l:=List.mem_cons_of_mem b h
section
open PySem PySem.Spec PyProof.Rows
theorem X0:type_of% @wpAny_bind:=@wpAny_bind
theorem X1:type_of% @List.getElem?_eq_getElem:=@List.getElem?_eq_getElem
theorem X2:type_of% @List.getD_eq_getElem?_getD:=@List.getD_eq_getElem?_getD
theorem X3:type_of% @List.mem_cons_self:=@List.mem_cons_self
theorem X4:type_of% @List.length_map:=@List.length_map
theorem X5:type_of% @wpAny_pure:=@wpAny_pure
theorem X6:type_of% @Heap.get?_push_of_some:=@Heap.get?_push_of_some
theorem X7:type_of% @List.size_toArray:=@List.size_toArray
theorem X8:type_of% @Nat.le_refl:=@Nat.le_refl
theorem X9:type_of% @if_pos:=@if_pos
theorem Xa:type_of% @decide_eq_false:=@decide_eq_false
theorem Xb:type_of% @decide_eq_true:=@decide_eq_true
theorem Xd:type_of% @if_neg:=@if_neg
theorem Xe:type_of% @List.mem_map_of_mem:=@List.mem_map_of_mem
theorem Xf:type_of% @List.nodup_append:=@List.nodup_append
theorem Xg:type_of% @List.getElem?_map:=@List.getElem?_map
theorem Xh:type_of% @List.getElem_mem:=@List.getElem_mem
theorem Xi:type_of% @List.length_append:=@List.length_append
theorem Xj:type_of% @Heap.get?_push_size:=@Heap.get?_push_size
theorem Xk:type_of% @Int.emod_lt_of_pos:=@Int.emod_lt_of_pos
theorem Xl:type_of% @Heap.lt_size:=@Heap.lt_size
theorem Xm:type_of% @List.mem_of_getElem?:=@List.mem_of_getElem?
theorem Xn:type_of% @Nat.lt_of_lt_of_le:=@Nat.lt_of_lt_of_le
theorem Xp:type_of% @List.map_append:=@List.map_append
theorem Xq:type_of% @Int.emod_nonneg:=@Int.emod_nonneg
theorem Xr:type_of% @List.length_cons:=@List.length_cons
theorem Xs:type_of% @Int.toNat_natCast:=@Int.toNat_natCast
theorem Xu:type_of% @List.getElem?_append_left:=@List.getElem?_append_left
theorem Xv:type_of% @List.append_nil:=@List.append_nil
theorem Xw:type_of% @List.not_mem_nil:=@List.not_mem_nil
theorem Xx:type_of% @List.nodup_nil:=@List.nodup_nil
theorem Xy:type_of% @List.getElem?_append_right:=@List.getElem?_append_right
theorem Xz:type_of% @List.append_assoc:=@List.append_assoc
theorem Y0:type_of% @wpAny_newObj_type:=@wpAny_newObj_type
theorem Y1:type_of% @Nat.ne_of_lt:=@Nat.ne_of_lt
theorem Y2:type_of% @List.map_map:=@List.map_map
theorem Y3:type_of% @Nat.le_trans:=@Nat.le_trans
theorem Y4:type_of% @PySem.W.mg_none_of:=@PySem.W.mg_none_of
theorem Y5:type_of% @List.map_congr_left:=@List.map_congr_left
theorem Y6:type_of% @PySem.W.kia_one:=@PySem.W.kia_one
theorem Y7:type_of% @wpAny_call_entry:=@wpAny_call_entry
theorem Y8:type_of% @PyProof.Rows.callWith_type1:=@PyProof.Rows.callWith_type1
theorem Y9:type_of% @Nat.zero_le:=@Nat.zero_le
theorem Ya:type_of% @List.prefix_rfl:=@List.prefix_rfl
theorem Yb:type_of% @Array.length_toList:=@Array.length_toList
theorem Yc:type_of% @List.length_replicate:=@List.length_replicate
theorem Yd:type_of% @List.length_singleton:=@List.length_singleton
theorem Ye:type_of% @List.singleton_append:=@List.singleton_append
theorem Yf:type_of% @wpAny_callSpecial?_slot:=@wpAny_callSpecial?_slot
theorem Yg:type_of% @Nat.lt_irrefl:=@Nat.lt_irrefl
theorem Yh:type_of% @List.mem_cons:=@List.mem_cons
theorem Yi:type_of% @Calls.callWith_builtin:=@Calls.callWith_builtin
theorem Yj:type_of% @wpAny_dictEntries:=@wpAny_dictEntries
theorem Yk:type_of% @PySem.mem_of_lookup:=@PySem.mem_of_lookup
theorem Yl:type_of% @wpAny_field:=@wpAny_field
theorem Ym:type_of% @List.drop_eq_getElem_cons:=@List.drop_eq_getElem_cons
theorem Yn:type_of% @Array.getElem?_eq_getElem:=@Array.getElem?_eq_getElem
theorem Yo:type_of% @List.getElem?_eq_none:=@List.getElem?_eq_none
theorem Yp:type_of% @Array.getElem?_toList:=@Array.getElem?_toList
theorem Yq:type_of% @wpAny_typeNameOfWhole_itemiter:=@wpAny_typeNameOfWhole_itemiter
theorem Yr:type_of% @wpAny_holding:=@wpAny_holding
theorem Ys:type_of% @List.getElem?_set_ne:=@List.getElem?_set_ne
theorem Yt:type_of% @F.slot_dict_itemiterator_next:=@F.slot_dict_itemiterator_next
theorem Yu:type_of% @wpAny_typeNameOfWhole_keyiter:=@wpAny_typeNameOfWhole_keyiter
theorem Yv:type_of% @List.flatten_cons:=@List.flatten_cons
theorem Yw:type_of% @List.flatMap_cons:=@List.flatMap_cons
theorem Yx:type_of% @Int.eq_ofNat_of_zero_le:=@Int.eq_ofNat_of_zero_le
theorem Yy:type_of% @Heap.get?_update_ne:=@Heap.get?_update_ne
theorem Yz:type_of% @Heap.SameBut.update:=@Heap.SameBut.update
theorem Z0:type_of% @wpAny_fieldsOf:=@wpAny_fieldsOf
theorem Z1:type_of% @wpAny_passesOwn:=@wpAny_passesOwn
theorem Z2:type_of% @List.foldl_cons:=@List.foldl_cons
theorem Z3:type_of% @of_decide_eq_true:=@of_decide_eq_true
theorem Z4:type_of% @List.length_range:=@List.length_range
theorem Z5:type_of% @List.any_cons:=@List.any_cons
theorem Z6:type_of% @List.lookup_cons:=@List.lookup_cons
theorem Z7:type_of% @Int.mul_le_mul:=@Int.mul_le_mul
theorem Z8:type_of% @Int.mul_nonneg:=@Int.mul_nonneg
end
noncomputable section
namespace L2
open PySem PySem.Spec PyProof.Rows
abbrev Key:=Sum Int Str
noncomputable def wqk:Key->Value->Bool
 |.inl k,v=>Value.isInt k v
 |.inr x,v=>Value.isStrOf x v
noncomputable def keyH(w:World):Key->Int
 |.inl k=>hashInt k
 |.inr x=>hashStr w x
theorem QZ:∀{k:Key} {v:Value},wqk k v=true->(∃i t,k=Sum.inl i/\v=Value.int i t)\/(∃x t,k=Sum.inr x/\v=Value.str x t)
 |.inl i,v,h=>by
  obtain⟨t,e⟩:=Value.isInt_shape (k:=i) (v:=v) h;exact .inl ⟨i,t,rfl,e⟩
 |.inr x,v,h=>by
  obtain⟨t,e⟩:=Value.isStrOf_shape (x:=x) (v:=v) h;exact .inr ⟨x,t,rfl,e⟩
theorem wqj(a b:Int):decide ((Sum.inl a:Key)=Sum.inl b)=(a==b):=by
 by_cases e:a=b
 ·subst e;simp
 ·have h:¬(Sum.inl a:Key)=Sum.inl b:=λq=>e (Sum.inl.inj q)
  rw[Xa h];exact(beq_eq_false_iff_ne.mpr e).symm
theorem wqg(a b:Str):decide ((Sum.inr a:Key)=Sum.inr b)=decide (a=b):=by
 by_cases e:a=b
 ·subst e;simp
 ·have h:¬(Sum.inr a:Key)=Sum.inr b:=λq=>e (Sum.inr.inj q)
  rw[Xa h,Xa e]
theorem wqi(a:Int)(b:Str):decide ((Sum.inl a:Key)=Sum.inr b)=false:=Xa (λq=>nomatch q)
theorem wqh(a:Str)(b:Int):decide ((Sum.inr a:Key)=Sum.inl b)=false:=Xa (λq=>nomatch q)
noncomputable def kwc(prog:Program)(w:World):PySem.KeyKind prog w Key where
 is:=wqk
 hash:=keyH w
 inj:=λv a b ha hb=>by
  rcases QZ ha with⟨i,t,rfl,rfl⟩|⟨x,t,rfl,rfl⟩
  ·rcases QZ hb with⟨j,u,rfl,e⟩|⟨y,u,rfl,e⟩
   ·injection e with e1 _;rw[e1]
   ·exact nomatch e
  ·rcases QZ hb with⟨j,u,rfl,e⟩|⟨y,u,rfl,e⟩
   ·exact nomatch e
   ·injection e with e1 _;rw[e1]
 byValue:=λk v h=>by
  rcases QZ h with⟨i,t,rfl,rfl⟩|⟨x,t,rfl,rfl⟩<;>rfl
 pyHash:=λhv h=>by
  rcases QZ hv with⟨i,t,rfl,rfl⟩|⟨x,t,rfl,rfl⟩
  ·exact wpAny_pyHash_int h
  ·exact wpAny_pyHash_str h
 eqBool:=λhu hv h=>by
  rcases QZ hu with⟨i,t,rfl,rfl⟩|⟨x,t,rfl,rfl⟩
  ·rcases QZ hv with⟨j,u,rfl,rfl⟩|⟨y,u,rfl,rfl⟩
   ·rw[wqj]at h;exact wpAny_eqBool_int h
   ·rw[wqi]at h;exact SeqAt.EqAt.int_str i t y u _ _ _ _ h
  ·rcases QZ hv with⟨j,u,rfl,rfl⟩|⟨y,u,rfl,rfl⟩
   ·rw[wqh]at h;exact SeqAt.EqAt.str_int x t j u _ _ _ _ h
   ·rw[wqg]at h;exact wpAny_eqBool_str h
 «strs»:=λk x t v h=>by
  rcases QZ h with⟨i,u,rfl,e⟩|⟨y,u,rfl,e⟩
  ·exact nomatch e
  ·injection e with e1 _;subst e1;cases v<;>rfl
inductive V where
 |non|bl (b:Bool)|int (i:Int)|str (x:Str)|byt (b:Array UInt8)|flt (b:UInt64)|ref (a:Addr)|ty (n:String)
 deriving DecidableEq
noncomputable def RelV:V->Value->Prop
 |.non,u=>u=Value.none
 |.bl b,u=>u=Value.bool b
 |.int i,u=>∃t,u=Value.int i t
 |.str x,u=>∃t,u=Value.str x t
 |.byt b,u=>∃t,u=Value.bytes b t
 |.flt b,u=>∃t,u=Value.float b t
 |.ref a,u=>u=Value.ref a
 |.ty n,u=>u=Value.type n
abbrev Vals:List V->List Value->Prop:=Paired RelV
theorem Vals.length{xs:List V}{us:List Value}(r:Vals xs us):xs.length=us.length:=Paired.length r
theorem Vals.get:∀{xs:List V} {us:List Value} {i:Nat} {x:V},Vals xs us->xs[i]?=some x->∃u,us[i]?=some u/\RelV x u
 |_,_,_,_,.nil,e=>by simp at e
 |_,_,0,_,.cons r _,e=>by simp at e;subst e;exact⟨_,rfl,r⟩
 |_,_,i+1,x,.cons _ t,e=>by
  obtain⟨u,h1,h2⟩:=Vals.get (i:=i) (x:=x) t (by simpa using e);exact⟨u,by simpa using h1,h2⟩
theorem Vals.append:∀{xs ys:List V} {us ws:List Value},Vals xs us->Vals ys ws->Vals (xs++ys) (us++ws)
 |_,_,_,_,.nil,s=>s
 |_,_,_,_,.cons r t,s=>.cons r (Vals.append t s)
theorem Vals.take:∀{xs:List V} {us:List Value} (n:Nat),Vals xs us->Vals (xs.take n) (us.take n)
 |_,_,0,_=>.nil
 |_,_,_+1,.nil=>.nil
 |_,_,n+1,.cons r t=>.cons r (Vals.take n t)
theorem Vals.drop:∀{xs:List V} {us:List Value} (n:Nat),Vals xs us->Vals (xs.drop n) (us.drop n)
 |_,_,0,r=>r
 |_,_,_+1,.nil=>.nil
 |_,_,n+1,.cons _ t=>Vals.drop n t
noncomputable def wxn:Option V->Option Value->Prop
 |some v,some u=>RelV v u
 |none,none=>True
 |_,_=>False
noncomputable def KV{κ:Type}:List (κ×V)->List (κ×Value)->Prop:=Paired λ(p:κ×V) (q:κ×Value)=>p.1=q.1/\RelV p.2 q.2
def kV:Key->V
 |.inl i=>.int i
 |.inr x=>.str x
inductive HO where
 |lst (xs:List V)
 |tup (xs:List V)
 |dK (kvs:List (Key×V))|dT (kvs:List (List Key×V))
 |set (S:Int->Bool) (n:Nat)
 |ins (C dx:Addr) (fs:List (Str×V))
 |own (x:Addr)
 |xd (fs:List (Str×V))
 |met (f x:Addr)
 |rng (lo hi:Int)
 |frz (o:Obj) (u:HO)
 |tbl (ps:Array Value)
 |ext (φ:Heap->Prop)
abbrev Hp:=Addr->Option HO
noncomputable def IsTupD(h:Heap)(a:Addr)(items:Array Value):Prop:=∃o,h.get? a=some o/\o.cls=.type "tuple"/\o.dict=none/\∃n,o.data=.seq items n
theorem IsTupD.tup{h:Heap}{a:Addr}{items:Array Value}(p:IsTupD h a items):IsTup h a items:=by
 obtain⟨o,e,c,_,n,d⟩:=p;exact⟨o,e,c,n,d⟩
theorem IsTupD.new(h:Heap)(xs:Array Value):IsTupD (h.push { cls:=.type "tuple",data:=.seq xs }) h.objs.size xs:=⟨_,Xj _ rfl,rfl,rfl,0,rfl⟩
noncomputable def upd(H:Hp)(a:Addr)(o:HO):Hp:=λb=>if b=a then some o else H b
theorem xJ{H:Hp}{a:Addr}{o:HO}:upd H a o a=some o:=by unfold upd;rw[X9 rfl]
theorem v4{H:Hp}{a b:Addr}{o:HO}(h:b≠a):upd H a o b=H b:=by unfold upd;rw[Xd h]
theorem JY{H:Hp}{a b:Addr}{o:HO}(h:H a=some o)(h':H b=none):a≠b:=by
 intro e;subst e;rw[h]at h';cases h'
section
variable (P:Program)(w:World)
noncomputable def ObjOk(H : Hp)(h : Heap)(a : Addr): HO -> Prop
  |.lst xs=>xs.length<=sizeLine /\ ∃(aa : List Value) (n : Nat), Vals xs aa /\ h.get? a = some { cls:= .type "list", data:= .seq aa.toArray n }
  |.tup xs=>xs.length<=sizeLine /\ ∃aa : List Value, Vals xs aa /\ IsTupD h a aa.toArray
  |.dK kvs=>kvs.length<=sizeLine /\ (a==sysModules) = false /\ ∃vs, KV kvs vs /\ h.DictOf (kwc P w) a vs
  |.dT kvs=>kvs.length<=sizeLine /\ (a==sysModules) = false /\ ∃xs : List (List Key × Addr × Value),
      Paired (λ(p : List Key × V) (q : List Key × Addr × Value)=>p.1 = q.1 /\ H q.2.1 = some (.tup (p.1.map kV)) /\ RelV p.2 q.2.2) kvs xs /\
      ∃o es ep, h.get? a = some o /\ o.ExactDict /\ o.data = .dict es ep /\ es.toList = xs.map (entryOfKey (tupleKind (kwc P w))) /\ (xs.map (·.1)).Nodup
  |.set S n=>h.SetOf (intKind P w) a S n
  |.ins C dx fs=>H dx = some (.own a) /\ fs.length<=1000 /\ dx≠a /\ h.get? a = some (PySem.W.instObj C dx) /\
      ∃mA, h.Ns1 dx mA /\ (∀f, wxn (fs.lookup f) (mA f)) /\ PySem.Within mA (fs.map (·.1))
  |.own _=> ∃o, h.get? a = some o
  |.xd fs=> ∃mA, h.Ns1 a mA /\ ∀f, wxn (fs.lookup f) (mA f)
  |.rng lo hi=> ∃t u v, h.get? a = some { cls:= .type "range", data:= .fields #[.int lo t, .int hi u, .int 1 v] }
  |.frz o u=>h.get? a = some o /\ ObjOk H h a u
  |.tbl ps=>h.get? a = some { cls:= .none, data:= .fields ps }
  |.met f x=>h.get? a = some (PySem.W.methodObj (.ref f) (.ref x))
  |.ext φ=>φ h /\ (∃o, h.get? a = some o) /\ ∀h1 h2 : Heap, φ h1 -> (∀o, h1.get? a = some o -> h2.get? a = some o) -> φ h2
noncomputable def HOk(H:Hp)(h:Heap):Prop:=∀a o,H a=some o->ObjOk P w H h a o
end
section
variable {P:Program}{w:World}{H H':Hp}{h h':Heap}{a:Addr}{o:HO}
theorem ObjOk.lt(x:ObjOk P w H h a o):a<h.objs.size:=by
 cases o with
 |lst xs=>obtain⟨_,_,_,_,e⟩:=x;exact Xl e
 |tup xs=>obtain⟨_,_,_,p⟩:=x;exact p.tup.lt
 |dK kvs=>obtain⟨_,_,_,_,o,_,_,e,_⟩:=x;exact Xl e
 |dT kvs=>obtain⟨_,_,_,_,o,_,_,e,_⟩:=x;exact Xl e
 |set S n=>obtain⟨o,_,_,_,e,_⟩:=x;exact Xl e
 |ins C dx fs=>obtain⟨_,_,_,e,_⟩:=x;exact Xl e
 |own y=>obtain⟨_,e⟩:=x;exact Xl e
 |xd fs=>obtain⟨_,⟨_,_,_,e,_⟩,_⟩:=x;exact Xl e
 |rng lo hi=>obtain⟨_,_,_,e⟩:=x;exact Xl e
 |frz ob u=>obtain⟨e,_⟩:=x;exact Xl e
 |tbl ps=>exact Xl (show h.get? a=some _ from x)
 |met f y=>exact Xl (show h.get? a=some _ from x)
 |ext φ=>obtain⟨_,⟨_,e⟩,_⟩:=x;exact Xl e
theorem Paired.mapP{α β:Type}{F G:α->β->Prop}:∀{l₁:List α} {l₂:List β},Paired F l₁ l₂->(∀a b,F a b->G a b)->Paired G l₁ l₂
 |_,_,.nil,_=>.nil
 |_,_,.cons r t,f=>.cons (f _ _ r) (Paired.mapP t f)
theorem ObjOk.stay(x:ObjOk P w H h a o)(k:∀b u,(b=a\/H b=some (.own a))->h.get? b=some u->h'.get? b=some u)
  (ho:∀b,H b=some (.own a)->H' b=some (.own a)) (ht:∀b xs,H b=some (.tup xs)->H' b=some (.tup xs)):ObjOk P w H' h' a o:=by
 induction o with
 |lst xs=>obtain⟨z,aa,n,r,e⟩:=x;exact⟨z,aa,n,r,k _ _ (.inl rfl) e⟩
 |tup xs=>obtain⟨z,aa,r,ob,e,c⟩:=x;exact⟨z,aa,r,ob,k _ _ (.inl rfl) e,c⟩
 |dK kvs=>obtain⟨z,y,vs,r,ob,es,ep,e,c⟩:=x;exact⟨z,y,vs,r,ob,es,ep,k _ _ (.inl rfl) e,c⟩
 |dT kvs=>
  obtain⟨z,y,xs,r,ob,es,ep,e,c⟩:=x;exact⟨z,y,xs,Paired.mapP r λp q z=>⟨z.1,ht _ _ z.2.1,z.2.2⟩,ob,es,ep,k _ _ (.inl rfl) e,c⟩
 |set S n=>obtain⟨ob,es,ep,t,e,c⟩:=x;exact⟨ob,es,ep,t,k _ _ (.inl rfl) e,c⟩
 |ins C dx fs=>
  obtain⟨d,z,ne,e,mA,⟨od,es,ep,e2,c⟩,r⟩:=x;exact⟨ho _ d,z,ne,k _ _ (.inl rfl) e,mA,⟨od,es,ep,k _ _ (.inr d) e2,c⟩,r⟩
 |own y=>obtain⟨ob,e⟩:=x;exact⟨ob,k _ _ (.inl rfl) e⟩
 |xd fs=>obtain⟨mA,⟨od,es,ep,e,c⟩,r⟩:=x;exact⟨mA,⟨od,es,ep,k _ _ (.inl rfl) e,c⟩,r⟩
 |rng lo hi=>obtain⟨t,u,v,e⟩:=x;exact⟨t,u,v,k _ _ (.inl rfl) e⟩
 |frz ob u ih=>obtain⟨e,q⟩:=x;exact⟨k _ _ (.inl rfl) e,ih q⟩
 |tbl ps=>
  have e:h.get? a=some { cls:=.none,data:=.fields ps }:=x;show h'.get? a=some { cls:=.none,data:=.fields ps };exact k a _ (.inl rfl) e
 |met f y=>
  have e:h.get? a=some (PySem.W.methodObj (.ref f) (.ref y)):=x;show h'.get? a=some (PySem.W.methodObj (.ref f) (.ref y));exact k a _ (.inl rfl) e
 |ext φ=>obtain⟨p,⟨o,e⟩,st⟩:=x;exact⟨st _ _ p λo q=>k _ _ (.inl rfl) q,⟨o,k _ _ (.inl rfl) e⟩,st⟩
theorem HOk.lt(x:HOk P w H h)(e:H a=some o):a<h.objs.size:=(x a o e).lt
theorem HOk.fresh(x:HOk P w H h)(e:h.objs.size<=a):H a=none:=by
 cases q:H a with
 |none=>rfl
 |some u=>exact absurd (Xn (x.lt q) e) (Yg _)
theorem HOk.kept(x:HOk P w H h)(k:∀b u,h.get? b=some u->h'.get? b=some u):HOk P w H h':=λa o e=>
 (x a o e).stay (λb u _ q=>k b u q) (λ_ q=>q) λ_ _ q=>q
theorem HOk.laid(x:HOk P w H h)(k:∀b u,h.get? b=some u->h'.get? b=some u)(hp:h.objs.size<=a)(new:ObjOk P w (upd H a o) h' a o):HOk P w (upd H a o) h':=λb u e=>by
 have hn:=x.fresh hp
 by_cases hb:b=a
 ·subst hb;rw[xJ]at e;cases e;exact new
 ·rw[v4 hb]at e;exact(x b u e).stay (λc v _ q=>k c v q) (λc q=>by rw[v4 (JY q hn)];exact q) λc xs q=>by rw[v4 (JY q hn)];exact q
end
noncomputable def Rd(H:Hp)(a:Addr)(u:HO):Prop:=H a=some u\/∃o,H a=some (.frz o u)
theorem Rd.ok{P:Program}{w:World}{H:Hp}{h:Heap}{a:Addr}{u:HO}(r:Rd H a u)(x:HOk P w H h):ObjOk P w H h a u:=by
 rcases r with r|⟨o,r⟩
 ·exact x a u r
 ·obtain⟨_,q⟩:=x a _ r;exact q
noncomputable def Mut:Option HO->Prop
 |some (.lst _)=>True
 |some (.dK _)=>True
 |some (.dT _)=>True
 |some (.set _ _)=>True
 |some (.ins _ _ _)=>True
 |some (.ext _)=>True
 |_=>False
section
variable {P:Program}{w:World}{H:Hp}{h h':Heap}{x e:Addr}{o':HO}
theorem HOk.write(ok:HOk P w H h)(mu:Mut (H x))(he:e=x\/H e=some (.own x))(k:∀b u,b≠e->h.get? b=some u->h'.get? b=some u)(r9:∃u,h'.get? e=some u)
  (new:ObjOk P w (upd H x o') h' x o'):HOk P w (upd H x o') h':=λb u q=>by
 have u3:∀c y,H c=some (.own y)->c≠x:=λc y r z=>by subst z;rw[r]at mu;exact mu
 have ntup:∀c xs,H c=some (.tup xs)->c≠x:=λc xs r z=>by subst z;rw[r]at mu;exact mu
 by_cases hb:b=x
 ·subst hb;rw[xJ]at q;cases q;exact new
 ·rw[v4 hb]at q
  by_cases hbe:b=e
  ·have q':H b=some (.own x):=by
    rcases he with z|z
    ·exact absurd (hbe.trans z) hb
    ·rw[hbe];exact z
   rw[q]at q';cases q';obtain⟨v,hv⟩:=r9;exact⟨v,by rw[hbe];exact hv⟩
  ·refine(ok b u q).stay (λc v hc r=>k c v ?_ r) (λc r=>by rw[v4 (u3 c b r)];exact r) λc xs r=>by rw[v4 (ntup c xs r)];exact r
   rcases hc with rfl|hc
   ·exact hbe
   ·rintro rfl;rcases he with z|z
    ·exact u3 c b hc z
    ·rw[hc]at z;cases z;exact hb rfl
end
structure Un (fs ex:List Addr)(H H':Hp)(h h':Heap):Prop where
 keep:∀b o,h.get? b=some o->H b=none->b∉fs->b∉ex->h'.get? b=some o
 slot:∀b o,h.get? b=some o->H b=none->b∈fs->b∉ex->∃sl,h'.get? b=some { o with slots:=sl }
 free:∀b o,h.get? b=some o->H b=none->b∉ex->H' b=none
 there:∀b o,h.get? b=some o->b∉ex->∃o',h'.get? b=some o'
 tups:∀b xs,H b=some (.tup xs)->H' b=some (.tup xs)
 frzs:∀b o u,H b=some (.frz o u)->H' b=some (.frz o u)
 tbls:∀b ps,H b=some (.tbl ps)->∃more,H' b=some (.tbl (ps++more))
section
variable {fs fs' ex ex':List Addr}{H H1 H2:Hp}{h h1 h2 h':Heap}{a x e:Addr}{o:HO}
theorem Un.any(u:Un fs ex H H1 h h1){b:Addr}{ob:Obj}(q:h.get? b=some ob)(n:H b=none)(hx:b∉ex):∃sl,h1.get? b=some { ob with slots:=sl }:=by
 by_cases hb:b∈fs
 ·exact u.slot b ob q n hb hx
 ·exact⟨ob.slots,u.keep b ob q n hb hx⟩
theorem Un.kept(k:∀b u,h.get? b=some u->h'.get? b=some u):Un fs ex H H h h':=
 ⟨λb ob q _ _ _=>k b ob q,λb ob q _ _ _=>⟨ob.slots,k b ob q⟩,λ_ _ _ n _=>n,λb ob q _=>⟨ob,k b ob q⟩,λ_ _ q=>q,λ_ _ _ q=>q,λ_ ps q=>⟨#[],by rw[q];simp⟩⟩
theorem Un.refl:Un fs ex H H h h:=Un.kept λ_ _ q=>q
theorem Un.laid(k:∀b u,h.get? b=some u->h'.get? b=some u)(hp:h.objs.size<=a)(hn:H a=none):Un fs ex H (upd H a o) h h' where
 keep:=λb u q _ _ _=>k b u q
 slot:=λb u q _ _ _=>⟨u.slots,k b u q⟩
 free:=λb u q n _=>by rw[v4 (Y1 (Xn (Xl q) hp))];exact n
 there:=λb u q _=>⟨u,k b u q⟩
 tups:=λb xs q=>by rw[v4 (JY q hn)];exact q
 frzs:=λb u xs q=>by rw[v4 (JY q hn)];exact q
 tbls:=λb ps q=>⟨#[],by rw[v4 (JY q hn),q];simp⟩
theorem Un.write(mu:Mut (H x))(he:e=x\/H e=some (.own x))(k:∀b u,b≠e->h.get? b=some u->h'.get? b=some u)(r9:∃u,h'.get? e=some u):Un fs ex H (upd H x o) h h':=by
 have hx:∀b,H b=none->b≠x:=λb n z=>by subst z;rw[n]at mu;exact mu
 have hb:∀b,H b=none->b≠e:=λb n z=>by
  subst z;rcases he with r|r
  ·exact hx b n r
  ·rw[n]at r;cases r
 have hm:∀b u,H b=some u->¬Mut (some u)->b≠x:=λb u q nm z=>by subst z;rw[q]at mu;exact nm mu
 refine⟨λb u q n _ _=>k b u (hb b n) q,λb u q n _ _=>⟨u.slots,k b u (hb b n) q⟩,λb u q n _=>by rw[v4 (hx b n)];exact n,λb u q _=>?_,
  λb xs q=>by rw[v4 (hm b _ q λz=>z)];exact q,λb u xs q=>by rw[v4 (hm b _ q λz=>z)];exact q,λb ps q=>⟨#[],by rw[v4 (hm b _ q λz=>z),q];simp⟩⟩
 by_cases hbe:b=e
 ·subst hbe;exact r9
 ·exact⟨u,k b u hbe q⟩
end
noncomputable def trk(h:Heap)(H:Hp):List Addr:=(List.range h.objs.size).filter λa=>(H a).isSome
noncomputable def QQ(h:Heap)(H:Hp):Heap:=PySem.W.hideAll h (trk h H)
theorem qzm(h:Heap)(H:Hp):(QQ h H).objs.size=h.objs.size:=PySem.W.hideAll_size _ _
theorem vqn{h:Heap}{H:Hp}{b:Addr}{o:Obj}(e:h.get? b=some o)(n:H b=none):(QQ h H).get? b=some o:=
 PySem.W.hideAll_get _ e λhm=>by
  have q:(H b).isSome=true:=(List.mem_filter.mp hm).2;rw[n]at q;simp at q
theorem vxi{h:Heap}{H:Hp}{b:Addr}{o:Obj}(e:(QQ h H).get? b=some o):h.get? b=some o/\H b=none:=by
 have e':h.get? b=some o:=PySem.W.of_hideAll (trk h H) e;refine⟨e',?_⟩;cases q:H b with
 |none=>rfl
 |some x=>
  have hm:b∈trk h H:=List.mem_filter.mpr ⟨List.mem_range.mpr (Xl e'),by simp[q]⟩;have z:(QQ h H).get? b=none:=PySem.W.hideAll_none (trk h H) hm;rw[z]at e;cases e
noncomputable def vzu(g h:Heap)(L:Addr):List (Addr×Obj):=(List.range h.objs.size).filterMap λa=>if a=L\/(g.get? a).isSome=true then none else(h.get? a).map λo=>(a,o)
noncomputable def jw(g h:Heap)(L d:Addr):List (Addr×Obj):=(vzu g h L).filter λp=>decide (p.1≠d)
structure Mod (K:PySem.W.Frag)(mg:Str->Option Value)(base:Heap):Prop where
 kin:K.In base
 glob:base.Ns mainGlobals mg
 blt:∃mb,base.Ns builtinsNs mb/\∀x:Str,x≠"__name__"->mb x=bootBuiltins x
 nolimit:base.NoLimit
structure Cx where
 prog:Program
 w:World
 K:PySem.W.Frag
 mg:Str->Option Value
 base:Heap
 A:Around
 N:List Str
 s₀:Shared
 H₀:Hp
 env:Env
 outer:List Env
 stack:List Env
 ex:List Addr
 fn:Str->Bool
 calm:Bool
 pn:List (Addr×Obj)
 xe:Value->Shared->Prop
noncomputable def frs(l:List Env):List Addr:=l.filterMap (·.frame)
abbrev Cx.fs(X:Cx):List Addr:=frs X.outer
noncomputable def Vis(sc:Scope)(x:Str):Prop:=sc.names.lookup x=some .local\/sc.names.lookup x=some .cell\/sc.names.lookup x=some .free
noncomputable def Loc(sc:Scope)(x:Str):Prop:=sc.names.lookup x=some .local\/sc.names.lookup x=some .cell
noncomputable def Look(env:Env)(h:Heap)(m:Str->Option Value)(x:Str)(u:Value):Prop:=
 (env.kindOf x=some .local/\m x=some u)\/((env.kindOf x=some .cell\/env.kindOf x=some .free)/\∃c,env.cells.lookup x=some c/\h.IsCell c (some u))
structure Cx.Ok (X:Cx):Prop where
 mod:Mod X.K X.mg X.base
 kind:X.env.scope.kind=.function
 glob:X.env.globals=mainGlobals
 blt:X.env.builtins=builtinsNs
 above:X.s₀.heap.objs.size<=X.env.locals
 inj:∀x y c,X.env.cells.lookup x=some c->X.env.cells.lookup y=some c->x=y
 has:∀x,(X.env.kindOf x=some .cell\/X.env.kindOf x=some .free)->∃c,X.env.cells.lookup x=some c
 cab:∀x c,X.fn x=true->X.env.cells.lookup x=some c->X.s₀.heap.objs.size<=c
 hd:X.calm=true->X.A.handled=none
 frames:X.A.frames=some X.stack
 stk:X.stack=X.outer\/(X.stack=X.env::X.outer/\X.env.frame=some X.env.locals)
 exf:∀b∈X.ex,b≠X.env.locals/\∀x c,X.env.cells.lookup x=some c->c≠b
 bs:∀b o,X.base.get? b=some o->X.s₀.heap.get? b=some o/\X.H₀ b=none
 bsz:X.base.objs.size<=X.s₀.heap.objs.size
 noex:∀b o,X.base.get? b=some o->b∉X.ex
 exfs:∀b∈X.ex,b∉X.fs
 funs:X.s₀.heap.FunFrames X.base X.outer
 frf:∀b∈X.fs,X.H₀ b=none
structure Inv (X:Cx)(pins:List (Addr×Obj))(σ:List (Option V))(H:Hp)(s:Shared):Prop where
 ok:X.Ok
 os:s.os=X.s₀.os
 bare:AllBare s.gens
 base:Un X.fs X.ex X.H₀ H X.s₀.heap s.heap
 loc:∃m,s.heap.Ns X.env.locals m/\∀(i:Nat) (x:Str) (v:V),X.N[i]?=some x->σ[i]?=some (some v)->Vis X.env.scope x->∃u,RelV v u/\Look X.env s.heap m x u
 cell:∀x c,X.env.cells.lookup x=some c->∃v,s.heap.IsCell c v
 free:H X.env.locals=none
 freeC:∀x c,X.env.cells.lookup x=some c->H c=none
 pin:∀p∈X.pn++pins,s.heap.get? p.1=some p.2/\H p.1=none/\p.1≠X.env.locals/\p.1∉X.fs/\∀v,p.2.data≠.cell v
 hok:HOk X.prog X.w H s.heap
 len:σ.length=X.N.length
section
variable {X:Cx}{pins:List (Addr×Obj)}{σ:List (Option V)}{H H':Hp}{s:Shared}{h':Heap}
theorem Cx.Ok.nofr(ok:X.Ok){b:Addr}{o:Obj}(e:X.base.get? b=some o):b∉X.fs:=λhb=>by
 have:=(ok.funs.mem hb).1;rw[e]at this;cases this
theorem Inv.bs(I:Inv X pins σ H s):∀b o,X.base.get? b=some o->s.heap.get? b=some o/\H b=none:=λb o e=>
 ⟨I.base.keep b o (I.ok.bs b o e).1 (I.ok.bs b o e).2 (I.ok.nofr e) (I.ok.noex b o e),I.base.free b o (I.ok.bs b o e).1 (I.ok.bs b o e).2 (I.ok.noex b o e)⟩
theorem Inv.bk(I:Inv X pins σ H s):∀b o,X.base.get? b=some o->s.heap.get? b=some o:=λb o e=>(I.bs b o e).1
theorem Inv.mod(I:Inv X pins σ H s):Mod X.K X.mg X.base:=I.ok.mod
theorem Inv.kIn(I:Inv X pins σ H s):X.K.In s.heap:=I.ok.mod.kin.keeps I.bk
theorem Inv.lt(I:Inv X pins σ H s):X.env.locals<s.heap.objs.size:=let ⟨_,hn,_⟩:=I.loc;hn.lt
theorem Inv.sz(I:Inv X pins σ H s):X.s₀.heap.objs.size<=s.heap.objs.size:=Y3 I.ok.above (Nat.le_of_lt I.lt)
theorem Inv.nofs(I:Inv X pins σ H s){a:Addr}(h:s.heap.objs.size<=a):a∉X.fs:=λhb=>by
 obtain⟨_,o,ho,_⟩:=I.ok.funs.mem hb;exact absurd (Xn (Xl ho) (Y3 I.sz h)) (Yg _)
theorem Inv.cne(I:Inv X pins σ H s):∀x c,X.env.cells.lookup x=some c->c≠X.env.locals:=λx c e z=>by
 obtain⟨v,o,ho,hd⟩:=I.cell x c e;obtain⟨m,⟨o',es,ep,mh,ik,_⟩,_⟩:=I.loc;rw[z,mh]at ho;cases ho;rw[ik]at hd;cases hd
theorem Inv.funs(I:Inv X pins σ H s):s.heap.FunFrames X.base X.outer:=by
 have all:∀(l:List Env),(∀b∈frs l,b∈X.fs)->X.s₀.heap.FunFrames X.base l->s.heap.FunFrames X.base l:=by
  intro l
  induction l with
  |nil=>intro _ _;trivial
  |cons env r ih=>
   intro hs hl;obtain⟨hk,⟨L,o,hf,hn,ho,hd⟩,hr⟩:=hl;have hL:L∈X.fs:=hs L (by unfold frs;rw[List.filterMap_cons,hf];exact X3);obtain⟨sl,e⟩:=I.base.slot L o ho (I.ok.frf L hL) hL λz=>I.ok.exfs L z hL
   exact⟨hk,⟨L,_,hf,hn,e,hd⟩,ih (λb hb=>hs b (by unfold frs;rw[List.filterMap_cons,hf];exact lc9 _ hb)) hr⟩
 exact all X.outer (λ_ hb=>hb) I.ok.funs
theorem Inv.stack(I:Inv X pins σ H s):s.heap.FunFrames X.base X.stack:=by
 rcases I.ok.stk with e|⟨e,hf⟩
 ·rw[e];exact I.funs
 ·rw[e];obtain⟨m,hn,_⟩:=I.loc;refine .cons (by rw[I.ok.kind];decide) hf hn ?_ I.funs;exact Heap.get?_none_of_le (Y3 I.ok.bsz I.ok.above)
theorem Inv.stkSub(I:Inv X pins σ H s):∀b∈frs X.stack,b∈X.env.locals::X.fs:=λb hb=>by
 rcases I.ok.stk with e|⟨e,hf⟩
 ·rw[e]at hb;exact lc9 _ hb
 ·rw[e]at hb;unfold frs at hb;rw[List.filterMap_cons,hf]at hb;exact hb
theorem Inv.stkFree(I:Inv X pins σ H s):∀b∈frs X.stack,H b=none:=λb hb=>by
 rcases List.mem_cons.mp (I.stkSub b hb)with e|hb
 ·rw[e];exact I.free
 ·obtain⟨_,o,ho,_⟩:=I.ok.funs.mem hb;exact I.base.free b o ho (I.ok.frf b hb) λz=>I.ok.exfs b z hb
theorem Inv.step{g':Array GenState}{t':Nat}{d':Drawn}{ch:List Addr}(I:Inv X pins σ H s)
  (dq:∀b∈ch,(b∈X.ex\/X.s₀.heap.objs.size<=b)/\b≠X.env.locals/\(∀x c,X.env.cells.lookup x=some c->c≠b)/\∀p∈X.pn++pins,p.1≠b)
  (keep:∀b o,b≠X.env.locals->b∉X.fs->b∉ch->s.heap.get? b=some o->H b=none->h'.get? b=some o)
  (slot:∀b o,b≠X.env.locals->b∈X.fs->b∉ch->s.heap.get? b=some o->H b=none->∃sl,h'.get? b=some { o with slots:=sl }) (free:∀b o,b∉ch->s.heap.get? b=some o->H b=none->H' b=none)
  (there:∀b o,b∉ch->s.heap.get? b=some o->∃o',h'.get? b=some o')
  (tups:∀b xs,H b=some (.tup xs)->H' b=some (.tup xs)) (frzs:∀b o u,H b=some (.frz o u)->H' b=some (.frz o u)) (tbls:∀b ps,H b=some (.tbl ps)->∃more,H' b=some (.tbl (ps++more)))
  (ns:∀m,s.heap.Ns X.env.locals m->h'.Ns X.env.locals m) (hok:HOk X.prog X.w H' h') (hg:AllBare g'):
  Inv X pins σ H' { s with heap:=h',gens:=g',drawn:=d',toks:=t' }:=by
 have uo:∀b o,X.s₀.heap.get? b=some o->b≠X.env.locals:=λb o e=>Y1 (Xn (Xl e) I.ok.above)
 have ni:∀b o,X.s₀.heap.get? b=some o->b∉X.ex->b∉ch:=λb o e hx hb=>by
  rcases(dq b hb).1 with z|z
  ·exact hx z
  ·exact absurd (Xn (Xl e) z) (Yg _)
 have gw:∀x c,X.env.cells.lookup x=some c->∀v,s.heap.IsCell c v->h'.IsCell c v:=λx c e v ⟨o,ho,hd⟩=>by
  have lu:c∉ch:=λz=>(dq c z).2.2.1 x c e rfl
  by_cases hc:c∈X.fs
  ·obtain⟨sl,q⟩:=slot c o (I.cne x c e) hc lu ho (I.freeC x c e);exact⟨_,q,hd⟩
  ·exact⟨o,keep c o (I.cne x c e) hc lu ho (I.freeC x c e),hd⟩
 refine⟨I.ok,I.os,hg,⟨λb o e n hb hx=>?_,λb o e n hb hx=>?_,λb o e n hx=>?_,λb o e hx=>?_,λb xs e=>tups b xs (I.base.tups b xs e),λb o xs e=>frzs b o xs (I.base.frzs b o xs e),λb ps e=>?_⟩,?_,λx c e=>?_,?_,λx c e=>?_,λp hp=>?_,hok,I.len⟩
 ·exact keep b o (uo b o e) hb (ni b o e hx) (I.base.keep b o e n hb hx) (I.base.free b o e n hx)
 ·obtain⟨sl,e1⟩:=I.base.slot b o e n hb hx;obtain⟨sl',e2⟩:=slot b _ (uo b o e) hb (ni b o e hx) e1 (I.base.free b o e n hx);exact⟨sl',e2⟩
 ·obtain⟨o',e1⟩:=I.base.there b o e hx;exact free b o' (ni b o e hx) e1 (I.base.free b o e n hx)
 ·obtain⟨o',e1⟩:=I.base.there b o e hx;exact there b o' (ni b o e hx) e1
 ·obtain⟨m1,e1⟩:=I.base.tbls b ps e;obtain⟨m2,e2⟩:=tbls b _ e1;exact⟨m1++m2,by rw[e2,Array.append_assoc]⟩
 ·obtain⟨m,hn,hl⟩:=I.loc;refine⟨m,ns m hn,λi x v e1 e2 e3=>?_⟩;obtain⟨u,r,l⟩:=hl i x v e1 e2 e3;refine⟨u,r,?_⟩;rcases l with l|⟨k,c,e,z⟩
  ·exact .inl l
  ·exact .inr ⟨k,c,e,gw x c e _ z⟩
 ·obtain⟨v,z⟩:=I.cell x c e;exact⟨v,gw x c e v z⟩
 ·obtain⟨m,⟨o,_,_,ho,_⟩,_⟩:=I.loc;exact free _ o (λz=>(dq _ z).2.1 rfl) ho I.free
 ·obtain⟨v,o,ho,hd⟩:=I.cell x c e;exact free c o (λz=>(dq c z).2.2.1 x c e rfl) ho (I.freeC x c e)
 ·obtain⟨e,n,ne,nf,d⟩:=I.pin p hp;have lu:p.1∉ch:=λz=>(dq p.1 z).2.2.2 p hp rfl
  exact⟨keep p.1 p.2 ne nf lu e n,free p.1 p.2 lu e n,ne,nf,d⟩
theorem Inv.un{t':Nat}(I:Inv X pins σ H s)(u:Un X.fs [] H H' s.heap h')(hok:HOk X.prog X.w H' h'):Inv X pins σ H' { s with heap:=h',toks:=t' }:=by
 obtain⟨m,⟨o,es,ep,ho,r⟩,_⟩:=id I.loc;obtain⟨sl,hL⟩:=u.any ho I.free (by simp);exact I.step (g':=s.gens) (d':=s.drawn) (ch:=[]) (λ_ z=>nomatch z) (λb o _ hb _ e n=>u.keep b o e n hb (by simp)) (λb o _ hb _ e n=>u.slot b o e n hb (by simp)) (λb o _ e n=>u.free b o e n (by simp)) (λb o _ e=>u.there b o e (by simp)) u.tups u.frzs u.tbls (λm' hm=>by
  obtain⟨o',es',ep',mh,r'⟩:=hm;rw[ho]at mh;cases mh;exact⟨_,es',ep',hL,r'⟩) hok I.bare
theorem Inv.call{g':Array GenState}{t':Nat}{d':Drawn}{ch:List Addr}(I:Inv X pins σ H s)(u:Un (frs X.stack) ch H H' s.heap h')(hok:HOk X.prog X.w H' h')(hg:AllBare g')
  (dq:∀b∈ch,(b∈X.ex\/X.s₀.heap.objs.size<=b)/\b≠X.env.locals/\(∀x c,X.env.cells.lookup x=some c->c≠b)/\∀p∈X.pn++pins,p.1≠b):
  Inv X pins σ H' { s with heap:=h',gens:=g',drawn:=d',toks:=t' }:=by
 obtain⟨m,⟨o,es,ep,ho,r⟩,_⟩:=id I.loc;obtain⟨sl,hL⟩:=u.any ho I.free λz=>(dq _ z).2.1 rfl
 exact I.step (ch:=ch) dq (λb o hL hb hc e n=>u.keep b o e n (λz=>(List.mem_cons.mp (I.stkSub b z)).elim hL hb) hc) (λb o _ _ hc e n=>u.any e n hc) (λb o hc e n=>u.free b o e n hc) (λb o hc e=>u.there b o e hc) u.tups u.frzs u.tbls (λm' hm=>by
  obtain⟨o',es',ep',mh,r'⟩:=hm;rw[ho]at mh;cases mh;exact⟨_,es',ep',hL,r'⟩) hok hg
theorem Inv.turned{t':Nat}{it:Addr}(I:Inv X pins σ H s)(k:∀b o,b≠it->s.heap.get? b=some o->h'.get? b=some o)(hn:H it=none)(hL:it≠X.env.locals)
  (h1:it∈X.ex\/X.s₀.heap.objs.size<=it) (h2:∀x c,X.env.cells.lookup x=some c->c≠it) (h3:∀p∈X.pn++pins,p.1≠it):Inv X pins σ H { s with heap:=h',toks:=t' }:=by
 have t8:∀b u,H b=some u->b≠it:=λb u e z=>by rw[z,hn]at e;cases e
 refine I.step (g':=s.gens) (d':=s.drawn) (ch:=[it]) (λb hb=>?_) (λb o _ _ hc e _=>k b o (λz=>hc (by simp[z])) e) (λb o _ _ hc e _=>⟨o.slots,k b o (λz=>hc (by simp[z])) e⟩) (λ_ _ _ _ n=>n)
  (λb o hc e=>⟨o,k b o (λz=>hc (by simp[z])) e⟩) (λ_ _ e=>e) (λ_ _ _ e=>e) (λb ps e=>⟨#[],by rw[e];simp⟩) (λm hm=>?_) (λb u e=>?_) I.bare
 ·have e:b=it:=by simpa using hb
  subst e;exact⟨h1,hL,h2,h3⟩
 ·obtain⟨o,es,ep,ho,r⟩:=hm;exact⟨o,es,ep,k _ o (Ne.symm hL) ho,r⟩
 ·refine(I.hok b u e).stay (λc v hc q=>k c v ?_ q) (λ_ q=>q) λ_ _ q=>q
  rcases hc with z|z
  ·rw[z];exact t8 b u e
  ·exact t8 c _ z
theorem Inv.tok(I:Inv X pins σ H s)(t:Nat):Inv X pins σ H { s with toks:=t }:=I.un (h':=s.heap) (t':=t) Un.refl I.hok
theorem Inv.kept{t':Nat}(I:Inv X pins σ H s)(k:∀b u,s.heap.get? b=some u->h'.get? b=some u):Inv X pins σ H { s with heap:=h',toks:=t' }:=I.un (Un.kept k) (I.hok.kept k)
theorem Inv.laid{a:Addr}{o:HO}{t':Nat}(I:Inv X pins σ H s)(k:∀b u,s.heap.get? b=some u->h'.get? b=some u)(hp:s.heap.objs.size<=a)(new:ObjOk X.prog X.w (upd H a o) h' a o):
  Inv X pins σ (upd H a o) { s with heap:=h',toks:=t' }:=I.un (Un.laid k hp (I.hok.fresh hp)) (I.hok.laid k hp new)
theorem Inv.write{x e:Addr}{o:HO}{t':Nat}(I:Inv X pins σ H s)(mu:Mut (H x))(he:e=x\/H e=some (.own x))(k:∀b u,b≠e->s.heap.get? b=some u->h'.get? b=some u)(r9:∃u,h'.get? e=some u)
  (new:ObjOk X.prog X.w (upd H x o) h' x o):Inv X pins σ (upd H x o) { s with heap:=h',toks:=t' }:=I.un (Un.write mu he k r9) (I.hok.write mu he k r9 new)
theorem Inv.pins_of{ci:List (Addr×Obj)}(I:Inv X pins σ H s)(h:∀p∈ci,s.heap.get? p.1=some p.2/\H p.1=none/\p.1≠X.env.locals/\p.1∉X.fs/\∀v,p.2.data≠.cell v):Inv X ci σ H s:=
 ⟨I.ok,I.os,I.bare,I.base,I.loc,I.cell,I.free,I.freeC,λp hp=>(List.mem_append.mp hp).elim (λz=>I.pin p (ll9 _ z)) (h p),I.hok,I.len⟩
theorem qku{N:List Str}(hN:N.Nodup){i j:Nat}{x:Str}(a:N[i]?=some x)(b:N[j]?=some x):i=j:=by
 obtain⟨h1,e1⟩:=List.getElem?_eq_some_iff.mp a;obtain⟨h2,e2⟩:=List.getElem?_eq_some_iff.mp b;exact(List.getElem_inj hN).mp (e1.trans e2.symm)
theorem qwd{M:Model}{A:Around}{E:Value->Shared->Prop}{i:Nat}{x:Str}{v:V}{u:Value}{Q:Unit->Shared->Prop}(I:Inv X pins σ H s)(hN:X.N.Nodup)(hi:X.N[i]?=some x)(hx:Loc X.env.scope x)(r:RelV v u)
  (h:∀s',Inv X pins (σ.set i (some v)) H s'->(∃a,Heap.SameBut a s.heap s'.heap/\(a=X.env.locals\/X.env.cells.lookup x=some a))->Q () s') (hf:autoParam (X.fn x=true\/X.env.scope.names.lookup x=some .local) Ř):wpAny M A (storeName X.env x u) Q E s:=by
 obtain⟨m,hn,hl⟩:=id I.loc;have hcls:(X.env.scope.kind == .class||(X.env.scope.kind == .module&&X.env.locals != X.env.globals))=false:=by rw[I.ok.kind];rfl
 have hiσ:i < σ.length:=by rw[I.len];exact(List.getElem?_eq_some_iff.mp hi).1
 have cne:=I.cne;have jn:∀{a:Addr} {h':Heap},(∃o,s.heap.get? a=some o/\H a=none)->Heap.SameBut a s.heap h'->HOk X.prog X.w H h':=fun {a h'} ha hs b ob e=>by
  obtain⟨_,_,b9⟩:=ha;refine(I.hok b ob e).stay (λc w' hc q=>(hs.2 c ?_).trans q) (λ_ q=>q) λ_ _ q=>q
  rintro rfl;rcases hc with rfl|hc
  ·rw[b9]at e;cases e
  ·rw[b9]at hc;cases hc
 rcases hx with hk|hk
 ·refine wpAny_storeName_local hk hn (λh' qd hs=>?_) hcls;obtain⟨oL,_,_,hoL,_⟩:=id hn;refine h _ ⟨I.ok,I.os,I.bare,⟨λb o e n hb hx=>?_,λb o e n hb hx=>?_,I.base.free,λb o e hx=>?_,I.base.tups,I.base.frzs,I.base.tbls⟩,⟨_,qd,λj y v' e1 e2 e3=>?_⟩,λy c e=>?_,I.free,I.freeC,λp hp=>?_,jn ⟨oL,hoL,I.free⟩ hs,by simpa using I.len⟩ ⟨_,hs,.inl rfl⟩
  ·exact(hs.2 b (Y1 (Xn (Xl e) I.ok.above))).trans (I.base.keep b o e n hb hx)
  ·obtain⟨sl,e1⟩:=I.base.slot b o e n hb hx;exact⟨sl,(hs.2 b (Y1 (Xn (Xl e) I.ok.above))).trans e1⟩
  ·obtain⟨o',e1⟩:=I.base.there b o e hx;exact⟨o',(hs.2 b (Y1 (Xn (Xl e) I.ok.above))).trans e1⟩
  ·by_cases hj:j=i
   ·subst hj;rw[hi]at e1;cases e1;rw[List.getElem?_set_self hiσ]at e2;cases e2;exact⟨u,r,.inl ⟨hk,by simp⟩⟩
   ·rw[Ys (Ne.symm hj)]at e2;obtain⟨u',r',q⟩:=hl j y v' e1 e2 e3;refine⟨u',r',?_⟩;rcases q with⟨k,e⟩|⟨k,c,e,z⟩
    ·refine .inl ⟨k,?_⟩;have:y≠x:=λe=>hj (qku hN e1 (e▸hi))
     simp[this,e]
    ·exact .inr ⟨k,c,e,z.sameBut hs (cne y c e)⟩
  ·obtain⟨w',z⟩:=I.cell y c e;exact⟨w',z.sameBut hs (cne y c e)⟩
  ·obtain⟨e,n,ne,nf,d⟩:=I.pin p hp;exact⟨(hs.2 p.1 ne).trans e,n,ne,nf,d⟩
 ·have hfn:X.fn x=true:=by
   rcases hf with z|z
   ·exact z
   ·rw[z]at hk;cases hk
  obtain⟨c,hc⟩:=I.ok.has x (.inl hk);obtain⟨w',z⟩:=I.cell x c hc;refine wpAny_storeName_cell I.ok.kind hk hc z (λh' ja hs=>?_);obtain⟨oc,hoc,hocd⟩:=id z;refine h { s with heap:=h' } ⟨I.ok,I.os,I.bare,⟨λb o e n hb hx=>?_,λb o e n hb hx=>?_,I.base.free,λb o e hx=>?_,I.base.tups,I.base.frzs,I.base.tbls⟩,⟨m,hn.sameBut hs (Ne.symm (cne x c hc)),λj y v' e1 e2 e3=>?_⟩,λy c' e=>?_,I.free,I.freeC,λp hp=>?_,jn ⟨oc,hoc,I.freeC x c hc⟩ hs,by simpa using I.len⟩ ⟨c,hs,.inr hc⟩
  ·exact(hs.2 b (Y1 (Xn (Xl e) (I.ok.cab x c hfn hc)))).trans (I.base.keep b o e n hb hx)
  ·obtain⟨sl,e1⟩:=I.base.slot b o e n hb hx;exact⟨sl,(hs.2 b (Y1 (Xn (Xl e) (I.ok.cab x c hfn hc)))).trans e1⟩
  ·obtain⟨o',e1⟩:=I.base.there b o e hx;exact⟨o',(hs.2 b (Y1 (Xn (Xl e) (I.ok.cab x c hfn hc)))).trans e1⟩
  ·by_cases hj:j=i
   ·subst hj;rw[hi]at e1;cases e1;rw[List.getElem?_set_self hiσ]at e2;cases e2;exact⟨u,r,.inr ⟨.inl hk,c,hc,ja⟩⟩
   ·rw[Ys (Ne.symm hj)]at e2;obtain⟨u',r',q⟩:=hl j y v' e1 e2 e3;refine⟨u',r',?_⟩;rcases q with q|⟨k,c',e,z'⟩
    ·exact .inl q
    ·refine .inr ⟨k,c',e,z'.sameBut hs ?_⟩;rintro rfl;exact hj (qku hN e1 (I.ok.inj _ _ _ e hc▸hi))
  ·by_cases gp:c'=c
   ·subst gp;exact⟨_,ja⟩
   ·obtain⟨w2,z2⟩:=I.cell y c' e;exact⟨w2,z2.sameBut hs gp⟩
  ·obtain⟨e,n,ne,nf,d⟩:=I.pin p hp;refine⟨(hs.2 p.1 ?_).trans e,n,ne,nf,d⟩;intro q;rw[q,hoc]at e;have q':oc=p.2:=oq9 e;exact d w' (by rw[<-q'];exact hocd)
theorem kvq{M:Model}{A:Around}{E:Value->Shared->Prop}{i:Nat}{x:Str}{v:V}{u:Value}{Q:Unit->Shared->Prop}(I:Inv X pins σ H s)(hN:X.N.Nodup)(hi:X.N[i]?=some x)(hx:Loc X.env.scope x)(r:RelV v u)
  (h:∀s',Inv X pins (σ.set i (some v)) H s'->Q () s') (hf:autoParam (X.fn x=true\/X.env.scope.names.lookup x=some .local) Ř):wpAny M A (storeName X.env x u) Q E s:=
 qwd I hN hi hx r (λs' I' _=>h s' I') hf
theorem Inv.call'{s':Shared}{ch:List Addr}(I:Inv X pins σ H s)(ho:s'.os=s.os)(u:Un (frs X.stack) ch H H' s.heap s'.heap)(hok:HOk X.prog X.w H' s'.heap)(hg:AllBare s'.gens)
  (dq:∀b∈ch,(b∈X.ex\/X.s₀.heap.objs.size<=b)/\b≠X.env.locals/\(∀x c,X.env.cells.lookup x=some c->c≠b)/\∀p∈X.pn++pins,p.1≠b):Inv X pins σ H' s':=by
 obtain⟨h',g',d',t',o'⟩:=s';have e:o'=s.os:=ho;subst e;exact I.call (g':=g') (t':=t') (d':=d') u hok hg dq
end
abbrev XK:=Value->Option Addr->Hp->Prop
abbrev St:=List (Option V)
abbrev VK:=V->Hp->Prop
abbrev TE:=St->Hp->VK->Prop
abbrev TT:=St->Hp->(Bool->Hp->Prop)->Prop
abbrev TA:=St->Hp->(List V->Hp->Prop)->Prop
structure Ends where
 nx:St->Hp->Prop
 rt:VK
 bk:St->Hp->Prop:=λ_ _=>False
 ct:St->Hp->Prop:=λ_ _=>False
abbrev TS:=Ends->St->Hp->Prop
noncomputable def EP(X:Cx)(pins:List (Addr×Obj))(σ:St)(Q:VK)(u:Value)(s':Shared):Prop:=∃v H',Inv X pins σ H' s'/\RelV v u/\Q v H'
noncomputable def TP(X:Cx)(pins:List (Addr×Obj))(σ:St)(Q:Bool->Hp->Prop)(b:Bool)(s':Shared):Prop:=∃H',Inv X pins σ H' s'/\Q b H'
noncomputable def AP(X:Cx)(pins:List (Addr×Obj))(σ:St)(Q:List V->Hp->Prop)(us:List Value)(s':Shared):Prop:=∃vs H',Inv X pins σ H' s'/\Vals vs us/\Q vs H'
noncomputable def SP(X:Cx)(pins:List (Addr×Obj))(D:Ends)(f:Flow)(s':Shared):Prop:=
 match f with
 |.next=>∃ σ' H',Inv X pins σ' H' s'/\D.nx σ' H'
 |.brk=>∃ σ' H',Inv X pins σ' H' s'/\D.bk σ' H'
 |.cont=>∃ σ' H',Inv X pins σ' H' s'/\D.ct σ' H'
 |.ret u=>∃v σ' H',Inv X pins σ' H' s'/\RelV v u/\D.rt v H'
noncomputable def PE(X:Cx)(e:Expr)(t:TE):Prop:=
 ∀(pins:List (Addr×Obj)) (s:Shared) (σ:St) (H:Hp) (Q:VK),Inv X pins σ H s->t σ H Q->wpAny (model X.prog X.w) X.A (eval e X.env) (EP X pins σ Q) X.xe s
noncomputable def PT(X:Cx)(e:Expr)(t:TT):Prop:=
 ∀(pins:List (Addr×Obj)) (s:Shared) (σ:St) (H:Hp) (Q:Bool->Hp->Prop),Inv X pins σ H s->t σ H Q->wpAny (model X.prog X.w) X.A (isTrue e X.env (eval e X.env)) (TP X pins σ Q) X.xe s
noncomputable def PW(X:Cx)(e:Expr)(t:TT):Prop:=
 ∀(fg:Sem Value) (pins:List (Addr×Obj)) (s:Shared) (σ:St) (H:Hp) (Q:Bool->Hp->Prop),Inv X pins σ H s->t σ H Q->wpAny (model X.prog X.w) X.A (isTrue e X.env fg) (TP X pins σ Q) X.xe s
theorem PW.pt{X:Cx}{e:Expr}{t:TT}(h:PW X e t):PT X e t:=h _
noncomputable def PA(X:Cx)(es:List Expr)(t:TA):Prop:=
 ∀(pos:Pos) (pins:List (Addr×Obj)) (s:Shared) (σ:St) (H:Hp) (Q:List V->Hp->Prop),Inv X pins σ H s->t σ H Q->wpAny (model X.prog X.w) X.A (spliced (backTo pos (starEach es X.env))) (AP X pins σ Q) X.xe s
noncomputable def PS(X:Cx)(st:Stmt)(t:TS):Prop:=
 ∀(pins:List (Addr×Obj)) (s:Shared) (σ:St) (H:Hp) (D:Ends),Inv X pins σ H s->t D σ H->wpAny (model X.prog X.w) X.A (exec st X.env) (SP X pins D) X.xe s
noncomputable def PSs(X:Cx)(st:List Stmt)(t:TS):Prop:=
 ∀(pins:List (Addr×Obj)) (s:Shared) (σ:St) (H:Hp) (D:Ends),Inv X pins σ H s->t D σ H->wpAny (model X.prog X.w) X.A (execs st X.env) (SP X pins D) X.xe s
theorem thn{α:Type}{t:Sem α}{Q Q':α->Shared->Prop}{M:Model}{A:Around}{E:Value->Shared->Prop}{s:Shared}(h:wpAny M A t Q E s)(hQ:∀a s,Q a s->Q' a s):wpAny M A t Q' E s:=wpAny_mono h hQ λ_ _ x=>x
section
variable {X:Cx}
abbrev Kx(i:Nat):TE:=fun σ H Q=>∃v,σ[i]?=some (some v)/\Q v H
abbrev tC(v:V):TE:=λ_ H Q=>Q v H
theorem wkh{i:Nat}{x:Str}{pos:Pos}(hN:X.N[i]?=some x)(hv:Vis X.env.scope x)(hd:autoParam ((x==("__debug__":Str))=false) ŕ)(iw:autoParam ((x==("__classdict__":Str))=false) ŕ):PE X (.Name x pos) (Kx i):=by
 intro pins s σ H Q I h;obtain⟨v,e,h⟩:=h;obtain⟨m,hn,hl⟩:=I.loc;obtain⟨u,r,l⟩:=hl i x v hN e hv;have fin:EP X pins σ Q u s:=⟨v,H,I,r,h⟩;rcases l with⟨hk,hm⟩|⟨hk,c,hc,hcell⟩
 ·exact wpAny_Name (wpAny_loadName_local I.ok.kind hk hn hm fin) hd
 ·rcases hk with hk|hk
  ·exact wpAny_Name (wpAny_loadName_cell I.ok.kind hk hc hcell fin) hd
  ·exact wpAny_Name (wpAny_loadName_free I.ok.kind hk hc hcell fin iw) hd
theorem wko{i j pos}:PE X (.Constant (.int i) j pos) (tC (.int i)):=λ_ _ _ H _ I h=>wpAny_Constant_int ⟨.int i,H,I.tok _,⟨_,rfl⟩,h⟩
theorem WX{b j pos}:PE X (.Constant (.bool b) j pos) (tC (.bl b)):=λ_ _ _ H _ I h=>Constant_bool ⟨.bl b,H,I,rfl,h⟩
theorem wkl{j pos}:PE X (.Constant .none j pos) (tC .non):=λ_ _ _ H _ I h=>Constant_none ⟨.non,H,I,rfl,h⟩
theorem wkj{x j pos}:PE X (.Constant (.str x) j pos) (tC (.str x)):=λ_ _ _ H _ I h=>Calls.Constant_str ⟨.str x,H,I.tok _,⟨_,rfl⟩,h⟩
noncomputable def Gl(X:Cx)(x:Str):Prop:=X.env.kindOf x=some .globalImplicit
theorem vxn{E:Value->Shared->Prop}{pins:List (Addr×Obj)}{s:Shared}{σ:St}{H:Hp}{x:Str}{u:Value}{pos:Pos}{Q:Value->Shared->Prop}(I:Inv X pins σ H s)(hg:Gl X x)(hm:X.mg x=some u)(h:Q u s)
  (hd:autoParam ((x==("__debug__":Str))=false) ŕ):wpAny (model X.prog X.w) X.A (eval (.Name x pos) X.env) Q E s:=
 Calls.Name_function_global I.ok.kind hg (Calls.loadGlobal_global (by rw[I.ok.glob];exact I.mod.glob.keeps I.bk) hm h) hd
theorem Vv{E:Value->Shared->Prop}{pins:List (Addr×Obj)}{s:Shared}{σ:St}{H:Hp}{x:Str}{u:Value}{pos:Pos}{Q:Value->Shared->Prop}(I:Inv X pins σ H s)(hg:Gl X x)(hm:X.mg x=none)(hv:bootBuiltins x=some u)(h:Q u s)
  (hn:autoParam (x≠"__name__") ŕ) (hd:autoParam ((x==("__debug__":Str))=false) ŕ):wpAny (model X.prog X.w) X.A (eval (.Name x pos) X.env) Q E s:=by
 obtain⟨mb,h1,h2⟩:=I.mod.blt;exact Calls.Name_function_global I.ok.kind hg (Calls.loadGlobal_builtin (by rw[I.ok.glob];exact I.mod.glob.keeps I.bk) hm (by rw[I.ok.blt];exact h1.keeps I.bk) ((h2 x hn).trans hv) h) hd
theorem vx8{x:Str}{v:V}{u:Value}{pos:Pos}(hg:Gl X x)(hm:X.mg x=none)(hv:bootBuiltins x=some u)(r:RelV v u)(hn:autoParam (x≠"__name__") ŕ)(hd:autoParam ((x==("__debug__":Str))=false) ŕ):PE X (.Name x pos) (tC v):=
 λ_ _ _ H _ I h=>Vv I hg hm hv ⟨v,H,I,r,h⟩ hn hd
variable {a b:Expr}{ta tb:TE}{pos:Pos}
variable {tA tB':TT}{jw:List Expr}
abbrev tAnd(t u:TT):TT:=fun σ H Q=>t σ H λc H1=>if c=true then u σ H1 Q else Q false H1
abbrev tOr(t u:TT):TT:=fun σ H Q=>t σ H λc H1=>if c=true then Q true H1 else u σ H1 Q
abbrev tNot(t:TT):TT:=fun σ H Q=>t σ H λc H1=>Q (!c) H1
theorem vwn(ha:PT X a tA):PW X (.BoolOp .And [a] pos) tA:=by
 intro wh pins s σ H Q I h;refine isTrue_and (thn (ha pins s σ H Q I h) λc s1 e=>?_);cases c with
 |true=>exact isTrue_and_nil e
 |false=>exact e
theorem wk6(ha:PT X a tA):PW X (.BoolOp .Or [a] pos) tA:=by
 intro wh pins s σ H Q I h;refine isTrue_or (thn (ha pins s σ H Q I h) λc s1 e=>?_);cases c with
 |false=>exact isTrue_or_nil e
 |true=>exact e
theorem wk7(ha:PT X a tA)(hb:PW X (.BoolOp .And (b::jw) pos) tB'):PW X (.BoolOp .And (a::b::jw) pos) (tAnd tA tB'):=by
 intro wh pins s σ H Q I h;refine isTrue_and (thn (ha pins s σ H _ I h) λc s1 ⟨H1,I1,q1⟩=>?_);cases c with
 |true=>exact hb wh pins s1 σ H1 Q I1 q1
 |false=>exact⟨H1,I1,q1⟩
theorem wwf(ha:PT X a tA)(hb:PW X (.BoolOp .Or (b::jw) pos) tB'):PW X (.BoolOp .Or (a::b::jw) pos) (tOr tA tB'):=by
 intro wh pins s σ H Q I h;refine isTrue_or (thn (ha pins s σ H _ I h) λc s1 ⟨H1,I1,q1⟩=>?_);cases c with
 |true=>exact⟨H1,I1,q1⟩
 |false=>exact hb wh pins s1 σ H1 Q I1 q1
theorem wk8(ha:PT X a tA):PT X (.UnaryOp .Not a pos) (tNot tA):=by
 intro pins s σ H Q I h;exact isTrue_not (ha pins s σ H (λc H1=>Q (!c) H1) I h)
abbrev ww0(ta tb:TE):TE:=fun σ H Q=>ta σ H λx H1=>∃c,x=.bl c/\if c=true then tb σ H1 Q else Q (.bl false) H1
abbrev tOrV(ta tb:TE):TE:=fun σ H Q=>ta σ H λx H1=>∃c,x=.bl c/\if c=true then Q (.bl true) H1 else tb σ H1 Q
theorem wkk{op}{t:TE}(h:PE X a t):PE X (.BoolOp op [a] pos) t:=λpins s σ H Q I hw=>BoolOp_one (h pins s σ H Q I hw)
theorem wkr(ha:PE X a ta)(hb:PE X (.BoolOp .And (b::jw) pos) tb):PE X (.BoolOp .And (a::b::jw) pos) (ww0 ta tb):=by
 intro pins s σ H Q I h;refine BoolOp_and (thn (ha pins s σ H _ I h) λv s1 ⟨x,H1,I1,r1,q1⟩=>?_);obtain⟨c,rfl,q1⟩:=q1;cases r1;refine wpAny_truthy_bool ?_;cases c with
 |true=>exact hb pins s1 σ H1 Q I1 q1
 |false=>exact⟨.bl false,H1,I1,rfl,q1⟩
theorem wwl(ha:PE X a ta)(hb:PE X (.BoolOp .Or (b::jw) pos) tb):PE X (.BoolOp .Or (a::b::jw) pos) (tOrV ta tb):=by
 intro pins s σ H Q I h;refine BoolOp_or (thn (ha pins s σ H _ I h) λv s1 ⟨x,H1,I1,r1,q1⟩=>?_);obtain⟨c,rfl,q1⟩:=q1;cases r1;refine wpAny_truthy_bool ?_;cases c with
 |false=>exact hb pins s1 σ H1 Q I1 q1
 |true=>exact⟨.bl true,H1,I1,rfl,q1⟩
abbrev tIf(t:TT)(ta tb:TE):TE:=fun σ H Q=>t σ H λc H1=>if c=true then ta σ H1 Q else tb σ H1 Q
theorem vq2{c:Expr}(hc:PT X c tA)(ha:PE X a ta)(hb:PE X b tb):PE X (.IfExp c a b pos) (tIf tA ta tb):=by
 intro pins s σ H Q I h;refine wpAny_IfExp (thn (hc pins s σ H _ I h) λd s1 ⟨H1,I1,q1⟩=>?_);cases d with
 |true=>exact ha pins s1 σ H1 Q I1 q1
 |false=>exact hb pins s1 σ H1 Q I1 q1
end
noncomputable def SqL(K:PySem.W.Frag)(H:Hp)(a:Addr)(xs:List V):Prop:=
 Rd H a (.lst xs) \/
  ∃(o:Obj) (aa:Array Value) (n:Nat),K.lookup a=some o/\o.cls=.type "list"/\o.dict=none/\o.data=.seq aa n/\aa.size<=sizeLine/\Vals xs aa.toList
noncomputable def SqT(K:PySem.W.Frag)(H:Hp)(a:Addr)(xs:List V):Prop:=
 Rd H a (.tup xs) \/
  ∃(o:Obj) (aa:Array Value) (n:Nat),K.lookup a=some o/\o.cls=.type "tuple"/\o.dict=none/\o.data=.seq aa n/\aa.size<=sizeLine/\Vals xs aa.toList
noncomputable def absV:Value->Option V
 |.none=>some .non
 |.bool b=>some (.bl b)
 |.int i _=>some (.int i)
 |.str x _=>some (.str x)
 |.bytes b _=>some (.byt b)
 |.float b _=>some (.flt b)
 |.ref a=>some (.ref a)
 |.type n=>some (.ty n)
 |_=>none
theorem RelV.abs{x:V}{u:Value}(r:RelV x u):absV u=some x:=by
 cases x with
 |non=>cases r;rfl
 |bl _=>cases r;rfl
 |int _=>obtain⟨t,rfl⟩:=r;rfl
 |str _=>obtain⟨t,rfl⟩:=r;rfl
 |byt _=>obtain⟨t,rfl⟩:=r;rfl
 |flt _=>obtain⟨t,rfl⟩:=r;rfl
 |ref _=>cases r;rfl
 |ty _=>cases r;rfl
theorem RelV.inj{x y:V}{u:Value}(r:RelV x u)(q:RelV y u):x=y:=oq9 (r.abs.symm.trans q.abs)
theorem Vals.inj:∀{xs ys:List V} {us:List Value},Vals xs us->Vals ys us->xs=ys
 |_,_,_,.nil,.nil=>rfl
 |_,_,_,.cons r t,.cons r' t'=>by rw[r.inj r',Vals.inj t t']
section
variable {X:Cx}{pins:List (Addr×Obj)}{σ:St}{H:Hp}{s:Shared}{a:Addr}{xs ys:List V}
theorem SqL.of{K:PySem.W.Frag}(h:H a=some (.lst xs)):SqL K H a xs:=.inl (.inl h)
theorem SqT.of{K:PySem.W.Frag}(h:H a=some (.tup xs)):SqT K H a xs:=.inl (.inl h)
theorem Inv.list(I:Inv X pins σ H s)(h:SqL X.K H a xs):∃aa:List Value,Vals xs aa/\PlainL s.heap a aa.toArray/\xs.length<=sizeLine:=by
 rcases h with h|⟨o,aa,n,hk,hc,hd,hs,hz,r⟩
 ·obtain⟨z,aa,n,r,e⟩:=h.ok I.hok;exact⟨aa,r,⟨_,n,e,rfl,rfl,rfl⟩,z⟩
 ·refine⟨aa.toList,r,⟨o,n,I.kIn a o hk,hc,hd,by simpa using hs⟩,?_⟩;have e:=r.length;simp only[Yb]at e;omega
theorem Inv.tuple(I:Inv X pins σ H s)(h:SqT X.K H a xs):∃aa:List Value,Vals xs aa/\IsTup s.heap a aa.toArray/\xs.length<=sizeLine:=by
 rcases h with h|⟨o,aa,n,hk,hc,_,hs,hz,r⟩
 ·obtain⟨z,aa,r,p⟩:=h.ok I.hok;exact⟨aa,r,p.tup,z⟩
 ·refine⟨aa.toList,r,⟨o,I.kIn a o hk,hc,n,by simpa using hs⟩,?_⟩;have e:=r.length;simp only[Yb]at e;omega
theorem Inv.tupleD(I:Inv X pins σ H s)(h:SqT X.K H a xs):∃o,s.heap.get? a=some o/\o.dict=none:=by
 rcases h with h|⟨o,aa,n,hk,hc,hd,hs,hz,r⟩
 ·obtain⟨z,aa,r,o,e,_,d,_⟩:=h.ok I.hok;exact⟨o,e,d⟩
 ·exact⟨o,I.kIn a o hk,hd⟩
theorem Inv.list_inj(I:Inv X pins σ H s)(h:SqL X.K H a xs)(h':SqL X.K H a ys):xs=ys:=by
 obtain⟨aa,r,⟨o,n,e,_,_,d⟩,_⟩:=I.list h;obtain⟨its',r',⟨o',n',e',_,_,d'⟩,_⟩:=I.list h';rw[e]at e';cases e';rw[d]at d';injection d' with d1 _;have:aa=its':=by simpa using congrArg Array.toList d1
 subst this;exact r.inj r'
theorem Inv.tuple_inj(I:Inv X pins σ H s)(h:SqT X.K H a xs)(h':SqT X.K H a ys):xs=ys:=by
 obtain⟨aa,r,⟨o,e,_,n,d⟩,_⟩:=I.tuple h;obtain⟨its',r',⟨o',e',_,n',d'⟩,_⟩:=I.tuple h';rw[e]at e';cases e';rw[d]at d';injection d' with d1 _;have:aa=its':=by simpa using congrArg Array.toList d1
 subst this;exact r.inj r'
end
abbrev Cx.wish(X:Cx)(E:Value->Shared->Prop):Cx:={ X with xe:=E }
theorem Cx.Ok.wish{X:Cx}(ok:X.Ok)(E:Value->Shared->Prop):(X.wish E).Ok:=
 ⟨ok.mod,ok.kind,ok.glob,ok.blt,ok.above,ok.inj,ok.has,ok.cab,ok.hd,ok.frames,ok.stk,ok.exf,ok.bs,ok.bsz,ok.noex,ok.exfs,ok.funs,ok.frf⟩
theorem Cx.Ok.unwish{X:Cx}{E:Value->Shared->Prop}(ok:(X.wish E).Ok):X.Ok:=
 ⟨ok.mod,ok.kind,ok.glob,ok.blt,ok.above,ok.inj,ok.has,ok.cab,ok.hd,ok.frames,ok.stk,ok.exf,ok.bs,ok.bsz,ok.noex,ok.exfs,ok.funs,ok.frf⟩
section
variable {X:Cx}{pins:List (Addr×Obj)}{σ:St}{H:Hp}{s:Shared}{E:Value->Shared->Prop}
theorem Inv.wish(I:Inv X pins σ H s)(E:Value->Shared->Prop):Inv (X.wish E) pins σ H s:=⟨I.ok.wish E,I.os,I.bare,I.base,I.loc,I.cell,I.free,I.freeC,I.pin,I.hok,I.len⟩
theorem Inv.unwish(I:Inv (X.wish E) pins σ H s):Inv X pins σ H s:=⟨I.ok.unwish,I.os,I.bare,I.base,I.loc,I.cell,I.free,I.freeC,I.pin,I.hok,I.len⟩
theorem SP.unwish{D:Ends}{f:Flow}{s':Shared}(h:SP (X.wish E) pins D f s'):SP X pins D f s':=by
 cases f with
 |next=>obtain⟨σ',H',I,q⟩:=h;exact⟨σ',H',I.unwish,q⟩
 |brk=>obtain⟨σ',H',I,q⟩:=h;exact⟨σ',H',I.unwish,q⟩
 |cont=>obtain⟨σ',H',I,q⟩:=h;exact⟨σ',H',I.unwish,q⟩
 |ret u=>obtain⟨v,σ',H',I,r,q⟩:=h;exact⟨v,σ',H',I.unwish,r,q⟩
end
section
variable {X:Cx}{st:Stmt}{jw:List Stmt}{t u:TS}{e:Expr}{te:TE}{pos:Pos}
abbrev wvw:TS:=λD σ H=>D.nx σ H
abbrev tSeq(t u:TS):TS:=λD σ H=>t { D with nx:=u D } σ H
theorem vwu:PSs X [] wvw:=λ_ _ σ H _ I h=>wpAny_execs_nil ⟨σ,H,I,h⟩
theorem vkt(h1:PS X st t)(h2:PSs X jw u):PSs X (st::jw) (tSeq t u):=by
 intro pins s σ H D I h;refine wpAny_execs_cons (thn (h1 pins s σ H { D with nx:=u D } I h) λf s1 q=>?_);cases f with
 |next=>
  obtain⟨σ',H',I',q⟩:=q;exact h2 pins s1 σ' H' D I' q
 |ret v=>exact q
 |brk=>exact q
 |cont=>exact q
theorem vwt(h1:PS X st t):PSs X [st] t:=by
 intro pins s σ H D I h;refine wpAny_execs_cons (thn (h1 pins s σ H D I h) λf s1 q=>?_);cases f with
 |next=>exact wpAny_execs_nil q
 |ret v=>exact q
 |brk=>exact q
 |cont=>exact q
theorem Inv.quiet{pins:List (Addr×Obj)}{σ:St}{H:Hp}{s:Shared}(I:Inv X pins σ H s):interactive X.env=false:=by simp[interactive,I.ok.kind]
abbrev wvx(te:TE):TS:=λD σ H=>te σ H λ_ H1=>D.nx σ H1
theorem qx2(he:PE X e te)(hs:autoParam (swapsWith e none pos.line X.env=pure false) Ŕ):PS X (.Expr e pos) (wvx te):=by
 intro pins s σ H D I h;exact wpAny_Expr_any (thn (he pins s σ H _ I h) λv s1 ⟨x,H1,I1,r1,q1⟩=>⟨σ,H1,I1,q1⟩) I.quiet hs
abbrev tRet(te:TE):TS:=λD σ H=>te σ H D.rt
theorem wka(he:PE X e te):PS X (.Return (some e) pos) (tRet te):=by
 intro pins s σ H D I h;exact wpAny_Return_some (thn (he pins s σ H _ I h) λv s1 ⟨x,H1,I1,r1,q1⟩=>⟨x,σ,H1,I1,r1,q1⟩)
abbrev tIfS(c:TT)(t u:TS):TS:=λD σ H=>c σ H λb H1=>if b=true then t D σ H1 else u D σ H1
theorem wwg{c:Expr}{a b:List Stmt}{tc:TT}(hc:PT X c tc)(ha:PSs X a t)(hb:PSs X b u):PS X (.If c a b pos) (tIfS tc t u):=by
 intro pins s σ H D I h;refine wpAny_If (thn (hc pins s σ H _ I h) λd s1 ⟨H1,I1,q1⟩=>?_);cases d with
 |true=>exact ha pins s1 σ H1 D I1 q1
 |false=>exact hb pins s1 σ H1 D I1 q1
end
abbrev TG:=V->St->Hp->(St->Hp->Prop)->Prop
abbrev TGs:=List V->St->Hp->(St->Hp->Prop)->Prop
noncomputable def PG(X:Cx)(dz:Expr)(t:TG):Prop:=
 ∀(pins:List (Addr×Obj)) (s:Shared) (σ:St) (H:Hp) (v:V) (u:Value) (Q:St->Hp->Prop),Inv X pins σ H s->RelV v u->t v σ H Q ->
  wpAny (model X.prog X.w) X.A (assign dz X.env u) (λ_ s'=>∃ σ' H',Inv X pins σ' H' s'/\Q σ' H') X.xe s
noncomputable def PGs(X:Cx)(ts:List Expr)(t:TGs):Prop:=
 ∀(pins:List (Addr×Obj)) (s:Shared) (σ:St) (H:Hp) (vs:List V) (us:List Value) (Q:St->Hp->Prop),Inv X pins σ H s->Vals vs us->t vs σ H Q ->
  wpAny (model X.prog X.w) X.A (assignInOrder ((assignEach ts X.env).map (·.2)) us) (λ_ s'=>∃ σ' H',Inv X pins σ' H' s'/\Q σ' H') X.xe s
section
variable {X:Cx}{pos:Pos}
abbrev qzq(i:Nat):TG:=λv σ H Q=>Q (σ.set i (some v)) H
theorem KY{i:Nat}{x:Str}(hN:X.N.Nodup)(hi:X.N[i]?=some x)(hx:Loc X.env.scope x)(hf:autoParam (X.fn x=true\/X.env.scope.names.lookup x=some .local) Ř):PG X (.Name x pos) (qzq i):=by
 intro pins s σ H v u Q I r h;exact wpAny_assign_Name (kvq I hN hi hx r (λs' I'=>⟨_,H,I',h⟩) hf)
abbrev wzg:TGs:=λvs σ H Q=>vs=[]/\Q σ H
abbrev wqu(t:TG)(u:TGs):TGs:=λvs σ H Q=>∃v r,vs=v::r/\t v σ H fun σ' H'=>u r σ' H' Q
theorem z5:PGs X [] wzg:=by
 intro pins s σ H vs us Q I r h;obtain⟨e,h⟩:=h;subst e;cases r;exact assignInOrder_nil ⟨σ,H,I,h⟩
theorem qZ{e:Expr}{es:List Expr}{t:TG}{u:TGs}(h1:PG X e t)(h2:PGs X es u)
  (hs:autoParam ((assignEach (e::es) X.env).map (·.2)=assign e X.env::(assignEach es X.env).map (·.2)) Ŕ):PGs X (e::es) (wqu t u):=by
 intro pins s σ H vs us Q I r h;obtain⟨v,vr,e1,h⟩:=h;subst e1;cases r with
 |cons r rr=>
  rw[hs];refine assignInOrder_cons (thn (h1 pins s σ H _ _ _ I r h) λ_ s1 ⟨σ1,H1,I1,q1⟩=>?_);exact h2 pins s1 σ1 H1 _ _ Q I1 rr q1
abbrev wxr(te:TE)(g:TG):TS:=λD σ H=>te σ H λx H1=>g x σ H1 D.nx
theorem wkc{tg e:Expr}{te:TE}{g:TG}(he:PE X e te)(hg:PG X tg g)(hs:autoParam (swapsWithSole [tg] e pos.line X.env=pure false) Ŕ)(hw:autoParam (swappedStores [tg] e X.env=pure none) Ŕ)
  (h1:autoParam ((assignEach [tg] X.env).map (·.2)=[assign tg X.env]) Ŕ):PS X (.Assign [tg] e pos) (wxr te g):=by
 intro pins s σ H D I h;refine wpAny_Assign_stores (thn (he pins s σ H _ I h) λv s1 ⟨x,H1,I1,r1,q1⟩=>?_) hs hw;rw[h1];exact thn (hg pins s1 σ H1 x v _ I1 r1 q1) λ_ s2 q=>q
theorem wk9{i:Nat}{x:Str}{e:Expr}{te:TE}{cf:Pos}(hN:X.N.Nodup)(hi:X.N[i]?=some x)(hx:Loc X.env.scope x)(he:PE X e te)(hs:autoParam (swapsWith e (some (.Name x cf)) pos.line X.env=pure false) Ŕ)(hf:autoParam (X.fn x=true\/X.env.scope.names.lookup x=some .local) Ř):
  PS X (.Assign [.Name x cf] e pos) (wxr te (qzq i)):=by
 intro pins s σ H D I h;refine wpAny_Assign_Name (thn (he pins s σ H _ I h) λv s1 ⟨y,H1,I1,r1,q1⟩=>?_) hs;exact kvq I1 hN hi hx r1 (λs2 I2=>⟨_,H1,I2,q1⟩) hf
end
section
variable {X:Cx}{pos:Pos}
abbrev wj7(c:TT)(tb:TS):TS:=λD σ H=>∃W:Nat->St->Hp->Prop,(∃m,W m σ H)/\∀m σ H,W m σ H ->
 c σ H λb H1=>if b=true then ∃N:St->Hp->Prop,(∀ σ' H',N σ' H'->∃m',m'<m/\W m' σ' H')/\tb { D with nx:=N,ct:=N,bk:=D.nx } σ H1 else D.nx σ H1
theorem vku{c:Expr}{body:List Stmt}{tc:TT}{tb:TS}(hp:PassesOwn (model X.prog X.w) X.A X.env X.xe)(hc:PT X c tc)(hb:PSs X body tb):PS X (.While c body [] pos) (wj7 tc tb):=by
 intro pins s σ H D I h;obtain⟨W,⟨m0,w0⟩,fb⟩:=h;refine wpAny_While (codeAny_whileLoop (λn s'=>∃ σ' H',Inv X pins σ' H' s'/\W n σ' H') ?_ m0 ⟨σ,H,I,w0⟩);rintro n s1 ⟨σ1,H1,I1,w1⟩;refine Z1 hp (thn (hc pins s1 σ1 H1 _ I1 (fb n σ1 H1 w1)) λb s2 ⟨H2,I2,q2⟩=>?_);cases b with
 | true=>
  obtain⟨N,hN,q2⟩:=q2;rw[X9 rfl];refine Z1 hp (thn (hb pins s2 σ1 H2 _ I2 q2) λf s3 q3=>?_);cases f with
  |next=>
   obtain⟨σ3,H3,I3,n3⟩:=q3;obtain⟨m',hm,w3⟩:=hN σ3 H3 n3;exact⟨m',hm,σ3,H3,I3,w3⟩
  |cont=>
   obtain⟨σ3,H3,I3,n3⟩:=q3;obtain⟨m',hm,w3⟩:=hN σ3 H3 n3;exact⟨m',hm,σ3,H3,I3,w3⟩
  |brk=>exact q3
  |ret v=>exact q3
 |false=>
  rw[Xd Bool.false_ne_true];exact wpAny_execs_nil ⟨σ1,H2,I2,q2⟩
end
structure It where
 go:Nat->Hp->Prop
 yld:Nat->Hp->V->Hp->Prop
 stop:Nat->Hp->Prop
noncomputable def wX(X:Cx)(pins:List (Addr×Obj))(H:Hp)(b:Addr):Prop:=
 H b=none/\b≠X.env.locals/\b∉X.fs/\(b∈X.ex\/X.s₀.heap.objs.size<=b)/\(∀x c,X.env.cells.lookup x=some c->c≠b)/\∀p∈X.pn++pins,p.1≠b
theorem Inv.fpOk{X:Cx}{pins:List (Addr×Obj)}{σ:St}{H H':Hp}{s:Shared}{b:Addr}(I:Inv X pins σ H s)(hb:s.heap.objs.size<=b)(hn:H' b=none):wX X pins H' b:=by
 refine⟨hn,Nat.ne_of_gt (Xn I.lt hb),I.nofs hb,.inr (Y3 I.sz hb),λx c e z=>?_,λp hp z=>?_⟩
 ·obtain⟨v,q⟩:=I.cell x c e;exact absurd (Xn q.lt (by rw[z];exact hb)) (Yg _)
 ·exact absurd (Xn (Xl (I.pin p hp).1) (by rw[z];exact hb)) (Yg _)
structure Turn (P:Program)(w:World)(K:PySem.W.Frag)(tg:Expr)(J:It)(fp:List Addr)(it:Addr)(tn:Nat->Heap->Prop):Prop where
 mem:it∈fp
 obj:∀i h,tn i h->∀b∈fp,∃o,h.get? b=some o/\∀v,o.data≠.cell v
 keep:∀i h h',tn i h->(∀b∈fp,∀o,h.get? b=some o->h'.get? b=some o)->tn i h'
 item:∀(X:Cx),X.prog=P->X.w=w->X.K=K->X.calm=true->∀(i:Nat) (pins:List (Addr×Obj)) (s:Shared) (σ:St) (H:Hp) (E:Value->Shared->Prop),Inv X pins σ H s->(∀b∈fp,wX X pins H b)->tn i s.heap->J.go i H ->
  wpAny (model P w) X.A (pyNext (.ref it)) (λr s1=>∃u,r=some u /\
   wpAny (model P w) X.A (letOwnedTupleGo tg (.ref it) u) (λ_ s2=>∃x H',Inv X pins σ H' s2/\RelV x u/\J.yld i H x H'/\tn (i+1) s2.heap/\∀b∈fp,H' b=none) E s1) E s
 done:∀(X:Cx),X.prog=P->X.w=w->X.K=K->X.calm=true->∀(i:Nat) (pins:List (Addr×Obj)) (s:Shared) (σ:St) (H:Hp) (E:Value->Shared->Prop),Inv X pins σ H s->(∀b∈fp,wX X pins H b)->tn i s.heap->J.stop i H ->
  wpAny (model P w) X.A (pyNext (.ref it)) (λr s1=>r=none/\Inv X pins σ H s1) E s
 self:∀(A:Around) (i:Nat) (s:Shared) (Q:Value->Shared->Prop) (E:Value->Shared->Prop),tn i s.heap->Q (.ref it) s->wpAny (model P w) A (pyIter (.ref it)) Q E s
abbrev TI:=St->Hp->(It->Hp->Prop)->Prop
noncomputable def PIE(X:Cx)(pins:List (Addr×Obj))(σ:St)(tg:Expr)(R:It->Hp->Prop)(itv:Value)(s2:Shared):Prop:=
 ∃(it:Addr) (fp:List Addr) (tn:Nat->Heap->Prop) (J:It) (H':Hp),itv=.ref it/\Inv X pins σ H' s2/\Turn X.prog X.w X.K tg J fp it tn/\tn 0 s2.heap/\(∀b∈fp,wX X pins H' b)/\R J H'
noncomputable def PI(X:Cx)(tg iter:Expr)(wi:TI):Prop:=
 ∀(pins:List (Addr×Obj)) (s:Shared) (σ:St) (H:Hp) (R:It->Hp->Prop),Inv X pins σ H s->wi σ H R ->
  wpAny (model X.prog X.w) X.A (eval iter X.env) (λv s1=>wpAny (model X.prog X.w) X.A (pyIter v) (PIE X pins σ tg R) X.xe s1) X.xe s
theorem vqq {M : Model} {A : Around} {E : Value -> Shared -> Prop} {s : Shared} {tg : Expr} {it : Addr} {u : Value} {o : Obj} {n : String} {vs : Array Value} {Q : Unit -> Shared -> Prop} (ho : s.heap.get? it = some o) (hc : o.cls = .type n) (hd : o.data = .fields vs)
    (hn : ["enumerate", "zip", "dict_itemiterator", "dict_reverseitemiterator", "odict_iterator", "itertools.zip_longest", "itertools.pairwise"].contains n = false) (hQ : Q () s): wpAny M A (letOwnedTupleGo tg (.ref it) u) Q E s:= by
  unfold letOwnedTupleGo;cases tg <;> first
    |exact X5 hQ
    |(cases u <;> first
        |exact X5 hQ
        | (refine X0 (wpAny_load ho ?_)
           rw[hc, hd];show wpAny M A (if(["enumerate", "zip", "dict_itemiterator", "dict_reverseitemiterator", "odict_iterator", "itertools.zip_longest", "itertools.pairwise"].contains n&&vs[0]? == some (rawInt _)) = true then _ else _) Q E s;rw[Xd (by intro h; rw[hn, Bool.false_and]at h; cases h)];exact X5 hQ))
noncomputable def Itl(K:PySem.W.Frag)(a:Addr):It:=
 ⟨λi H=>∃xs x,SqL K H a xs/\xs[i]?=some x,λi H x H'=>H'=H/\∀xs,SqL K H a xs->xs[i]?=some x,λi H=>∃xs,SqL K H a xs/\xs.length<=i⟩
noncomputable def Itt(K:PySem.W.Frag)(a:Addr):It:=
 ⟨λi H=>∃xs x,SqT K H a xs/\xs[i]?=some x,λi H x H'=>H'=H/\∀xs,SqT K H a xs->xs[i]?=some x,λi H=>∃xs,SqT K H a xs/\xs.length<=i⟩
noncomputable def Itr(lo:Int)(n:Nat):It:=⟨λi _=>i<n,λi H x H'=>H'=H/\x=.int (lo+i),λi _=>n<=i⟩
theorem qw8{P:Program}{w:World}{K:PySem.W.Frag}{tg:Expr}(a it:Addr):Turn P w K tg (Itl K a) [it] it (λi h=>h.IsListIter it a i) where
 mem:=by simp
 obj:=λi h st b hb=>by
  have e:b=it:=by simpa using hb
  subst e;obtain⟨o,e,c,d⟩:=st;exact⟨o,e,λv z=>by rw[d]at z;cases z⟩
 keep:=λi h h' st k=>st.at λo e=>k it (by simp) o e
 item:=by
  intro X hP hw hK hc i pins s σ H E I hf st hg;subst hP hw hK;obtain⟨xs,x,hq,hx⟩:=hg;obtain⟨aa,rv,p,hz⟩:=I.list hq;obtain⟨u,hu,ru⟩:=rv.get hx;obtain⟨f0,f1,f2,f3,f4,f5⟩:=hf it (by simp);refine wpAny_pyNext_list_item st p.isList (x:=u) (by simpa using hu) λh' cz sb=>?_
  have I1:Inv X pins σ H { s with heap:=h' }:=I.turned (t':=s.toks) (λb o hb e=>(sb.2 b hb).trans e) f0 f1 f3 f4 f5;obtain⟨o,e,c,d⟩:=id cz;exact⟨u,rfl,vqq (s:={ s with heap:=h' }) e c d (by decide) ⟨x,H,I1,ru,⟨rfl,λys hy=>by rw[I.list_inj hy hq];exact hx⟩,cz,λb hb=>(hf b hb).1⟩⟩
 done:=by
  intro X hP hw hK hc i pins s σ H E I hf st hg;subst hP hw hK;obtain⟨xs,hq,hx⟩:=hg;obtain⟨aa,rv,p,hz⟩:=I.list hq;obtain⟨f0,f1,f2,f3,f4,f5⟩:=hf it (by simp);have hl:=rv.length;exact wpAny_pyNext_list_end (I.ok.hd hc) st p.isList (by simp;omega) λh' eb=>⟨rfl,I.turned (t':=s.toks) (λb o hb e=>eb b o hb e) f0 f1 f3 f4 f5⟩
 self:=λ_ _ _ _ _ st h=>wpAny_pyIter_listiter st h
theorem qqt{P:Program}{w:World}{K:PySem.W.Frag}{tg:Expr}(a it:Addr):Turn P w K tg (Itt K a) [it] it (λi h=>h.IsTupleIter it a i) where
 mem:=by simp
 obj:=λi h st b hb=>by
  have e:b=it:=by simpa using hb
  subst e;obtain⟨o,e,c,d⟩:=st;exact⟨o,e,λv z=>by rw[d]at z;cases z⟩
 keep:=λi h h' st k=>st.at λo e=>k it (by simp) o e
 item:=by
  intro X hP hw hK hc i pins s σ H E I hf st hg;subst hP hw hK;obtain⟨xs,x,hq,hx⟩:=hg;obtain⟨aa,rv,p,hz⟩:=I.tuple hq;obtain⟨u,hu,ru⟩:=rv.get hx;obtain⟨f0,f1,f2,f3,f4,f5⟩:=hf it (by simp);refine wpAny_pyNext_tuple_item st (show s.heap.IsTuple a aa.toArray from p) (x:=u) (by simpa using hu) λh' cz sb=>?_
  have I1:Inv X pins σ H { s with heap:=h' }:=I.turned (t':=s.toks) (λb o hb e=>(sb.2 b hb).trans e) f0 f1 f3 f4 f5;obtain⟨o,e,c,d⟩:=id cz;exact⟨u,rfl,vqq (s:={ s with heap:=h' }) e c d (by decide) ⟨x,H,I1,ru,⟨rfl,λys hy=>by rw[I.tuple_inj hy hq];exact hx⟩,cz,λb hb=>(hf b hb).1⟩⟩
 done:=by
  intro X hP hw hK hc i pins s σ H E I hf st hg;subst hP hw hK;obtain⟨xs,hq,hx⟩:=hg;obtain⟨aa,rv,p,hz⟩:=I.tuple hq;obtain⟨f0,f1,f2,f3,f4,f5⟩:=hf it (by simp);have hl:=rv.length;exact wpAny_pyNext_tuple_end (I.ok.hd hc) st (show s.heap.IsTuple a aa.toArray from p) (by simp;omega) λh' eb=>⟨rfl,I.turned (t':=s.toks) (λb o hb e=>eb b o hb e) f0 f1 f3 f4 f5⟩
 self:=λ_ _ _ _ _ st h=>wpAny_pyIter_tupleiter st h
theorem qqu{P:Program}{w:World}{K:PySem.W.Frag}{tg:Expr}(it:Addr)(lo:Int)(n:Nat):Turn P w K tg (Itr lo n) [it] it (λi h=>IsRangeIter h it (lo+(i:Nat)*1) ((n:Int) - (i:Nat)) 1) where
 mem:=by simp
 obj:=λi h st b hb=>by
  have e:b=it:=by simpa using hb
  subst e;exact⟨_,st,λv z=>by
   have z':Data.fields _=Data.cell v:=z;cases z'⟩
 keep:=λi h h' st k=>k it (by simp) _ st
 item:=by
  intro X hP hw hK hc i pins s σ H E I hf st hg;subst hP hw hK;obtain⟨f0,f1,f2,f3,f4,f5⟩:=hf it (by simp);have W:=Walks.range (prog:=X.prog) (w:=X.w) (I.ok.hd hc) it lo 1 n;refine W.item i s _ _ hg st λv h' tk hv cz kk=>?_
  obtain⟨t,rfl⟩:=hv;have I1:Inv X pins σ H { s with heap:=h',toks:=tk }:=I.turned (λb o hb e=>kk b o (by simpa using hb) e) f0 f1 f3 f4 f5;refine⟨_,rfl,vqq (s:={ s with heap:=h',toks:=tk }) (n:="range_iterator") cz rfl rfl (by decide) ⟨.int (lo+i),H,I1,⟨t,?_⟩,⟨rfl,rfl⟩,cz,λb hb=>(hf b hb).1⟩⟩;rw[Int.mul_one]
 done:=by
  intro X hP hw hK hc i pins s σ H E I hf st hg;subst hP hw hK;obtain⟨f0,f1,f2,f3,f4,f5⟩:=hf it (by simp);exact wpAny_pyNext_range_end (I.ok.hd hc) st (by have:n<=i:=hg;omega) λh' eb=>⟨rfl,I.turned (t':=s.toks) (λb o hb e=>eb b o hb e) f0 f1 f3 f4 f5⟩
 self:=λ_ _ _ _ _ st h=>wpAny_pyIter_rangeiter st h
section
variable {X:Cx}{tg:Expr}
theorem qko{pins:List (Addr×Obj)}{σ:St}{H:Hp}{s:Shared}{R:It->Hp->Prop}{E:Value->Shared->Prop}{lo hi:Int}{t u v:Tok}{tk:Nat}(I:Inv X pins σ H s)(h1:-(2 ^ 62)<=lo)(h2:lo<2 ^ 62)(h3:-(2 ^ 62)<=hi)(h4:hi<2 ^ 62)
  (q:R (Itr lo (hi - lo).toNat) H):wpAny (model X.prog X.w) X.A (pyIter (.ref s.heap.objs.size)) (PIE X pins σ tg R) E { s with heap:=s.heap.push { cls:=.type "range",data:=.fields #[.int lo t,.int hi u,.int 1 v] },toks:=tk }:=by
 refine wpAny_pyIter_range (IsRange.new ..) (small_one h1 h2 h3 h4) ?_;have I1:Inv X pins σ H { s with heap:=s.heap.push { cls:=.type "range",data:=.fields #[.int lo t,.int hi u,.int 1 v] },toks:=tk }:=I.kept λb o e=>X6 _ e
 refine⟨(s.heap.push { cls:=.type "range",data:=.fields #[.int lo t,.int hi u,.int 1 v] }).objs.size,[(s.heap.push { cls:=.type "range",data:=.fields #[.int lo t,.int hi u,.int 1 v] }).objs.size],_,_,H,rfl,
  I1.kept (t':=tk) λb o e=>X6 _ e,qqu _ lo (hi - lo).toNat,?_,λb hb=>?_,q⟩
 ·have e1:lo+((0:Nat):Int)*1=lo:=by simp
  have e2:(((hi - lo).toNat:Nat):Int) - ((0:Nat):Int)=Builtin.Range.rangeSize lo hi 1:=by rw[rangeSize_one];split<;>omega
  show IsRangeIter _ _ (lo+((0:Nat):Int)*1) ((((hi - lo).toNat:Nat):Int) - ((0:Nat):Int)) 1;rw[e1,e2];exact Xj _ rfl
 ·have e:b=(s.heap.push { cls:=.type "range",data:=.fields #[.int lo t,.int hi u,.int 1 v] }).objs.size:=by simpa using hb
  subst e;exact I1.fpOk (X8 _) (I1.hok.fresh (X8 _))
abbrev wx4(ta:TA):TI:=fun σ H R=>ta σ H λvs H1=>∃j:Int,vs=[.int j]/\-(2 ^ 62)<=j/\j<2 ^ 62/\R (Itr 0 j.toNat) H1
abbrev wx3(ta:TA):TI:=fun σ H R=>ta σ H λvs H1=>∃i j:Int,vs=[.int i,.int j]/\(-(2 ^ 62)<=i/\i<2 ^ 62/\-(2 ^ 62)<=j/\j<2 ^ 62)/\R (Itr i (j - i).toNat) H1
theorem qx9{a:Expr}{ta:TA}{p pos:Pos}(hg:Gl X "range")(hm:X.mg "range"=none)(ha:PA X [a] ta)(hs:autoParam (starEach [a] X.env=[(false,eval a X.env)]) Ŕ):PI X tg (.Call (.Name "range" p) [a] [] pos) (wx4 ta):=by
 intro pins s σ H R I h;refine Call_ (Vv I hg hm boot_range (Y8 (thn (ha pos pins s σ H _ I h) λus s1 ⟨vs,H1,I1,r1,q1⟩=>?_) hs rfl));obtain⟨j,e,q1,q2,q⟩:=q1;subst e;cases r1 with
 |cons r rr=>
  cases rr;obtain⟨t,rfl⟩:=r;exact call_range_1 (qko I1 (by omega) (by omega) q1 q2 (by simpa using q))
theorem qx8{a b:Expr}{ta:TA}{p pos:Pos}(hg:Gl X "range")(hm:X.mg "range"=none)(ha:PA X [a,b] ta)(hs:autoParam (starEach [a,b] X.env=[(false,eval a X.env),(false,eval b X.env)]) Ŕ)(gl:autoParam (starEach [b] X.env=[(false,eval b X.env)]) Ŕ):
  PI X tg (.Call (.Name "range" p) [a,b] [] pos) (wx3 ta):=by
 intro pins s σ H R I h;refine Call_ (Vv I hg hm boot_range (Y8 (thn (ha pos pins s σ H _ I h) λus s1 ⟨vs,H1,I1,r1,q1⟩=>?_) (by rw[hs,gl]) (by rw[gl];rfl)));obtain⟨i,j,e,⟨q1,q2,q3,q4⟩,q⟩:=q1;subst e;cases r1 with
 | cons r rr=>
  cases rr with
  |cons r' rr=>
   cases rr;obtain⟨t,rfl⟩:=r;obtain⟨t',rfl⟩:=r';exact call_range_2 (qko I1 q1 q2 q3 q4 q)
abbrev tFor(wi:TI)(g:TG)(tb:TS):TS:=λD σ H=>wi σ H λJ H1=>∃W:Nat->Nat->St->Hp->Prop,(∃m,W 0 m σ H1)/\∀i m σ H,W i m σ H ->
 (J.stop i H/\D.nx σ H)\/(J.go i H/\∃N:St->Hp->Prop,(∀ σ' H',N σ' H'->∃m',m'<m/\W (i+1) m' σ' H')/\∀x H',J.yld i H x H'->g x σ H' fun σ2 H2=>tb { D with nx:=N,ct:=N,bk:=D.nx } σ2 H2)
noncomputable def V0(fp:List Addr)(h:Heap):List (Addr×Obj):=fp.filterMap λb=>(h.get? b).map λo=>(b,o)
theorem kj5{fp:List Addr}{h:Heap}{b:Addr}{o:Obj}(hb:b∈fp)(e:h.get? b=some o):(b,o)∈V0 fp h:=List.mem_filterMap.mpr ⟨b,hb,by rw[e];rfl⟩
theorem kxy{fp:List Addr}{h:Heap}{p:Addr×Obj}(hp:p∈V0 fp h):p.1∈fp/\h.get? p.1=some p.2:=by
 obtain⟨b,hb,e⟩:=List.mem_filterMap.mp hp;cases q:h.get? b with
 |none=>rw[q]at e;cases e
 |some o=>
  rw[q]at e;have e':(b,o)=p:=oq9 e;subst e';exact⟨hb,q⟩
theorem Inv.pinned{pins:List (Addr×Obj)}{σ:St}{H:Hp}{s:Shared}{fp:List Addr}(I:Inv X pins σ H s)(hf:∀b∈fp,wX X pins H b)(ho:∀b∈fp,∃o,s.heap.get? b=some o/\∀v,o.data≠.cell v):Inv X (pins++V0 fp s.heap) σ H s:=
 I.pins_of λp hp=>(List.mem_append.mp hp).elim (λz=>I.pin p (lr9 _ z)) λz=>by
  obtain⟨hb,e⟩:=kxy z;obtain⟨f0,f1,f2,_⟩:=hf p.1 hb;obtain⟨o,e',d⟩:=ho p.1 hb;rw[e]at e';cases e';exact⟨e,f0,f1,f2,d⟩
theorem Inv.unpinned{pins pl:List (Addr×Obj)}{σ:St}{H:Hp}{s:Shared}(I:Inv X (pins++pl) σ H s):Inv X pins σ H s:=I.pins_of λp hp=>I.pin p (lr9 _ (ll9 _ hp))
theorem wkb{iter:Expr}{body:List Stmt}{wi:TI}{g:TG}{tb:TS}{pos:Pos}(hp:PassesOwn (model X.prog X.w) X.A X.env X.xe)(hc:X.calm=true)(hi:PI X tg iter wi)(hg:PG X tg g)(hb:PSs X body tb)
  (hs:autoParam (∀x,foldedSetIterable iter X.env x=pure x) Ŗ):PS X (.For tg iter body [] pos) (tFor wi g tb):=by
 intro pins s σ H D I h;refine wpAny_For (thn (hi pins s σ H _ I h) λv s1 h1=>thn h1 λitv s2 h2=>?_) hs;obtain⟨it,fp,tn,J,H2,e,I2,T,b7,f2,W,⟨m0,w0⟩,fb⟩:=h2;subst e;have ir:∀{H':Hp},(∀b∈fp,H' b=none)->∀b∈fp,wX X pins H' b:=λhn b hb=>⟨hn b hb,(f2 b hb).2⟩
 refine codeAny_forLoop_any (λn s'=>∃i σ' H',Inv X pins σ' H' s'/\tn i s'.heap/\(∀b∈fp,H' b=none)/\W i n σ' H') ?_ m0 ⟨0,σ,H2,I2,b7,λb hb=>(f2 b hb).1,w0⟩;rintro n s3 ⟨i,σ3,H3,I3,cw,qp,w3⟩;rcases fb i n σ3 H3 w3 with⟨stop,qn⟩|⟨go,N,hN,step⟩
 ·refine Z1 hp (thn (T.done X rfl rfl rfl hc i pins s3 σ3 H3 X.xe I3 (ir qp) cw stop) λr s4 ⟨hr,I4⟩=>?_);subst hr;exact wpAny_execs_nil ⟨σ3,H3,I4,qn⟩
 ·refine Z1 hp (thn (T.item X rfl rfl rfl hc i pins s3 σ3 H3 X.xe I3 (ir qp) cw go) λr s4 ⟨u,hr,h4⟩=>?_);subst hr;refine Z1 hp (thn h4 λ_ s5 ⟨x,H5,I5,r5,y5,n6,fr5⟩=>?_);have I5':=I5.pinned (ir fr5) (T.obj _ _ n6);refine Z1 hp (thn (hg _ s5 σ3 H5 x u _ I5' r5 (step x H5 y5)) λ_ s6 ⟨σ6,H6,I6,q6⟩=>?_);refine Z1 hp (thn (hb _ s6 σ6 H6 _ I6 q6) λf s7 q7=>?_);have be:∀{σ7:St} {H7:Hp},Inv X (pins++V0 fp s5.heap) σ7 H7 s7->N σ7 H7->∃m,m<n/\∃i σ' H',Inv X pins σ' H' s7/\tn i s7.heap/\(∀b∈fp,H' b=none)/\W i m σ' H':=fun {σ7 H7} I7 n7=>by
   obtain⟨m',hm,w7⟩:=hN σ7 H7 n7;refine⟨m',hm,i+1,σ7,H7,I7.unpinned,T.keep _ _ _ n6 λb hb o e=>(I7.pin (b,o) (lr9 _ (lr9 _ (kj5 hb e)))).1,λb hb=>?_,w7⟩;obtain⟨o,e,d⟩:=T.obj _ _ n6 b hb;exact(I7.pin (b,o) (lr9 _ (lr9 _ (kj5 hb e)))).2.1
  cases f with
  |next=>obtain⟨σ7,H7,I7,n7⟩:=q7;exact be I7 n7
  |cont=>obtain⟨σ7,H7,I7,n7⟩:=q7;exact be I7 n7
  |brk=>obtain⟨σ7,H7,I7,q7⟩:=q7;exact⟨σ7,H7,I7.unpinned,q7⟩
  |ret v=>obtain⟨x7,σ7,H7,I7,r7,q7⟩:=q7;exact⟨x7,σ7,H7,I7.unpinned,r7,q7⟩
end
abbrev R2:=V->V->Hp->VK->Prop
noncomputable def OpR(X:Cx)(f:Value->Value->Sem Value)(r:R2):Prop:=
 ∀(pins:List (Addr×Obj)) (s:Shared) (σ:St) (H:Hp) (x y:V) (v u:Value) (Q:VK),Inv X pins σ H s->RelV x v->RelV y u->r x y H Q ->
  wpAny (model X.prog X.w) X.A (f v u) (EP X pins σ Q) X.xe s
noncomputable def UnR(X:Cx)(f:Value->Sem Value)(r:V->Hp->VK->Prop):Prop:=
 ∀(pins:List (Addr×Obj)) (s:Shared) (σ:St) (H:Hp) (x:V) (v:Value) (Q:VK),Inv X pins σ H s->RelV x v->r x H Q ->
  wpAny (model X.prog X.w) X.A (f v) (EP X pins σ Q) X.xe s
noncomputable def CallR(X:Cx)(f:Value)(r:List V->Hp->VK->Prop):Prop:=
 ∀(pins:List (Addr×Obj)) (s:Shared) (σ:St) (H:Hp) (xs:List V) (us:List Value) (Q:VK),Inv X pins σ H s->Vals xs us->r xs H Q ->
  wpAny (model X.prog X.w) X.A (call f us) (EP X pins σ Q) X.xe s
noncomputable def TruR(X:Cx)(r:V->Hp->(Bool->Hp->Prop)->Prop):Prop:=
 ∀(pins:List (Addr×Obj)) (s:Shared) (σ:St) (H:Hp) (x:V) (v:Value) (Q:Bool->Hp->Prop),Inv X pins σ H s->RelV x v->r x H Q ->
  wpAny (model X.prog X.w) X.A (truthy v) (TP X pins σ Q) X.xe s
abbrev tOp(r:R2)(ta tb:TE):TE:=fun σ H Q=>ta σ H λx H1=>tb σ H1 λy H2=>r x y H2 Q
abbrev tUn(r:V->Hp->VK->Prop)(ta:TE):TE:=fun σ H Q=>ta σ H λx H1=>r x H1 Q
noncomputable def rI(C:Int->Int->Prop)(g:Int->Int->V):R2:=λx y H Q=>∃i j,x=.int i/\y=.int j/\C i j/\Q (g i j) H
noncomputable def rI0(g:Int->Int->V):R2:=λx y H Q=>∃i j,x=.int i/\y=.int j/\Q (g i j) H
noncomputable def rU(g:Int->V):V->Hp->VK->Prop:=λx H Q=>∃i,x=.int i/\Q (g i) H
section
variable {X:Cx}{a b c:Expr}{ta tb tc:TE}{pos:Pos}
theorem wxi(ha:PE X a ta)(hb:PE X b tb){pins:List (Addr×Obj)}{s:Shared}{σ:St}{H:Hp}{R:V->V->Hp->Prop}(I:Inv X pins σ H s)
  (h:ta σ H λx H1=>tb σ H1 λy H2=>R x y H2) {Q:Value->Shared->Prop} {f:Value->Value->Sem Value}
  (hf:∀v u s2 x y H2,Inv X pins σ H2 s2->RelV x v->RelV y u->R x y H2->wpAny (model X.prog X.w) X.A (f v u) Q X.xe s2):
  wpAny (model X.prog X.w) X.A (eval a X.env) (λv s₁=>wpAny (model X.prog X.w) X.A (eval b X.env) (λu s₂=>wpAny (model X.prog X.w) X.A (f v u) Q X.xe s₂) X.xe s₁) X.xe s:=by
 refine thn (ha pins s σ H _ I h) λv s1 ⟨x,H1,I1,r1,q1⟩=>?_
 refine thn (hb pins s1 σ H1 _ I1 q1) λu s2 ⟨y,H2,I2,r2,q2⟩=>?_
 exact hf v u s2 x y H2 I2 r1 r2 q2
theorem wwm{op:Operator}{r:R2}(ho:OpR X (binaryOp op) r)(ha:PE X a ta)(hb:PE X b tb):PE X (.BinOp a op b pos) (tOp r ta tb):=by
 intro pins s σ H Q I h;exact wpAny_BinOp (wxi ha hb I h λv u s2 x y H2 I2 rx ry q=>ho pins s2 σ H2 x y v u Q I2 rx ry q)
theorem wwk{op:UnaryOp}{r:V->Hp->VK->Prop}(ho:UnR X (unaryOp op) r)(ha:PE X a ta):PE X (.UnaryOp op a pos) (tUn r ta):=by
 intro pins s σ H Q I h;exact UnaryOp_ (thn (ha pins s σ H _ I h) λv s1 ⟨x,H1,I1,r1,q1⟩=>ho pins s1 σ H1 x v Q I1 r1 q1)
theorem opI{f:Value->Value->Sem Value}{C:Int->Int->Prop}{g:Int->Int->Int}
  (il:∀(i j:Int) (t u:Tok) (s:Shared) (Q:Value->Shared->Prop) (E:Value->Shared->Prop),C i j->Q (.int (g i j) s.toks) { s with toks:=s.toks+1 }->wpAny (model X.prog X.w) X.A (f (.int i t) (.int j u)) Q E s):
  OpR X f (rI C λi j=>.int (g i j)):=by
 intro pins s σ H x y v u Q I rx ry h;obtain⟨i,j,rfl,rfl,hc,q⟩:=h;obtain⟨t,rfl⟩:=rx;obtain⟨t',rfl⟩:=ry;exact il i j t t' s _ _ hc ⟨.int (g i j),H,I.tok _,⟨_,rfl⟩,q⟩
theorem wz6{f:Value->Value->Sem Value}{g:Int->Int->Int}
  (il:∀(i j:Int) (t u:Tok) (s:Shared) (Q:Value->Shared->Prop) (E:Value->Shared->Prop),Q (.int (g i j) s.toks) { s with toks:=s.toks+1 }->wpAny (model X.prog X.w) X.A (f (.int i t) (.int j u)) Q E s):
  OpR X f (rI0 λi j=>.int (g i j)):=by
 intro pins s σ H x y v u Q I rx ry h;obtain⟨i,j,rfl,rfl,q⟩:=h;obtain⟨t,rfl⟩:=rx;obtain⟨t',rfl⟩:=ry;exact il i j t t' s _ _ ⟨.int (g i j),H,I.tok _,⟨_,rfl⟩,q⟩
theorem wz7{f:Value->Value->Sem Value}{g:Int->Int->Bool}
  (il:∀(i j:Int) (t u:Tok) (s:Shared) (Q:Value->Shared->Prop) (E:Value->Shared->Prop),Q (.bool (g i j)) s->wpAny (model X.prog X.w) X.A (f (.int i t) (.int j u)) Q E s):
  OpR X f (rI0 λi j=>.bl (g i j)):=by
 intro pins s σ H x y v u Q I rx ry h;obtain⟨i,j,rfl,rfl,q⟩:=h;obtain⟨t,rfl⟩:=rx;obtain⟨t',rfl⟩:=ry;exact il i j t t' s _ _ ⟨.bl (g i j),H,I,rfl,q⟩
noncomputable def wzk(i j:Int):Prop:=0<=j/\j<=1000000/\i.natAbs<2 ^ 64
theorem op_add:OpR X (binaryOp .Add) (rI0 λi j=>.int (i+j)):=wz6 λ_ _ _ _ _ _ _ q=>add_int q
theorem qkt:OpR X (binaryOp .Sub) (rI0 λi j=>.int (i - j)):=wz6 λ_ _ _ _ _ _ _ q=>sub_int q
theorem wkv:OpR X (binaryOp .Mod) (rI (λ_ j=>0<j) λi j=>.int (i % j)):=opI λi j _ _ _ _ _ hc q=>by
 have h1:(0:Int)<j:=hc;exact mod_int' (by omega) (by rw[Int.fmod_eq_emod_of_nonneg i (by omega)];exact q)
theorem kxo:OpR X (binaryOp .Pow) (rI wzk λi j=>.int (i ^ j.toNat)):=opI λ_ _ _ _ _ _ _ hc q=>pow_int_small hc.1 hc.2.1 hc.2.2 q
theorem unI{f:Value->Sem Value}{g:Int->Int}
  (il:∀(i:Int) (t:Tok) (s:Shared) (Q:Value->Shared->Prop) (E:Value->Shared->Prop),Q (.int (g i) s.toks) { s with toks:=s.toks+1 }->wpAny (model X.prog X.w) X.A (f (.int i t)) Q E s):
  UnR X f (rU λi=>.int (g i)):=by
 intro pins s σ H x v Q I rx h;obtain⟨i,rfl,q⟩:=h;obtain⟨t,rfl⟩:=rx;exact il i t s _ _ ⟨.int (g i),H,I.tok _,⟨_,rfl⟩,q⟩
theorem ZZ:UnR X (unaryOp .USub) (rU λi=>.int (-i)):=unI λ_ _ _ _ _ q=>neg_int q
end
section
variable {X:Cx}{a b c:Expr}{ta tb tc:TE}{pos:Pos}
theorem vj1{pins:List (Addr×Obj)}{σ:St}{H:Hp}{s:Shared}{Q:VK}{k k':Bool}(I:Inv X pins σ H s)(q:Q (.bl k) H)(e:k=k'):EP X pins σ Q (.bool k') s:=by
 subst e;exact⟨.bl k,H,I,rfl,q⟩
theorem vxc:OpR X (compareOp .Lt) (rI0 λi j=>.bl (decide (i<j))):=wz7 λ_ _ _ _ _ _ _ q=>lt_int q
theorem qv8:OpR X (compareOp .Gt) (rI0 λi j=>.bl (decide (j<i))):=wz7 λ_ _ _ _ _ _ _ q=>gt_int q
theorem qxd:OpR X (compareOp .In) (λx y H Q=>∃i j,x=.str i/\y=.str j/\Q (.bl (!(Builtin.Str.occurrences j i 0 j.length 1).isEmpty)) H):=by
 intro pins s σ H x y v u Q I rx ry h;obtain⟨i,j,rfl,rfl,q⟩:=h;obtain⟨t,rfl⟩:=rx;obtain⟨t',rfl⟩:=ry;exact in_str (vj1 I q rfl)
theorem Jz : OpR X (compareOp .Is) (λx y H Q=>y = .non /\ Q (.bl (decide (x = .non))) H):= by
  intro pins s σ H x y v u Q I rx ry h;obtain⟨rfl, q⟩:= h;cases ry;refine is_none_gen (vj1 I q ?_);cases x <;> first
    |(cases rx; rfl)
    |(obtain⟨t, rfl⟩:= rx; rfl)
theorem V9 : OpR X (compareOp .IsNot) (λx y H Q=>y = .non /\ Q (.bl (!decide (x = .non))) H):= by
  intro pins s σ H x y v u Q I rx ry h;obtain⟨rfl, q⟩:= h;cases ry;refine isnot_none_gen (vj1 I q ?_);cases x <;> first
    |(cases rx; rfl)
    |(obtain⟨t, rfl⟩:= rx; rfl)
theorem OpR.or{f:Value->Value->Sem Value}{r r':R2}(h:OpR X f r)(h':OpR X f r'):OpR X f (λx y H Q=>r x y H Q\/r' x y H Q):=by
 intro pins s σ H x y v u Q I rx ry q;rcases q with q|q
 ·exact h pins s σ H x y v u Q I rx ry q
 ·exact h' pins s σ H x y v u Q I rx ry q
theorem jZ(b:Expr){op:CmpOp}(h:autoParam (op≠.In) ŕ)(h2:autoParam (op≠.NotIn) ŕ):behindInMarks op b=false:=by
 have e1:(op==CmpOp.In)=false:=by cases op<;>first|rfl|exact absurd rfl h
 have e2:(op==CmpOp.NotIn)=false:=by cases op<;>first|rfl|exact absurd rfl h2
 cases b<;>simp[behindInMarks,e1,e2]
theorem vx5{op:CmpOp}{r:R2}(ho:OpR X (compareOp op) r)(ha:PE X a ta)(hb:PE X b tb)(hm:behindInMarks op b=false):PE X (.Compare a [op] [b] pos) (tOp r ta tb):=by
 intro pins s σ H Q I h;exact wpAny_Compare1 (wxi ha hb I h λv u s2 x y H2 I2 rx ry q=>ho pins s2 σ H2 x y v u Q I2 rx ry q) hm
abbrev wvv(t:TE):TT:=fun σ H Q=>t σ H λx H'=>∃k,x=.bl k/\Q k H'
theorem vws{op:CmpOp}{r:R2}(ho:OpR X (compareOp op) r)(ha:PE X a ta)(hb:PE X b tb)(hm:behindInMarks op b=false):PT X (.Compare a [op] [b] pos) (wvv (tOp r ta tb)):=by
 intro pins s σ H Q I h;refine wpAny_isTrue_Compare1 (thn (ha pins s σ H _ I h) λv s1 ⟨x,H1,I1,r1,q1⟩=>thn (hb pins s1 σ H1 _ I1 q1) λu s2 ⟨y,H2,I2,r2,q2⟩=>
  thn (ho pins s2 σ H2 x y v u _ I2 r1 r2 q2) λc s3 ⟨z,H3,I3,r3,k,e,q3⟩=>?_) hm
 subst e;cases r3;exact wpAny_truthy_bool ⟨H3,I3,q3⟩
noncomputable def wxm(K:PySem.W.Frag)(x:V)(H:Hp)(k:Bool):Prop:=
 match x with
 |.non=>k=false
 |.bl b=>k=b
 |.int i=>k=(i != 0)
 |.str y=>y.length<=sizeLine/\k=((y.length:Int) != 0)
 |.byt y=>y.size<=sizeLine/\k=((y.size:Int) != 0)
 |.ref p=>(∃xs,SqL K H p xs/\k=!xs.isEmpty)\/(∃xs,SqT K H p xs/\k=!xs.isEmpty)\/∃kvs,H p=some (.dK kvs)/\k=!kvs.isEmpty
 |_=>False
theorem qvm{κ:Type}{kvs:List (κ×V)}{vs:List (κ×Value)}(r:KV kvs vs):(!vs.isEmpty)=!kvs.isEmpty:=by
 cases r<;>rfl
theorem kvc{xs:List V}{aa:List Value}(r:Vals xs aa):(!aa.toArray.isEmpty)=!xs.isEmpty:=by
 cases r<;>simp
theorem YX:(sizeLine:Nat)<2 ^ 63:=by rw[sizeLine_eq];decide
theorem wj6:TruR X (λx H Q=>∃k,wxm X.K x H k/\Q k H):=by
 intro pins s σ H x v Q I rx h;obtain⟨k,e,q⟩:=h;have hl:=YX;have hs:sizeLine=16777216:=sizeLine_eq;cases x with
 | non=>
  cases rx;have e':k=false:=e;subst e';exact truthy_none ⟨H,I,q⟩
 | bl b=>
  cases rx;have e':k=b:=e;subst e';exact wpAny_truthy_bool ⟨H,I,q⟩
 | int i=>
  obtain⟨t,rfl⟩:=rx;have e':k=(i != 0):=e;subst e';exact PySem.P.truthy_int ⟨H,I,q⟩
 | str y=>
  obtain⟨t,rfl⟩:=rx;obtain⟨hy,e'⟩:y.length<=sizeLine/\k=((y.length:Int) != 0):=e;subst e';exact PySem.P.truthy_str (by omega) ⟨H,I.tok _,q⟩
 | byt y=>
  obtain⟨t,rfl⟩:=rx;obtain⟨hy,e'⟩:y.size<=sizeLine/\k=((y.size:Int) != 0):=e;subst e';exact PySem.W.truthy_bytes (by omega) ⟨H,I.tok _,q⟩
 | ref p=>
  cases rx;have e':(∃xs,SqL X.K H p xs/\k=!xs.isEmpty)\/(∃xs,SqT X.K H p xs/\k=!xs.isEmpty)\/∃kvs,H p=some (.dK kvs)/\k=!kvs.isEmpty:=e;rcases e' with⟨xs,hx,e'⟩|⟨xs,hx,e'⟩|⟨kvs,hx,e'⟩
  ·subst e';obtain⟨aa,r,pl,hz⟩:=I.list hx;have ae:=r.length;exact wpAny_truthy_list pl.isList (by simp only[X7];omega) ⟨H,I.tok _,by rw[kvc r];exact q⟩
  ·subst e';obtain⟨aa,r,pl,hz⟩:=I.tuple hx;have ae:=r.length;exact truthy_tuple pl (by simp only[X7];omega) ⟨H,I.tok _,by rw[kvc r];exact q⟩
  ·subst e';obtain⟨hz,hS,vs,r,m⟩:kvs.length<=sizeLine/\(p==sysModules)=false/\∃vs,KV kvs vs/\s.heap.DictOf (kwc X.prog X.w) p vs:=I.hok p _ hx;have ae:kvs.length=vs.length:=Paired.length r;exact wpAny_truthy_dict hS m (by omega) ⟨H,I.tok _,by rw[qvm r];exact q⟩
 |_=>exact(show False from e).elim
theorem vks(ha:PE X a ta)(he:∀fg,isTrue a X.env fg=(do let v <-fg;standAt a.pos;holding [v] (truthy v))):
  PT X a (fun σ H Q=>ta σ H λx H'=>∃k,wxm X.K x H' k/\Q k H'):=by
 intro pins s σ H Q I h;exact isTrue_plain (thn (ha pins s σ H _ I h) λv s1 ⟨x,H1,I1,r1,q1⟩=>wj6 pins s1 σ H1 x v Q I1 r1 q1) (he _)
theorem op_add_str:OpR X (binaryOp .Add) (λx y H Q=>∃i j,x=.str i/\y=.str j/\i.length+j.length<=sizeLine/\Q (.str (i++j)) H):=by
 intro pins s σ H x y v u Q I rx ry h;obtain⟨i,j,rfl,rfl,hz,q⟩:=h;obtain⟨t,rfl⟩:=rx;obtain⟨t',rfl⟩:=ry;exact add_str (λt' tk=>⟨.str (i++j),H,I.tok _,⟨_,rfl⟩,q⟩) hz
theorem Jx{x:V}{us:List Value}(r:Vals [x] us):∃u,us=[u]/\RelV x u:=by
 cases r with
 |cons r1 r2=>cases r2;exact⟨_,rfl,r1⟩
theorem qw7{x y:V}{us:List Value}(r:Vals [x,y] us):∃u w',us=[u,w']/\RelV x u/\RelV y w':=by
 cases r with
 |cons r1 r2=>
  cases r2 with
  |cons r3 r4=>cases r4;exact⟨_,_,rfl,r1,r3⟩
theorem vjj(hc:X.calm=true):CallR X (.builtin "max") (λxs H Q=>∃i j,xs=[.int i,.int j]/\Q (.int (if j>i then j else i)) H):=by
 intro pins s σ H xs us Q I r h;obtain⟨i,j,rfl,q⟩:=h;obtain⟨u,w',rfl,⟨t,rfl⟩,⟨t',rfl⟩⟩:=qw7 r;refine max_two_ints (I.ok.hd hc) λh' tk k=>⟨_,H,I.kept k,?_,q⟩
 by_cases hj:j>i
 ·rw[X9 hj,X9 hj];exact⟨_,rfl⟩
 ·rw[Xd hj,Xd hj];exact⟨_,rfl⟩
theorem vji(hc:X.calm=true):CallR X (.builtin "min") (λxs H Q=>∃i j,xs=[.int i,.int j]/\Q (.int (if j<i then j else i)) H):=by
 intro pins s σ H xs us Q I r h;obtain⟨i,j,rfl,q⟩:=h;obtain⟨u,w',rfl,⟨t,rfl⟩,⟨t',rfl⟩⟩:=qw7 r;refine min_two_ints (I.ok.hd hc) λh' tk k=>⟨_,H,I.kept k,?_,q⟩
 by_cases hj:j<i
 ·rw[X9 hj,X9 hj];exact⟨_,rfl⟩
 ·rw[Xd hj,Xd hj];exact⟨_,rfl⟩
theorem vjm:CallR X (.type "int") (λxs H Q=>(∃i,xs=[.int i]/\Q (.int i) H)\/∃k,xs=[.bl k]/\Q (.int (if k then 1 else 0)) H):=by
 intro pins s σ H xs us Q I r h;rcases h with⟨i,rfl,q⟩|⟨k,rfl,q⟩
 ·obtain⟨u,rfl,t,rfl⟩:=Jx r;exact call_int_int ⟨.int i,H,I,⟨_,rfl⟩,q⟩
 ·obtain⟨u,rfl,r1⟩:=Jx r;cases r1;exact call_int_bool ⟨.int (if k then 1 else 0),H,I.tok _,⟨_,rfl⟩,q⟩
end
structure ObjM (h:Heap)(x dx C:Addr)(mA:Str->Option Value):Prop where
 obj:h.get? x=some (PySem.W.instObj C dx)
 ns:h.Ns1 dx mA
 ne:dx≠x
theorem qxx{h:Heap}{dx:Addr}{mA:Str->Option Value}(n:h.Ns1 dx mA):∃od,h.get? dx=some od/\∀name,PySem.W.lookIn name od=some (mA name):=by
 obtain⟨o,es,ep,ho,hd,hk,_,hm⟩:=n;refine⟨o,ho,λname=>?_⟩;have e:=hm name;unfold nsFind findBy at e;rw[<-Array.find?_toList]at e;unfold PySem.W.lookIn;rw[hd];dsimp only
 split
 ·rename_i y q;rw[q]at e;exact congrArg some e
 ·rename_i q;rw[q]at e;have a:es.toList.any (·.refKey)=false:=by
   rw[List.any_eq_false];intro y hy;obtain⟨z,t,da⟩:=hk y (Array.mem_toList_iff.mp hy);simp[DictEntry.refKey,da]
  have a':¬es.toList.any (·.refKey)=true:=by rw[a];exact Bool.false_ne_true
  rw[Xd a'];exact congrArg some e
theorem ObjM.look{h:Heap}{x dx C:Addr}{mA:Str->Option Value}(I:ObjM h x dx C mA):∃od,PySem.W.InstAt h x (PySem.W.instObj C dx) C (some od)/\∀name,PySem.W.lookIn name od=some (mA name):=
 let ⟨od,ho,hl⟩:=qxx I.ns
 ⟨od,⟨I.obj,rfl,rfl,ho⟩,hl⟩
section
variable {P:Program}{w:World}{H H':Hp}{h h':Heap}{a C dx:Addr}{fs fs':List (Str×V)}
theorem vz0(hok:HOk P w H h)(e:H a=some (.ins C dx fs)):∃mA,ObjM h a dx C mA/\(∀f,wxn (fs.lookup f) (mA f))/\PySem.Within mA (fs.map (·.1))/\fs.length<=1000/\H dx=some (.own a):=by
 obtain⟨d,z,ne,ob,mA,n,r,q⟩:=(show ObjOk P w H h a (.ins C dx fs)from hok a _ e);exact⟨mA,⟨ob,n,ne⟩,r,q,z,d⟩
end
structure Cls (K:PySem.W.Frag)(C:Addr):Prop where
 pg:PySem.W.plainGet K C Str.empty=true
 hd:PySem.W.hasDictIn K C=true
 po:PySem.W.plainOver K C=true
 sa:PySem.W.findIn K (.ref C) "__setattr__"=some (some (.builtin "object.__setattr__"))
theorem Cls.get{K:PySem.W.Frag}{C:Addr}(c:Cls K C)(f:Str):PySem.W.plainGet K C f=true:=c.pg
section
variable {X:Cx}{pins:List (Addr×Obj)}{σ:St}{H:Hp}{s:Shared}{A:Around}{E:Value->Shared->Prop}{Q:Value->Shared->Prop}{c:Value}{b:Bool}
inductive TyOf (K:PySem.W.Frag)(H:Hp):V->Value->Prop where
 | non:TyOf K H .non (.type "NoneType")
 | bl (x:Bool):TyOf K H (.bl x) (.type "bool")
 | int (i:Int):TyOf K H (.int i) (.type "int")
 | str (x:Str):TyOf K H (.str x) (.type "str")
 | flt (x:UInt64):TyOf K H (.flt x) (.type "float")
 | lst {a:Addr} {xs:List V} (e:H a=some (.lst xs)):TyOf K H (.ref a) (.type "list")
 | frz {a:Addr} {o:Obj} {xs:List V} (e:H a=some (.frz o (.lst xs))):TyOf K H (.ref a) (.type "list")
 | tup {a:Addr} {xs:List V} (e:H a=some (.tup xs)):TyOf K H (.ref a) (.type "tuple")
 | dK {a:Addr} {kvs:List (Key×V)} (e:H a=some (.dK kvs)):TyOf K H (.ref a) (.type "dict")
 | dT {a:Addr} {kvs:List (List Key×V)} (e:H a=some (.dT kvs)):TyOf K H (.ref a) (.type "dict")
 | ins {a C dx:Addr} {fs:List (Str×V)} (e:H a=some (.ins C dx fs)) (cl:Cls K C) (ha:PySem.W.findIn K (.ref C) "__class__"=some (some (.builtin "object.__class__")))
   (hn:PySem.W.specialIn K (.builtin "object.__class__") "__get__"=some (some (.builtin "getset_descriptor.__get__"))) (htk:PySem.W.takesIn K (.builtin "object.__class__")=some true)
   (hm:PySem.W.mroIn K C (.type "object")=some true):TyOf K H (.ref a) (.ref C)
theorem qzf{x:V}{u t:Value}(I:Inv X pins σ H s)(rx:RelV x u)(ty:TyOf X.K H x t)(e:PySem.W.kitOne X.K t c=some b)(h:∀tk,Q (.bool b) { s with toks:=tk }):
  wpAny (model X.prog X.w) A (call (.builtin "isinstance") [u,c]) Q E s:=by
 cases ty with
 |non=>cases(show u=Value.none from rx);exact Y6 PySem.W.kitx_none I.kIn True.intro e (λz=>nomatch z) h
 |bl y=>cases(show u=Value.bool y from rx);exact Y6 PySem.W.kitx_bool I.kIn True.intro e (λz=>nomatch z) h
 |int i=>obtain⟨t,q⟩:=(show ∃t,u=Value.int i t from rx);cases q;exact Y6 PySem.W.kitx_int I.kIn True.intro e (λz=>nomatch z) h
 |str y=>obtain⟨t,q⟩:=(show ∃t,u=Value.str y t from rx);cases q;exact Y6 PySem.W.kitx_str I.kIn True.intro e (λz=>nomatch z) h
 |flt y=>obtain⟨t,q⟩:=(show ∃t,u=Value.float y t from rx);cases q;exact Y6 PySem.W.kitx_float I.kIn True.intro e (λz=>nomatch z) h
 |@lst a xs ea=>
  cases(show u=Value.ref a from rx);obtain⟨_,_,n,_,h1⟩:=(show ObjOk X.prog X.w H s.heap a (.lst xs)from I.hok a _ ea);exact Y6 PySem.W.kitx_list I.kIn ⟨_,h1,rfl⟩ e (λz=>nomatch z) h
 |@frz a ob xs ea=>
  cases(show u=Value.ref a from rx);obtain⟨_,_,_,n,_,h1⟩:=(show ObjOk X.prog X.w H s.heap a (.frz ob (.lst xs))from I.hok a _ ea);exact Y6 PySem.W.kitx_list I.kIn ⟨_,h1,rfl⟩ e (λz=>nomatch z) h
 |@tup a xs ea=>
  cases(show u=Value.ref a from rx);obtain⟨_,_,_,p⟩:=(show ObjOk X.prog X.w H s.heap a (.tup xs)from I.hok a _ ea);obtain⟨o,h1,h2,_⟩:=p;exact Y6 PySem.W.kitx_tuple I.kIn ⟨o,h1,h2⟩ e (λz=>nomatch z) h
 |@dK a kvs ea=>
  cases(show u=Value.ref a from rx);obtain⟨_,_,vs,_,p⟩:=(show ObjOk X.prog X.w H s.heap a (.dK kvs)from I.hok a _ ea);obtain⟨o,es,ep,h1,h2,_⟩:=p;exact Y6 PySem.W.kitx_dict I.kIn ⟨o,h1,h2.1⟩ e (λz=>nomatch z) h
 |@dT a kvs ea=>
  cases(show u=Value.ref a from rx);obtain⟨_,_,xs,_,o,es,ep,h1,h2,_⟩:=(show ObjOk X.prog X.w H s.heap a (.dT kvs)from I.hok a _ ea);exact Y6 PySem.W.kitx_dict I.kIn ⟨o,h1,h2.1⟩ e (λz=>nomatch z) h
 |@ins a C dx fs ea cl ha hn htk hm=>
  cases(show u=Value.ref a from rx);obtain⟨mA,O,_⟩:=vz0 I.hok ea;obtain⟨od,J,_⟩:=O.look;exact Y6 (PySem.W.kitx_own (cl.get _) cl.hd ha hn htk hm) I.kIn J e (λz=>nomatch z) h
end
structure Room (k:Nat)(A:Around):Prop where
 hd:A.handled=none
 dp:A.depth+3*k+5<recursionLimit
 un:A.units+16*k+200<cLine
 gd:A.guards=some []
theorem Room.mono{j k:Nat}{A:Around}(r:Room k A)(h:j<=k):Room j A:=⟨r.hd,by have:=r.dp;omega,by have:=r.un;omega,r.gd⟩
theorem Room.deeper{k:Nat}{A:Around}(r:Room (k+1) A)(env:Env):Room k (A.deeper env):=
 ⟨r.hd,by have:=r.dp;show A.depth+1+3*k+5<_;omega,by have:=r.un;show A.units+3+16*k+200<_;omega,r.gd⟩
theorem Room.depth{k:Nat}{A:Around}(r:Room k A):A.depth<recursionLimit:=by have:=r.dp;omega
theorem Room.units{k:Nat}{A:Around}(r:Room k A):A.units+64<cLine:=by have:=r.un;omega
abbrev wxp:TA:=λ_ H Q=>Q [] H
abbrev wj9(ta:TE)(tr:TA):TA:=fun σ H Q=>ta σ H λx H1=>tr σ H1 λxs H2=>Q (x::xs) H2
section
variable {X:Cx}{e:Expr}{es:List Expr}{te:TE}{t:TA}{pos:Pos}
theorem zw:PA X [] wxp:=λ_ _ _ _ H Q I h=>Calls.spliced_nil ⟨[],H,I,.nil,h⟩
theorem xQ(ha:PE X e te)(hr:PA X es t)(hs:autoParam (starEach (e::es) X.env=(false,eval e X.env)::starEach es X.env) Ŕ):PA X (e::es) (wj9 te t):=by
 intro pos pins s σ H Q I h;rw[hs];show wpAny _ _ (spliced ((false,eval e X.env)::backTo pos (starEach es X.env))) _ _ s;refine Calls.spliced_cons (thn (ha pins s σ H _ I h) λu s1 ⟨x,H1,I1,r1,q1⟩=>?_);exact thn (hr pos pins s1 σ H1 _ I1 q1) λus s2 ⟨xs,H2,I2,r2,q2⟩=>⟨x::xs,H2,I2,.cons r1 r2,q2⟩
abbrev tTup(t:TA):TE:=fun σ H Q=>t σ H λxs H1=>xs.length<=sizeLine/\∀p,H1 p=none->Q (.ref p) (upd H1 p (.tup xs))
abbrev tLst(t:TA):TE:=fun σ H Q=>t σ H λxs H1=>xs.length<=sizeLine/\∀p,H1 p=none->Q (.ref p) (upd H1 p (.lst xs))
theorem wki{x1}(h:PA X es t):PE X (.Tuple es x1 pos) (tTup t):=by
 intro pins s σ H Q I hq;refine wpAny_Tuple_spliced (thn (h pos pins s σ H _ I hq) λus s1 ⟨xs,H1,I1,r,z,q⟩=>⟨by rw[<-r.length];exact z,?_⟩);have hf:H1 s1.heap.objs.size=none:=I1.hok.fresh (X8 _);refine⟨.ref s1.heap.objs.size,upd H1 s1.heap.objs.size (.tup xs),I1.laid (t':=s1.toks) (λb u e=>X6 _ e) (X8 _) ?_,rfl,q _ hf⟩;exact⟨z,us,r,⟨_,Xj _ rfl,rfl,rfl,_,rfl⟩⟩
theorem wkm(h:PA X es t):PE X (.List es pos) (tLst t):=by
 intro pins s σ H Q I hq;refine wpAny_List_spliced (thn (h pos pins s σ H _ I hq) λus s1 ⟨xs,H1,I1,r,z,q⟩=>⟨by rw[<-r.length];exact z,?_⟩);have hf:H1 s1.heap.objs.size=none:=I1.hok.fresh (X8 _);refine⟨.ref s1.heap.objs.size,upd H1 s1.heap.objs.size (.lst xs),I1.laid (t':=s1.toks) (λb u e=>X6 _ e) (X8 _) ?_,rfl,q _ hf⟩;exact⟨z,us,0,r,Xj _ rfl⟩
end
abbrev Sp:=List V->Hp->VK->XK->Prop
abbrev CXT:=List Env->Hp->Shared->XK->Value->Shared->Prop
structure Env0 (P:Program)(w:World)(K:PySem.W.Frag)(mg:Str->Option Value)(base:Heap)(A:Around)(outer:List Env)(s:Shared)(H:Hp):Prop where
 frames:A.frames=some outer
 mod:Mod K mg base
 bs:∀b o,base.get? b=some o->s.heap.get? b=some o/\H b=none
 bsz:base.objs.size<=s.heap.objs.size
 funs:s.heap.FunFrames base outer
 frf:∀b∈frs outer,H b=none
 hok:HOk P w H s.heap
 bare:AllBare s.gens
noncomputable def CE(outer:List Env)(P:Program)(w:World)(H:Hp)(s:Shared)(Q:VK)(u:Value)(s':Shared):Prop:=
 ∃v H',s'.os=s.os/\AllBare s'.gens/\Un (frs outer) [] H H' s.heap s'.heap/\HOk P w H' s'.heap/\RelV v u/\Q v H'
noncomputable def CR(CX:CXT)(outer:List Env)(P:Program)(w:World)(H:Hp)(s:Shared)(Q:VK)(E:XK)(r:Result)(s':Shared):Prop:=
 match r with
 |.ok (.ret u)=>CE outer P w H s Q u s'
 |.ok _=>False
 |.error e=>CX outer H s E e s'
structure FnOk (P:Program)(w:World)(K:PySem.W.Frag)(mg:Str->Option Value)(base:Heap)(CX:CXT)(k:Nat)(f:Addr)(fd:FuncData)(ps:List Str)(sp:Sp):Prop where
 len:∀vs H Q E,sp vs H Q E->vs.length=ps.length
 run:∀(A:Around) (outer:List Env) (s:Shared) (H:Hp) (args:Args) (us:List Value) (vs:List V) (Q:VK) (E:XK),Room k A->Env0 P w K mg base A outer s H->BindsTo s fd args (ps.zip us)->Vals vs us->sp vs H Q E ->
  codeAny (model P w) A (.call (.ref f) args) (CR CX outer P w H s Q E) s
section
variable {X:Cx}{pins:List (Addr×Obj)}{σ:St}{H:Hp}{s s':Shared}
theorem Inv.env0(I:Inv X pins σ H s):Env0 X.prog X.w X.K X.mg X.base X.A X.stack s H:=
 ⟨I.ok.frames,I.ok.mod,I.bs,Y3 I.ok.bsz I.sz,I.stack,I.stkFree,I.hok,I.bare⟩
theorem Inv.after{Q:VK}{u:Value}(I:Inv X pins σ H s)(h:CE X.stack X.prog X.w H s Q u s'):EP X pins σ Q u s':=by
 obtain⟨v,H',os,bare,un,hok,r,q⟩:=h;obtain⟨hh,g,d,t,os'⟩:=s';obtain rfl:os'=s.os:=os;exact⟨v,H',I.call (h':=hh) (g':=g) (d':=d) (t':=t) (ch:=[]) un hok bare (λb z=>absurd z (by simp)),r,q⟩
end
abbrev wja(sp:Sp)(ny:List V)(E:XK)(t:TA):TE:=fun σ H Q=>t σ H λvs H1=>sp (vs++ny) H1 Q E
noncomputable def Binds(K:PySem.W.Frag)(fd:FuncData)(ps:List Str)(ds:List Value):Prop:=
 ∀(s:Shared) (us:List Value),K.In s.heap->(us++ds).length=ps.length->BindsTo s fd ⟨us,[]⟩ (ps.zip (us++ds))
theorem Binds.all{K:PySem.W.Frag}{fd:FuncData}{ps:List Str}(h:∀us:List Value,us.length=ps.length->bindArgs fd ⟨us,[]⟩=pure (ps.zip us)):Binds K fd ps []:=λs us _ hl=>by
 rw[Xv]at hl ⊢;exact .of_eq (h us hl)
noncomputable def vk0(CX:CXT)(X:Cx)(E:XK):Prop:=∀(pins:List (Addr×Obj)) (σ:St) (H:Hp) (s:Shared) (e:Value) (s':Shared),Inv X pins σ H s->CX X.stack H s E e s'->X.xe e s'
section
variable {X:Cx}{CX:CXT}{k:Nat}{f C:Addr}{fd:FuncData}{ps:List Str}{sp:Sp}{ny:List V}{ds:List Value}{E:XK}{x m:Str}{p pos apos:Pos}{e o:Expr}{es:List Expr}{ta:TE}{t:TA}
theorem wji{pins:List (Addr×Obj)}{σ:St}{H:Hp}{s:Shared}{Q:VK}{us:List Value}{vs:List V}(F:FnOk X.prog X.w X.K X.mg X.base CX k f fd ps sp)(hr:Room k X.A)(hb:Binds X.K fd ps ds)(hd:Vals ny ds)(hx:vk0 CX X E)
  (I:Inv X pins σ H s) (r:Vals vs us) (h:sp (vs++ny) H Q E):wpAny (model X.prog X.w) X.A (call (.ref f) us) (EP X pins σ Q) X.xe s:=by
 have r2:Vals (vs++ny) (us++ds):=r.append hd;have hl:(us++ds).length=ps.length:=by rw[<-r2.length];exact F.len _ _ _ _ h
 refine wpAny_call (codeAny_mono (F.run X.A X.stack s H ⟨us,[]⟩ (us++ds) (vs++ny) Q E hr I.env0 (hb s us I.kIn hl) r2 h) λr s' hq=>?_);cases r with
 |error e=>exact hx pins σ H s e s' I hq
 |ok fl=>
  cases fl with
  |ret u=>exact I.after hq
  |next=>exact False.elim hq
  |brk=>exact False.elim hq
  |cont=>exact False.elim hq
theorem vx6(F:FnOk X.prog X.w X.K X.mg X.base CX k f fd ps sp)(hr:Room k X.A)(hg:Gl X x)(hm:X.mg x=some (.ref f))(hk:PySem.W.keepIn X.K (.ref f)=true)(hb:Binds X.K fd ps ds)(hd:Vals ny ds)(hx:vk0 CX X E)
  (ha:PA X (e::es) t) (fy:autoParam ((x==("__debug__":Str))=false) ŕ) (he:autoParam (starEach (e::es) X.env=(false,eval e X.env)::starEach es X.env) Ŕ) (cg:autoParam ((backTo pos (starEach es X.env)).any (·.1)=false) Ŕ):
  PE X (.Call (.Name x p) (e::es) [] pos) (wja sp ny E t):=by
 intro pins s σ H Q I h;refine wpAny_Call_Name_kw (vxn I hg hm ?_ fy);refine PySem.W.callWith_K (h₀:=X.base) I.ok.mod.kin hk (thn (ha pos pins s σ H _ I h) λus s1 ⟨vs,H1,I1,r,q⟩=>⟨I1.kIn,?_⟩) he cg;exact wji F hr hb hd hx I1 r q
end
structure FnScope (N P:List Str)(sc:Scope):Prop where
 kind:sc.kind=.function
 co:sc.isCoroutine=false
 gen:sc.isGenerator=false
 nd:N.Nodup
 pre:N.take P.length=P
 par:∀x∈P,sc.names.lookup x=some .local\/sc.names.lookup x=some .cell
 nofree:∀y∈sc.names,y.2≠.free
theorem kzn{kindOf : Str -> Option NameKind}{x : Str}: ∀{binds : List (Str × Value)} {m : Str -> Option Value}, (∀v, (x, v)∉binds) -> bindL kindOf binds m x = m x
  | [], _, _=>rfl
  | (n, v)::r, m, h=>by
    unfold bindL;rw[kzn λw hw=>h w (lc9 _ hw)]
    split
    · have : x≠n:= by rintro rfl; exact h v X3
      simp[this]
    · rfl
theorem kzp{kindOf : Str -> Option NameKind}{x : Str}: ∀{binds : List (Str × Value)} {m : Str -> Option Value}, (∀v, (x, v)∉binds) -> bindC kindOf binds m x = m x
  | [], _, _=>rfl
  | (n, v)::r, m, h=>by
    unfold bindC;rw[kzp λw hw=>h w (lc9 _ hw)]
    split
    · rfl
    · have : x≠n:= by rintro rfl; exact h v X3
      simp[this]
theorem kzo{kindOf:Str->Option NameKind}{x:Str}{v:Value}:∀{P:List Str} {vs:List Value} {i:Nat} {m:Str->Option Value},P.Nodup->P[i]?=some x->vs[i]?=some v->kindOf x=some .local ->
  bindL kindOf (P.zip vs) m x=some v
 |[],_,_,_,_,h,_,_=>by simp at h
 |_::_,[],_,_,_,_,h,_=>by simp at h
 |p::P,w::vs,0,m,nd,h1,h2,hk=>by
  simp at h1 h2;subst h1;subst h2;show bindL kindOf ((p,w)::P.zip vs) m p=_;unfold bindL;rw[kzn λv hv=>(List.nodup_cons.mp nd).1 (List.of_mem_zip hv).1,X9 hk];simp
 |p::P,w::vs,i+1,m,nd,h1,h2,hk=>by
  show bindL kindOf ((p,w)::P.zip vs) m x=_;unfold bindL;exact kzo (i:=i) (List.nodup_cons.mp nd).2 (by simpa using h1) (by simpa using h2) hk
theorem kzq{kindOf:Str->Option NameKind}{x:Str}{v:Value}:∀{P:List Str} {vs:List Value} {i:Nat} {m:Str->Option Value},P.Nodup->P[i]?=some x->vs[i]?=some v->kindOf x≠some .local ->
  bindC kindOf (P.zip vs) m x=some v
 |[],_,_,_,_,h,_,_=>by simp at h
 |_::_,[],_,_,_,_,h,_=>by simp at h
 |p::P,w::vs,0,m,nd,h1,h2,hk=>by
  simp at h1 h2;subst h1;subst h2;show bindC kindOf ((p,w)::P.zip vs) m p=_;unfold bindC;rw[kzp λv hv=>(List.nodup_cons.mp nd).1 (List.of_mem_zip hv).1,Xd hk];simp
 |p::P,w::vs,i+1,m,nd,h1,h2,hk=>by
  show bindC kindOf ((p,w)::P.zip vs) m x=_;unfold bindC;exact kzq (i:=i) (List.nodup_cons.mp nd).2 (by simpa using h1) (by simpa using h2) hk
noncomputable def start(N:List Str)(vs:List V):St:=vs.map some++List.replicate (N.length - vs.length) none
noncomputable def JJ(CX:CXT)(P:Program)(w:World)(K:PySem.W.Frag)(mg:Str->Option Value)(base:Heap)(N:List Str)(qual:Str)(scope:Scope)(f:Addr)(cd:Value)(A:Around)(outer:List Env)(s:Shared)(H:Hp)(E:XK):Cx where
 prog:=P
 w:=w
 K:=K
 mg:=mg
 base:=base
 A:=A.deeper (envOfC qual scope s.heap.objs.size f cd)
 N:=N
 s₀:=s
 H₀:=H
 env:=envOfC qual scope s.heap.objs.size f cd
 outer:=outer
 stack:=envOfC qual scope s.heap.objs.size f cd::outer
 ex:=[]
 calm:=true
 fn:=λ_=>true
 pn:=[]
 xe:=λe s'=>wpAny (model P w) (A.deeper (envOfC qual scope s.heap.objs.size f cd)) (leaving (envOfC qual scope s.heap.objs.size f cd) e) (λ_ ml=>CX outer H s E e ml) (λe' ml=>CX outer H s E e' ml) s'
theorem qqe{sc:Scope}{n:Nat}{x:Str}(h:sc.names.lookup x=some .cell):∃c,(cellsFrom n sc.names []).lookup x=some c:=by
 have q:=PySem.W.cellsFrom_some sc.names n [] (.inl h);exact Option.isSome_iff_exists.mp q
theorem qzg{CX:CXT}{P:Program}{w:World}{K:PySem.W.Frag}{mg:Str->Option Value}{base:Heap}{N ps:List Str}{qual:Str}{scope:Scope}{f:Addr}{cd:Value}{A:Around}{outer:List Env}{s s1:Shared}{H:Hp}{E:XK}{us:List Value}{vs:List V}
  (S:FnScope N ps scope) (hd:A.handled=none) (e0:Env0 P w K mg base A outer s H) (hl:vs.length=ps.length) (r:Vals vs us)
  (x:InCallC s s.heap.objs.size (bindL (envOfC qual scope s.heap.objs.size f cd).kindOf (ps.zip us) λ_=>none) (cellsFrom (s.heap.objs.size+1) scope.names []) (bindC (envOfC qual scope s.heap.objs.size f cd).kindOf (ps.zip us) λ_=>none) s1):
  Inv (JJ CX P w K mg base N qual scope f cd A outer s H E) [] (start N vs) H s1:=by
 have cg:ps.length<=N.length:=by have:=congrArg List.length S.pre;rw[List.length_take]at this;omega
 obtain⟨h1,tk,rfl,hk⟩:=x.done;have sh:∀b:Addr,b∉(JJ CX P w K mg base N qual scope f cd A outer s H E).ex:=λb z=>absurd (show b∈([]:List Addr)from z) (by simp)
 refine⟨⟨e0.mod,S.kind,rfl,rfl,X8 _,λy z c h1 h2=>?_,λy hy=>?_,λy c _ h=>?_,λ_=>hd,Around.frames_deeper e0.frames,.inr ⟨rfl,rfl⟩,λb z=>absurd z (sh b),e0.bs,e0.bsz,λb _ _=>sh b,λb z=>absurd z (sh b),e0.funs,e0.frf⟩,
  rfl,e0.bare,Un.kept hk,⟨_,x.toInCall.ns,λi y v h1 h2 h3=>?_⟩,λy c h=>⟨_,x.cell y c h⟩,e0.hok.fresh (X8 _),λy c h=>?_,λp hp=>absurd (show p∈([]:List (Addr×Obj))from hp) (by simp),e0.hok.kept hk,?_⟩
 ·exact name_of_addr x.apart (Yk h1) (Yk h2)
 ·have hy:scope.names.lookup y=some .cell\/scope.names.lookup y=some .free:=hy;rcases hy with hy|hy
  ·exact qqe hy
  ·exact absurd rfl (S.nofree _ (Yk hy))
 ·exact Nat.le_of_lt (x.above y c (Yk h))
 ·have hi:i<vs.length:=by
   unfold start at h2
   by_cases hi:i<vs.length
   ·exact hi
   ·rw[Xy (by simpa using hi)]at h2;rw[List.getElem?_replicate]at h2
    split at h2<;>cases h2
  have ha:vs[i]?=some v:=by
   unfold start at h2;rw[Xu (by simpa using hi),Xg]at h2;cases e:vs[i]? with
   |none=>rw[e]at h2;cases h2
   |some a=>rw[e]at h2;cases h2;rfl
  obtain⟨u,hu,rv⟩:=r.get ha;have hp:ps[i]?=some y:=by
   rw[<-S.pre,List.getElem?_take_of_lt (by omega)];exact h1
  have ndP:ps.Nodup:=by rw[<-S.pre];exact S.nd.sublist (List.take_sublist _ _)
  refine⟨u,rv,?_⟩;rcases S.par y (Xm hp)with k|k
  ·exact .inl ⟨k,kzo ndP hp hu k⟩
  ·obtain⟨c,e⟩:=qqe (n:=s.heap.objs.size+1) k;refine .inr ⟨.inl k,c,e,?_⟩;have q:=x.cell y c e;rw[kzq ndP hp hu (by show scope.names.lookup y≠_;rw[k];decide)]at q;exact q
 ·exact e0.hok.fresh (Nat.le_of_lt (x.above y c (Yk h)))
 ·unfold start;show _=N.length;rw[Xi,X4,Yc];omega
theorem wx9{CX:CXT}{P:Program}{w:World}{K:PySem.W.Frag}{mg:Str->Option Value}{base:Heap}{k:Nat}{f:Addr}{name qual:Str}{params:Arguments}{body:List Stmt}{scope:Scope}{dV kV gi pm aq ct oc:Value}{an od:Option Addr}
  {o7:Array (Option Value)} {N ps:List Str} {sp:Sp} (lk:K.lookup f=some ⟨oc,od,.func (PySem.W.fnOf name qual params body scope dV kV gi pm an aq ct),o7⟩) (iw:PySem.W.codeIn K aq qual=true) (S:FnScope N ps scope)
  (len:∀vs H Q E,sp vs H Q E->vs.length=ps.length)
  (lj:∀(A:Around) (outer:List Env) (s:Shared) (H:Hp) (vs:List V) (Q:VK) (E:XK),Room k (A.deeper (envOfC qual scope s.heap.objs.size f aq))->sp vs H Q E ->
   ∃t,PSs (JJ CX P w K mg base N qual scope f aq A outer s H E) body t/\t { nx:=λ_ H'=>Q .non H',rt:=Q } (start N vs) H):
  FnOk P w K mg base CX (k+1) f (PySem.W.fnOf name qual params body scope dV kV gi pm an aq ct) ps sp:=by
 refine⟨len,λA outer s H args us vs Q E hr e0 hb r o5=>?_⟩;have hl:=len _ _ _ _ o5;have KX:K.In s.heap:=e0.mod.kin.keeps λb o e=>(e0.bs b o e).1
 have lim:s.heap.NoLimit:=e0.mod.nolimit.keeps λb o e=>(e0.bs b o e).1
 have u2:∀y∈ps.zip us,scope.names.lookup y.1=some .local\/(scope.names.lookup y.1=some .cell/\((cellsFrom (s.heap.objs.size+1) scope.names []).lookup y.1).isSome=true):=λ⟨n,v⟩ hy=>by
  rcases S.par n (List.of_mem_zip hy).1 with q|q
  ·exact .inl q
  ·exact .inr ⟨q,PySem.W.cellsFrom_some _ _ _ (.inl q)⟩
 refine codeAny_call_function hr.depth (KX _ _ lk) rfl S.co S.gen rfl (PySem.W.codeRec_of KX iw) (hb _ _ _ _ ?_);refine wpAny_newFunctionEnv_cells S.kind u2 λenv he s1 x=>?_
 subst he;refine⟨lim.keeps x.toInCall.keep,codeAny_func ?_⟩;obtain⟨t,ht,hq⟩:=lj A outer s H vs Q E (hr.deeper _) o5;have I:Inv (JJ CX P w K mg base N qual scope f aq A outer s H E) [] (start N vs) H s1:=qzg S hr.hd e0 hl r x;refine wpAny_mono (ht [] s1 (start N vs) H _ I hq) (λfl s' hs=>?_) λe s' hs=>hs
 have fin:∀{σ':St} {H':Hp} {v:V} {u:Value},Inv (JJ CX P w K mg base N qual scope f aq A outer s H E) [] σ' H' s'->RelV v u->Q v H'->CE outer P w H s Q u s':=
  fun {σ' H' v u} J rv q=>⟨v,H',J.os,J.bare,J.base,J.hok,rv,q⟩
 cases fl with
 |ret u=>
  obtain⟨v,σ',H',J,rv,q⟩:=hs;exact fin J rv q
 |next=>
  obtain⟨σ',H',J,q⟩:=hs;exact fin (v:=V.non) (u:=Value.none) J rfl q
 |brk=>
  obtain⟨_,_,_,q⟩:=hs;exact False.elim q
 |cont=>
  obtain⟨_,_,_,q⟩:=hs;exact False.elim q
section
variable {X:Cx}{x:Str}{p pos:Pos}{e:Expr}{es:List Expr}{t:TA}{id T:String}{r:List V->Hp->VK->Prop}
abbrev tCB(r:List V->Hp->VK->Prop)(t:TA):TE:=fun σ H Q=>t σ H λvs H1=>r vs H1 Q
theorem kw2(hc:CallR X (.builtin id) r)(hg:Gl X x)(hm:X.mg x=none)(hv:bootBuiltins x=some (.builtin id))(ha:PA X (e::es) t)(hn:autoParam (x≠"__name__") ŕ)(fy:autoParam ((x==("__debug__":Str))=false) ŕ)
  (he:autoParam (starEach (e::es) X.env=(false,eval e X.env)::starEach es X.env) Ŕ) (cg:autoParam ((backTo pos (starEach es X.env)).any (·.1)=false) Ŕ):PE X (.Call (.Name x p) (e::es) [] pos) (tCB r t):=by
 intro pins s σ H Q I h;refine wpAny_Call_Name_kw (Vv I hg hm hv ?_ hn fy);exact PyProof.Rows.callWith_builtin1 (thn (ha pos pins s σ H _ I h) λus s1 ⟨vs,H1,I1,r1,q1⟩=>hc pins s1 σ H1 vs us Q I1 r1 q1) he cg
theorem qxa(hc:CallR X (.type T) r)(hg:Gl X x)(hm:X.mg x=none)(hv:bootBuiltins x=some (.type T))(ha:PA X (e::es) t)(hn:autoParam (x≠"__name__") ŕ)(fy:autoParam ((x==("__debug__":Str))=false) ŕ)
  (he:autoParam (starEach (e::es) X.env=(false,eval e X.env)::starEach es X.env) Ŕ) (cg:autoParam ((backTo pos (starEach es X.env)).any (·.1)=false) Ŕ):PE X (.Call (.Name x p) (e::es) [] pos) (tCB r t):=by
 intro pins s σ H Q I h;refine wpAny_Call_Name_kw (Vv I hg hm hv ?_ hn fy);exact Y8 (thn (ha pos pins s σ H _ I h) λus s1 ⟨vs,H1,I1,r1,q1⟩=>hc pins s1 σ H1 vs us Q I1 r1 q1) he cg
end
end L2
namespace HT
open PySem PyProof.Rows
section
variable {prog:Program}{w:World}{A:Around}{E:Value->Shared->Prop}{s:Shared}
theorem cat_tup{t b:Addr}{vs ws:List Value}{Q:Value->Shared->Prop}(ht:IsTup s.heap t vs.toArray)(hb:IsTup s.heap b ws.toArray)(hv:vs≠[])
  (h1:ws=[]->Q (.ref t) s) (h2:ws≠[]->Q (.ref s.heap.objs.size) { s with heap:=s.heap.push { cls:=.type "tuple",data:=.seq (vs++ws).toArray } })
  (hsz:vs.length+ws.length<=sizeLine):wpAny (model prog w) A (binaryOp .Add (.ref t) (.ref b)) Q E s:=by
 obtain⟨⟨cls,dd,data,sl⟩,ho,hc,n,hd⟩:=id ht;obtain⟨⟨cls2,dd2,data2,nq⟩,ho2,hc2,n2,pi⟩:=id hb;simp only at hc hd hc2 pi;subst hc hd hc2 pi;have e:vs.toArray++ws.toArray=(vs++ws).toArray:=by simp
 by_cases hw:ws=[]
 ·exact concat_meets ⟨_,ho,rfl⟩ ⟨_,ho2,rfl⟩ noFill_tuple_add seq_tuple_add PySem.F.slot_tuple_add PySem.F.entry_tuple_add (PySem.F.args_tuple_add_2 _ _)
   (tuple_addW1 t b vs.toArray ws.toArray n n2 dd dd2 sl nq (by simpa using hv) (by simp[hw])) ⟨ho,ho2,h1 hw⟩
 ·refine concat_meets ⟨_,ho,rfl⟩ ⟨_,ho2,rfl⟩ noFill_tuple_add seq_tuple_add PySem.F.slot_tuple_add PySem.F.entry_tuple_add (PySem.F.args_tuple_add_2 _ _)
   (tuple_addW2 t b vs.toArray ws.toArray n n2 dd dd2 sl nq (by simpa using hv) (by simpa using hw) (by rw[X7,X7];exact hsz)) ⟨ho,ho2,?_⟩
  rw[e];exact h2 hw
noncomputable def sIx(n d:Nat):Option Int->Nat
 |none=>d
 |some v=>if v<0 then(v+(n:Int)).toNat else min v.toNat n
theorem wjg(n d:Nat)(hd:d<=n)(o:Option Int):sIx n d o<=n:=by
 cases o with
 |none=>exact hd
 |some v=>
  show(if v<0 then(v+(n:Int)).toNat else min v.toNat n)<=n
  by_cases hv:v<0
  ·rw[X9 hv];omega
  ·rw[Xd hv];exact Nat.min_le_right _ _
theorem vjf(v:Int)(n d:Nat):(if v<0 then max (v+(n:Int)) 0 else min v (n:Int))=((sIx n d (some v):Nat):Int):=by
 show(if v<0 then max (v+(n:Int)) 0 else min v (n:Int))=(((if v<0 then(v+(n:Int)).toNat else min v.toNat n):Nat):Int)
 by_cases hv:v<0
 ·simp only[X9 hv];omega
 ·simp only[Xd hv];omega
theorem qvv(lo hi:Option Int)(n:Nat):Builtin.Slice.sliceAdjust lo hi 1 (n:Int)=(((sIx n 0 lo:Nat):Int),((sIx n n hi:Nat):Int)):=by
 have h1:¬((1:Int)<0):=by omega
 unfold Builtin.Slice.sliceAdjust;simp only[h1,if_false];refine Prod.ext ?_ ?_
 ·cases lo with
  |none=>rfl
  |some v=>exact vjf v n 0
 ·cases hi with
  |none=>rfl
  |some v=>exact vjf v n n
theorem qv5(i j:Nat):Builtin.Slice.slicePlaces (i:Int) (j:Int) 1=j - i:=by
 unfold Builtin.Slice.slicePlaces;have h1:(1:Int)>0:=by omega
 simp only[h1,if_true,Int.ediv_one]
 split<;>omega
theorem kv4{v:Value}{o:Option Int}{Q:Option Int->Shared->Prop}(p:IsPart v o)(h:Q o s):wpAny (model prog w) A (Builtin.Slice.slicePartIndex v) Q E s:=by
 cases p with
 |none=>exact slicePart_none h
 |int i t=>exact slicePart_int h
theorem kjn{sl:Addr}{vl vu:Value}{lo hi:Option Int}{n:Nat}{Q:Int×Int×Nat->Shared->Prop}(hs:s.heap.IsSliceOf sl vl vu .none)(pl:IsPart vl lo)(pu:IsPart vu hi)
  (h:Q (((sIx n 0 lo:Nat):Int),1,sIx n n hi - sIx n 0 lo) s):wpAny (model prog w) A (Builtin.Slice.sliceApplied (.ref sl) (pure (n:Int))) Q E s:=by
 obtain⟨os,tz,oj,cy⟩:=id hs;unfold Builtin.Slice.sliceApplied Builtin.Slice.sliceFields;refine X0 (X0 (Yl tz cy (x:=vl) rfl (X0 (Yl tz cy (x:=vu) rfl (X0 (Yl tz cy (x:=.none) rfl (X5 ?_)))))));refine X0 (slicePart_none ?_);show wpAny _ _ (if((1:Int)==0)=true then _ else _) _ _ s;rw[Xd (by decide)];refine X0 (kv4 pl (X0 (kv4 pu (X0 (X5 ?_)))));show wpAny _ _ (match Builtin.Slice.sliceAdjust lo hi 1 (n:Int)with|(lo,hi)=>pure (lo,(1:Int),Builtin.Slice.slicePlaces lo hi 1)) _ _ s;rw[qvv lo hi n];show wpAny _ _ (pure (((sIx n 0 lo:Nat):Int),(1:Int),Builtin.Slice.slicePlaces ((sIx n 0 lo:Nat):Int) ((sIx n n hi:Nat):Int) 1)) _ _ s;rw[qv5];exact X5 h
theorem vkx(xs:Array Value)(i k:Nat):((List.range k).filterMap λ(m:Nat)=>xs[((i:Int)+(m:Int)*1).toNat]?).toArray=((xs.toList.drop i).take k).toArray:=by
 have e:(λ(m:Nat)=>xs[((i:Int)+(m:Int)*1).toNat]?)=λm=>xs[i+m]?:=by
  funext m;have:((i:Int)+(m:Int)*1).toNat=i+m:=by omega
  rw[this]
 rw[e];have:=pick_run xs i k;rw[List.filterMap_map]at this;have e2:((λx=>xs[x]?)∘λx=>i+x)=λm=>xs[i+m]?:=rfl
 rw[e2]at this;rw[this]
theorem getItem_tuple_cut{t sl:Addr}{items:Array Value}{vl vu:Value}{lo hi:Option Int}{Q:Value->Shared->Prop}(ht:IsTup s.heap t items)(hs:s.heap.IsSliceOf sl vl vu .none)(pl:IsPart vl lo)(pu:IsPart vu hi)
  (hw:¬(sIx items.size 0 lo=0/\sIx items.size items.size hi=items.size))
  (h:Q (.ref s.heap.objs.size) { s with heap:=s.heap.push { cls:=.type "tuple",data:=.seq ((items.toList.drop (sIx items.size 0 lo)).take (sIx items.size items.size hi - sIx items.size 0 lo)).toArray } })
  (hsz:items.size<=sizeLine):wpAny (model prog w) A (getItem (.ref t) (.ref sl)) Q E s:=by
 have ji:sizeOk (.seq ((items.toList.drop (sIx items.size 0 lo)).take (sIx items.size items.size hi - sIx items.size 0 lo)).toArray):=by
  show((items.toList.drop (sIx items.size 0 lo)).take (sIx items.size items.size hi - sIx items.size 0 lo)).toArray.size<=sizeLine;rw[X7,List.length_take,List.length_drop,Yb];omega
 have hj:sIx items.size items.size hi<=items.size:=wjg _ _ (X8 _) hi;obtain⟨os,tz,oj,cy⟩:=id hs;have hTs:s.TypeIs (.ref sl) "slice":=⟨os,tz,oj⟩;unfold getItem
 try with_reducible refine Yr ?_
 first|refine X0 (X5 ?_)|skip
 refine X0 (wpAny_sequenceKey ht.typeIs (by decide) ?_);refine X0 (Yf (name:=Str.ofString "__getitem__") ht.typeIs PyProof.Rows.slot_tuple_getitem
  (Y7 PyProof.Rows.slot_tuple_getitem ht.typeIs entry_tuple_getitem ?_ (args_tuple_getitem _ _)))
 show wpAny _ _ (Builtin.Tuple.tupleItemsOf (.ref t) >>= _) _ _ s;refine X0 (tupleItemsOf_ ht ?_);refine X0 (wpAny_typeOf hTs ?_);rw[X9 (by decide)];refine X0 (kjn hs pl pu ?_);have li:¬((((sIx items.size 0 lo:Nat):Int)==0&&(1:Int)==1&&(sIx items.size items.size hi - sIx items.size 0 lo)==items.size)=true):=by
  intro q;rw[Bool.and_eq_true,Bool.and_eq_true]at q;have q1:((sIx items.size 0 lo:Nat):Int)=0:=eq_of_beq q.1.1;have q2:sIx items.size items.size hi - sIx items.size 0 lo=items.size:=eq_of_beq q.2;exact hw ⟨by omega,by omega⟩
 show wpAny _ _ (if(((sIx items.size 0 lo:Nat):Int)==0&&(1:Int)==1&&(sIx items.size items.size hi - sIx items.size 0 lo)==items.size)=true then _ else _) _ _ s;rw[Xd li,vkx]
 first
  |exact X0 (m:=Builtin.Tuple.tupleExact _) (Y0 (X5 ⟨_,rfl,X5 h⟩) ji)
  |exact X0 (m:=Builtin.Tuple.tupleExact _) (Y0 (X0 (X5 (X5 ⟨_,rfl,X5 h⟩))) ji)
  |exact X0 (X0 (m:=Builtin.Tuple.tupleExact _) (Y0 (X5 (X5 ⟨_,rfl,X5 h⟩)) ji))
  |exact X0 (X0 (m:=Builtin.Tuple.tupleExact _) (Y0 (X5 ⟨_,rfl,X5 h⟩) ji))
end
end HT
namespace L2
open PySem PySem.Spec PyProof.Rows
abbrev TO:=St->Hp->(Option Int->Hp->Prop)->Prop
noncomputable def PO(X:Cx)(e:Option Expr)(t:TO):Prop:=
 ∀(pins:List (Addr×Obj)) (s:Shared) (σ:St) (H:Hp) (Q:Option Int->Hp->Prop),Inv X pins σ H s->t σ H Q ->
  wpAny (model X.prog X.w) X.A (evalPart e X.env) (λu s'=>∃o H',Inv X pins σ H' s'/\IsPart u o/\Q o H') X.xe s
abbrev qwb:TO:=λ_ H Q=>Q none H
abbrev wj8(t:TE):TO:=fun σ H Q=>t σ H λx H1=>∃i,x=.int i/\Q (some i) H1
theorem qvn{ns:List Int}:∀{us:List Value},Vals (ns.map V.int) us->IntsAre us ns:=by
 induction ns with
 | nil=>intro us r;rw[List.map_nil]at r;cases r;exact .nil
 | cons n ns ih=>
  intro us r;rw[List.map_cons]at r;cases r with
  |cons r1 r2=>
   obtain⟨t,e⟩:=r1;subst e;exact .cons n t (ih r2)
section
variable {X:Cx}{e:Expr}{te:TE}{lo hi:Option Expr}{tl th:TO}{pos p2:Pos}
theorem vwz:PO X none qwb:=by
 intro pins s σ H Q I h;rw[evalPart_none];exact X5 ⟨none,H,I,.none,h⟩
theorem vwx(h:PE X e te):PO X (some e) (wj8 te):=by
 intro pins s σ H Q I hw;rw[evalPart_some];refine thn (h pins s σ H _ I hw) λu s1 ⟨x,H1,I1,r1,q1⟩=>?_
 obtain⟨i,rfl,q⟩:=q1;obtain⟨t,rfl⟩:=r1;exact⟨some i,H1,I1,.int i t,q⟩
noncomputable def SlR(X:Cx)(r:V->Option Int->Option Int->Hp->VK->Prop):Prop:=
 ∀(pins:List (Addr×Obj)) (s:Shared) (σ:St) (H:Hp) (x:V) (v vl vu:Value) (lo hi:Option Int) (sl:Addr) (Q:VK),Inv X pins σ H s->RelV x v->s.heap.IsSliceOf sl vl vu .none->IsPart vl lo->IsPart vu hi->r x lo hi H Q ->
  ∃T id,typeLookup (.type T) "__getitem__"=pure (some (.builtin id))/\s.TypeIs v T/\wpAny (model X.prog X.w) X.A (getItem v (.ref sl)) (EP X pins σ Q) X.xe s
theorem SlR.or{r r':V->Option Int->Option Int->Hp->VK->Prop}(h:SlR X r)(h':SlR X r'):SlR X (λx lo hi H Q=>r x lo hi H Q\/r' x lo hi H Q):=by
 intro pins s σ H x v vl vu lo hi sl Q I rx hs pl pu q;rcases q with q|q
 ·exact h pins s σ H x v vl vu lo hi sl Q I rx hs pl pu q
 ·exact h' pins s σ H x v vl vu lo hi sl Q I rx hs pl pu q
abbrev tSl(r:V->Option Int->Option Int->Hp->VK->Prop)(te:TE)(tl th:TO):TE:=fun σ H Q=>te σ H λx H1=>tl σ H1 λl H2=>th σ H2 λu H3=>r x l u H3 Q
theorem vq0{r:V->Option Int->Option Int->Hp->VK->Prop}(hr:SlR X r)(he:PE X e te)(hl:PO X lo tl)(hu:PO X hi th):PE X (.Subscript e (.Slice lo hi none p2) pos) (tSl r te tl th):=by
 intro pins s σ H Q I h;refine Subscript_ (thn (he pins s σ H _ I h) λv s1 ⟨x,H1,I1,r1,q1⟩=>?_);refine wpAny_Slice (thn (hl pins s1 σ H1 _ I1 q1) λvl s2 ⟨l,H2,I2,pl,q2⟩=>thn (hu pins s2 σ H2 _ I2 q2) λvu s3 ⟨u,H3,I3,pu,q3⟩=>?_);rw[evalPart_none];refine X5 ?_;have I4:Inv X pins σ H3 { s3 with heap:=s3.heap.push { cls:=.type "slice",data:=.fields #[vl,vu,.none] } }:=I3.kept (t':=s3.toks) λb ob q=>X6 _ q
 obtain⟨T,id,hT,ht,hg⟩:=hr pins { s3 with heap:=s3.heap.push { cls:=.type "slice",data:=.fields #[vl,vu,.none] } } σ H3 x v vl vu l u s3.heap.objs.size Q I4 r1 (Heap.IsSliceOf.new ..) pl pu q3;show wpAny (model X.prog X.w) X.A (subscriptTail e (.Slice lo hi none p2) v (.ref s3.heap.objs.size)) (EP X pins σ Q) X.xe { s3 with heap:=s3.heap.push { cls:=.type "slice",data:=.fields #[vl,vu,.none] } };exact tail_any (ops:=[.ref s3.heap.objs.size,v]) ht hT hg (by with_unfolding_all rfl)
noncomputable def W2(xs:List V)(lo hi:Option Int):List V:=(xs.drop (HT.sIx xs.length 0 lo)).take (HT.sIx xs.length xs.length hi - HT.sIx xs.length 0 lo)
theorem kq7(xs:List V)(lo hi:Option Int):(W2 xs lo hi).length<=xs.length:=by
 unfold W2;rw[List.length_take,List.length_drop];omega
noncomputable def wxs(K:PySem.W.Frag):V->Option Int->Option Int->Hp->VK->Prop:=λx lo hi H Q=>∃a xs,x=.ref a/\SqT K H a xs /\
 ¬(HT.sIx xs.length 0 lo=0/\HT.sIx xs.length xs.length hi=xs.length)/\∀p,H p=none->Q (.ref p) (upd H p (.tup (W2 xs lo hi)))
theorem sl_tup:SlR X (wxs X.K):=by
 intro pins s σ H x v vl vu lo hi sl Q I rx hs pl pu h;obtain⟨a,xs,rfl,hx,hw,q⟩:=h;cases rx;obtain⟨aa,r,ht,hz⟩:=I.tuple hx;have ae:aa.toArray.size=xs.length:=by rw[X7];exact r.length.symm
 refine⟨"tuple",_,PyProof.Rows.slot_tuple_getitem.lookup,ht.typeIs,?_⟩;refine HT.getItem_tuple_cut ht hs pl pu (by rw[ae];exact hw) ?_ (by rw[ae];exact hz);rw[ae];refine⟨.ref s.heap.objs.size,_,I.laid (t':=s.toks) (o:=.tup (W2 xs lo hi)) (λb ob q=>X6 _ q) (X8 _) ?_,rfl,q _ (I.hok.fresh (X8 _))⟩;exact⟨Y3 (kq7 xs lo hi) hz,_,(r.drop (HT.sIx xs.length 0 lo)).take (HT.sIx xs.length xs.length hi - HT.sIx xs.length 0 lo),IsTupD.new _ _⟩
noncomputable def wju(K:PySem.W.Frag):R2:=λx y H Q=>∃a b xs ys,x=.ref a/\y=.ref b/\SqT K H a xs/\SqT K H b ys/\xs≠[]/\xs.length+ys.length<=sizeLine /\
 (ys=[]->Q (.ref a) H)/\(ys≠[]->∀p,H p=none->Q (.ref p) (upd H p (.tup (xs++ys))))
theorem Vals.nil_iff{xs:List V}{us:List Value}(r:Vals xs us):us=[]↔xs=[]:=by
 cases r with
 |nil=>simp
 |cons _ _=>simp
theorem vxd:OpR X (binaryOp .Add) (wju X.K):=by
 intro pins s σ H x y v u Q I rx ry h;obtain⟨a,b,xs,ys,rfl,rfl,ha,hb,hx,hz,q1,q2⟩:=h;cases rx;cases ry;obtain⟨aa,r1,p1,_⟩:=I.tuple ha;obtain⟨gf,r2,p2,_⟩:=I.tuple hb;refine HT.cat_tup p1 p2 (λz=>hx (r1.nil_iff.mp z)) (λz=>⟨.ref a,H,I,rfl,q1 (r2.nil_iff.mp z)⟩) (λz=>?_) (by rw[<-r1.length,<-r2.length];exact hz);refine⟨.ref s.heap.objs.size,_,I.laid (t':=s.toks) (o:=.tup (xs++ys)) (λb ob q=>X6 _ q) (X8 _) ?_,rfl,q2 (λw=>z (r2.nil_iff.mpr w)) _ (I.hok.fresh (X8 _))⟩;exact⟨by rw[Xi];exact hz,_,r1.append r2,IsTupD.new _ _⟩
end
noncomputable def ixN(n:Nat)(i:Int):Option Nat:=if 0<=i then(if i<n then some i.toNat else none)else if -(n:Int)<=i then some (i+n).toNat else none
noncomputable def atI{α:Type}(xs:List α)(i:Int):Option α:=(ixN xs.length i).bind λj=>xs[j]?
theorem vxw{n:Nat}{i:Int}{j:Nat}(h:ixN n i=some j):seqIndex? i n=some j/\j<n/\-(n:Int)<=i/\i<n:=by
 unfold ixN at h
 by_cases h0:0<=i
 ·rw[X9 h0]at h
  by_cases h1:i<n
  ·rw[X9 h1]at h;have e:i.toNat=j:=oq9 h;exact⟨by rw[seqIndex_of h0 h1,e],by omega,by omega,h1⟩
  ·rw[Xd h1]at h;cases h
 ·rw[Xd h0]at h
  by_cases h1:-(n:Int)<=i
  ·rw[X9 h1]at h;have e:(i+n).toNat=j:=oq9 h;exact⟨by rw[seqIndex_neg (by omega) h1,e],by omega,h1,by omega⟩
  ·rw[Xd h1]at h;cases h
theorem qk5{α:Type}{xs:List α}{i:Int}{v:α}(h:atI xs i=some v):∃j,seqIndex? i xs.length=some j/\xs[j]?=some v/\j<xs.length/\-(xs.length:Int)<=i/\i<xs.length:=by
 unfold atI at h;cases e:ixN xs.length i with
 |none=>rw[e]at h;cases h
 |some j=>
  rw[e]at h;obtain⟨h1,h2,h3,h4⟩:=vxw e;exact⟨j,h1,h,h2,h3,h4⟩
noncomputable def qk6(b:Expr):Prop:=∀o i,subscripted b false o i=operate [o,i] (getItem o i)
noncomputable def IxR(X:Cx)(r:R2):Prop:=
 ∀(value slice:Expr) (pins:List (Addr×Obj)) (s:Shared) (σ:St) (H:Hp) (x y:V) (v u:Value) (Q:VK),Inv X pins σ H s->RelV x v->RelV y u->r x y H Q ->
  subscripted slice false v u=operate [v,u] (getItem v u)->wpAny (model X.prog X.w) X.A (subscriptTail value slice v u) (EP X pins σ Q) X.xe s
noncomputable def MtR(X:Cx)(id:String)(r:V->List V->Hp->VK->Prop):Prop:=
 ∀(pins:List (Addr×Obj)) (s:Shared) (σ:St) (H:Hp) (x:V) (xs:List V) (v:Value) (us:List Value) (Q:VK),Inv X pins σ H s->RelV x v->Vals xs us->r x xs H Q ->
  wpAny (model X.prog X.w) X.A (call (.builtin id) (v::us)) (EP X pins σ Q) X.xe s
section
variable {X:Cx}{a b:Expr}{ta tb:TE}{pos:Pos}
theorem IxR.or{r r':R2}(h:IxR X r)(h':IxR X r'):IxR X (λx y H Q=>r x y H Q\/r' x y H Q):=by
 intro value slice pins s σ H x y v u Q I rx ry q hs;rcases q with q|q
 ·exact h value slice pins s σ H x y v u Q I rx ry q hs
 ·exact h' value slice pins s σ H x y v u Q I rx ry q hs
theorem wwn{r:R2}(hr:IxR X r)(ha:PE X a ta)(hb:PE X b tb)(hs:qk6 b):PE X (.Subscript a b pos) (tOp r ta tb):=by
 intro pins s σ H Q I h;exact Subscript_ (wxi ha hb I h λv u s2 x y H2 I2 rx ry q=>hr a b pins s2 σ H2 x y v u Q I2 rx ry q (hs _ _))
noncomputable def wxy(K:PySem.W.Frag):R2:=λx y H Q=>∃p xs i v,x=.ref p/\y=.int i/\SqL K H p xs/\atI xs i=some v/\Q v H
noncomputable def wxw(K:PySem.W.Frag):R2:=λx y H Q=>∃p xs i v,x=.ref p/\y=.int i/\SqT K H p xs/\atI xs i=some v/\Q v H
noncomputable def wxx:R2:=λx y H Q=>∃z i c,x=.str z/\y=.int i/\z.length<=sizeLine/\atI z.cps.toList i=some c/\Q (.str ⟨#[c]⟩) H
theorem ix_list:IxR X (wxy X.K):=by
 intro value slice pins s σ H x y v u Q I rx ry h hs;obtain⟨p,xs,i,z,rfl,rfl,hq,he,q⟩:=h;cases rx;obtain⟨t,rfl⟩:=ry;obtain⟨aa,r,pl,hz⟩:=I.list hq;obtain⟨j,h1,h2,h3,h4,h5⟩:=qk5 he;obtain⟨w,ew,sj⟩:=r.get h2;have hl:=r.length;have hn:=YX;have fin:EP X pins σ Q w s:=⟨z,H,I,sj,q⟩
 by_cases h0:0<=i
 ·have hj:i.toNat=j:=by
   rw[seqIndex_of h0 h5]at h1;exact oq9 h1
  exact item_listR pl.isList h0 (by omega) (by rw[hj];simpa using ew) fin hs
 ·have hj:(i+(aa.toArray.size:Int)).toNat=j:=by
   rw[seqIndex_neg (by omega) h4]at h1;rw[X7,<-hl];exact oq9 h1
  exact subscriptTail_builtinR (x:=w) pl.isList.typeIs slot_list_getitem.lookup
   (wpAny_getItem_list_neg (Q:=λr s'=>r=w/\EP X pins σ Q r s') pl.isList (by omega) (by rw[X7]<;>omega) (by omega) (by rw[hj];simpa using ew) ⟨rfl,fin⟩) hs
theorem ix_tup:IxR X (wxw X.K):=by
 intro value slice pins s σ H x y v u Q I rx ry h hs;obtain⟨p,xs,i,z,rfl,rfl,hq,he,q⟩:=h;cases rx;obtain⟨t,rfl⟩:=ry;obtain⟨aa,r,pl,hz⟩:=I.tuple hq;obtain⟨j,h1,h2,h3,h4,h5⟩:=qk5 he;obtain⟨w,ew,sj⟩:=r.get h2;have hl:=r.length;have hn:=YX;have fin:EP X pins σ Q w s:=⟨z,H,I,sj,q⟩;exact subscriptTail_builtinR (x:=w) pl.typeIs slot_tuple_getitem.lookup
  (getItem_tuple (j:=j) (Q:=λr s'=>r=w/\EP X pins σ Q r s') pl (by omega) (by omega) (by rw[X7,<-hl];exact h1) (by simpa using ew) ⟨rfl,fin⟩) hs
theorem wql:IxR X wxx:=by
 intro value slice pins s σ H x y v u Q I rx ry h hs;obtain⟨z,i,c,rfl,rfl,hz,he,q⟩:=h;obtain⟨t,rfl⟩:=rx;obtain⟨t',rfl⟩:=ry;obtain⟨j,h1,h2,h3,h4,h5⟩:=qk5 he;have hl:z.cps.toList.length=z.length:=by simp[Str.length]
 rw[hl]at h1 h4 h5;have hn:=YX;exact tail_any (typeIs_str s z t) slot_str_getitem.lookup (getItem_str (c:=c) (by
  have e1:decide (i < -(2 ^ 63:Int))=false:=Xa (by omega);have e2:decide (i>=2 ^ 63)=false:=Xa (by omega);rw[e1,e2,Bool.or_false]) (by rw[h1];simpa using h2) ⟨.str ⟨#[c]⟩,H,I.tok _,⟨_,rfl⟩,q⟩) hs
noncomputable def rIx(K:PySem.W.Frag):R2:=λx y H Q=>wxy K x y H Q\/wxw K x y H Q\/wxx x y H Q
theorem wqm:IxR X (rIx X.K):=ix_list.or (ix_tup.or wql)
theorem kx8(lo hi:Option Int)(n:Nat):(sliceBounds lo hi none n).1=((HT.sIx n 0 lo:Nat):Int)/\(sliceBounds lo hi none n).2.1=((HT.sIx n n hi:Nat):Int)/\(sliceBounds lo hi none n).2.2=1:=by
 refine⟨?_,?_,rfl⟩
 ·cases lo with
  |none=>simp[sliceBounds,HT.sIx]
  |some i=>
   simp only[sliceBounds,HT.sIx,Option.getD_none,show(1:Int)>0 by decide,if_true]
   by_cases h:i<0
   ·simp only[h,if_true]<;>omega
   ·simp only[h,if_false]<;>omega
 ·cases hi with
  |none=>simp[sliceBounds,HT.sIx]
  |some i=>
   simp only[sliceBounds,HT.sIx,Option.getD_none,show(1:Int)>0 by decide,if_true]
   by_cases h:i<0
   ·simp only[h,if_true]<;>omega
   ·simp only[h,if_false]<;>omega
theorem kvt(aa:List Value)(lo hi:Option Int):slicePick aa.toArray lo hi none=((aa.drop (HT.sIx aa.length 0 lo)).take (HT.sIx aa.length aa.length hi - HT.sIx aa.length 0 lo)).toArray:=by
 obtain⟨h1,h2,h3⟩:=kx8 lo hi aa.toArray.size;unfold slicePick;rw[h1,h2,h3];simp only[sliceRange_one,pick_run,X7]<;>rfl
noncomputable def wxu(K:PySem.W.Frag):V->Option Int->Option Int->Hp->VK->Prop:=λx lo hi H Q=>∃a xs,x=.ref a/\SqL K H a xs/\∀p,H p=none->Q (.ref p) (upd H p (.lst (W2 xs lo hi)))
theorem sl_list:SlR X (wxu X.K):=by
 intro pins s σ H x v vl vu lo hi sl Q I rx hs pl pu h;obtain⟨a,xs,rfl,hx,q⟩:=h;cases rx;obtain⟨aa,r,ht,hz⟩:=I.list hx;have ae:=r.length;refine⟨"list",_,slot_list_getitem.lookup,ht.isList.typeIs,?_⟩;refine wpAny_getItem_list_slice ht.isList hs pl pu .none (by simp) ?_ (by rw[X7]<;>omega);rw[kvt,<-ae];refine⟨.ref s.heap.objs.size,_,I.laid (t':=s.toks) (o:=.lst (W2 xs lo hi)) (λb ob q=>X6 _ q) (X8 _) ?_,rfl,q _ (I.hok.fresh (X8 _))⟩;exact⟨Y3 (kq7 xs lo hi) hz,_,0,(r.drop (HT.sIx xs.length 0 lo)).take (HT.sIx xs.length xs.length hi - HT.sIx xs.length 0 lo),Xj _ rfl⟩
theorem kxp:OpR X (compareOp .NotIn) (λx y H Q=>∃i j,x=.str i/\y=.str j/\Q (.bl (!(!(Builtin.Str.occurrences j i 0 j.length 1).isEmpty))) H):=by
 intro pins s σ H x y v u Q I rx ry h;obtain⟨i,j,rfl,rfl,q⟩:=h;obtain⟨t,rfl⟩:=rx;obtain⟨t',rfl⟩:=ry;exact notIn_str ⟨.bl _,H,I,rfl,q⟩
theorem call_len_seq:CallR X (.builtin "len") (λxs H Q=>∃p ys,xs=[.ref p]/\(SqL X.K H p ys\/SqT X.K H p ys)/\Q (.int ys.length) H):=by
 intro pins s σ H xs us Q I r h;obtain⟨p,ys,rfl,hq,q⟩:=h;obtain⟨u,rfl,rx⟩:=Jx r;cases rx;have hn:=YX;rcases hq with hq|hq
 ·obtain⟨aa,r',pl,hz⟩:=I.list hq;have ae:=r'.length;exact Calls.call_len_list pl.isList (by simp only[X7]<;>omega) ⟨.int ys.length,H,I.tok _,⟨s.toks+1,by rw[X7,ae]⟩,q⟩
 ·obtain⟨aa,r',pl,hz⟩:=I.tuple hq;have ae:=r'.length;exact len_tuple pl (by simp only[X7]<;>omega) ⟨.int ys.length,H,I.tok _,⟨s.toks+1,by rw[X7,ae]⟩,q⟩
theorem call_len_str:CallR X (.builtin "len") (λxs H Q=>∃z,xs=[.str z]/\z.length<=sizeLine/\Q (.int z.length) H):=by
 intro pins s σ H xs us Q I r h;obtain⟨z,rfl,hz,q⟩:=h;obtain⟨u,rfl,t,rfl⟩:=Jx r;have hn:=YX;exact len_str (by omega) ⟨.int z.length,H,I.tok _,⟨_,rfl⟩,q⟩
theorem CallR.or{f:Value}{r r':List V->Hp->VK->Prop}(h:CallR X f r)(h':CallR X f r'):CallR X f (λxs H Q=>r xs H Q\/r' xs H Q):=by
 intro pins s σ H xs us Q I rs q;rcases q with q|q
 ·exact h pins s σ H xs us Q I rs q
 ·exact h' pins s σ H xs us Q I rs q
theorem kzj:CallR X (.type "list") (λxs H Q=>∃p ys,xs=[.ref p]/\(SqL X.K H p ys\/SqT X.K H p ys)/\∀l,H l=none->Q (.ref l) (upd H l (.lst ys))):=by
 intro pins s σ H xs us Q I r h;obtain⟨p,ys,rfl,hq,q⟩:=h;obtain⟨u,rfl,rx⟩:=Jx r;cases rx;have fin:∀(aa:List Value),Vals ys aa->ys.length<=sizeLine->∀(h':Heap) (c':Nat),(∀b o',s.heap.get? b=some o'->h'.get? b=some o') ->
   h'.get? s.heap.objs.size=some { cls:=.type "list",dict:=none,data:=.seq aa.toArray c',slots:=#[] }->EP X pins σ Q (.ref s.heap.objs.size) { s with heap:=h' }:=λaa r' hz h' c' kp e=>
  ⟨.ref s.heap.objs.size,_,I.laid (t':=s.toks) kp (X8 _) (show ObjOk X.prog X.w _ h' _ (.lst ys)from⟨hz,aa,c',r',e⟩),rfl,q _ (I.hok.fresh (X8 _))⟩
 rcases hq with hq|hq
 ·obtain⟨aa,r',pl,hz⟩:=I.list hq;have ae:=r'.length;obtain⟨o,ho,hc,n,hd⟩:=pl.isList;exact call_list_seq p (.inl rfl) ho hc hd (λh' c' kp e=>fin aa r' hz h' c' kp e) (by simp only[X7]<;>omega)
 ·obtain⟨aa,r',pl,hz⟩:=I.tuple hq;have ae:=r'.length;obtain⟨o,ho,hc,n,hd⟩:=pl;exact call_list_seq p (.inr rfl) ho hc hd (λh' c' kp e=>fin aa r' hz h' c' kp e) (by simp only[X7]<;>omega)
theorem kws:CallR X (.type "tuple") (λxs H Q=>∃p ys,xs=[.ref p]/\((SqL X.K H p ys/\∀l,H l=none->Q (.ref l) (upd H l (.tup ys)))\/(SqT X.K H p ys/\Q (.ref p) H))):=by
 intro pins s σ H xs us Q I r h;obtain⟨p,ys,rfl,h⟩:=h;obtain⟨u,rfl,rx⟩:=Jx r;cases rx;rcases h with⟨hq,q⟩|⟨hq,q⟩
 ·obtain⟨aa,r',pl,hz⟩:=I.list hq;have ae:=r'.length;refine call_tuple_list pl.isList (λh' kp=>?_) (by simp only[X7]<;>omega);have I1:Inv X pins σ H { s with heap:=h' }:=I.kept (t':=s.toks) kp;have I2:Inv X pins σ (upd H h'.objs.size (.tup ys)) { s with heap:=h'.push { cls:=.type "tuple",data:=.seq aa.toArray } }:=
   I1.laid (t':=s.toks) (λb o e=>X6 _ e) (X8 _) (show ObjOk X.prog X.w _ _ _ (.tup ys)from⟨hz,aa,r',IsTupD.new _ _⟩)
  exact⟨.ref h'.objs.size,_,I2,rfl,q _ (I1.hok.fresh (X8 _))⟩
 ·obtain⟨aa,r',pl,hz⟩:=I.tuple hq;exact call_tuple_same pl ⟨.ref p,H,I,rfl,q⟩
noncomputable def tyV(K : PySem.W.Frag)(T : String)(x : V)(H : Hp): Prop:= match x with
  |.str _=>T = "str"
  |.int _=>T = "int"
  |.ref p=>(T = "list" /\ ∃xs, SqL K H p xs) \/ (T = "tuple" /\ ∃o, K.lookup p = some o /\ o.cls = .type "tuple" /\ o.dict = none) \/
      (T = "dict" /\ ((∃kvs, H p = some (.dK kvs)) \/ ∃kvs, H p = some (.dT kvs))) \/ (T = "set" /\ ∃S n, H p = some (.set S n))
  |_=>False
theorem vv7{pins:List (Addr×Obj)}{σ:St}{H:Hp}{s:Shared}{T:String}{x:V}{v:Value}(I:Inv X pins σ H s)(r:RelV x v)(ty:tyV X.K T x H):
  s.TypeIs v T/\∀a,v=.ref a->∃ob,s.heap.get? a=some ob/\ob.dict=none:=by
 cases x with
 | str z=>
  obtain⟨t,rfl⟩:=r;cases(show T="str" from ty);exact⟨typeIs_str s z t,λ_ e=>nomatch e⟩
 | int i=>
  obtain⟨t,rfl⟩:=r;cases(show T="int" from ty);exact⟨typeIs_int s i t,λ_ e=>nomatch e⟩
 | ref p=>
  cases r;rcases ty with⟨rfl,xs,hq⟩|⟨rfl,o,hk,hc,hd⟩|⟨rfl,hk⟩|⟨rfl,S,n,hk⟩
  ·obtain⟨aa,_,pl,_⟩:=I.list hq;refine⟨pl.isList.typeIs,λa e=>?_⟩;cases e;obtain⟨o,n,e,c,hd,_⟩:=pl;exact⟨o,e,hd⟩
  ·refine⟨⟨o,I.kIn p o hk,hc⟩,λa e=>?_⟩;cases e;exact⟨o,I.kIn _ o hk,hd⟩
  ·have z:∃o,s.heap.get? p=some o/\o.ExactDict:=by
    rcases hk with⟨kvs,hk⟩|⟨kvs,hk⟩
    ·obtain⟨_,_,_,_,o,_,_,e,ex,_⟩:=I.hok p _ hk;exact⟨o,e,ex⟩
    ·obtain⟨_,_,_,_,o,_,_,e,ex,_⟩:=I.hok p _ hk;exact⟨o,e,ex⟩
   obtain⟨o,e,ex⟩:=z;refine⟨⟨o,e,ex.1⟩,λa e2=>?_⟩;cases e2;exact⟨o,e,ex.2.1⟩
  ·obtain⟨o,_,_,_,e,ex,_⟩:=I.hok p _ hk;refine⟨⟨o,e,ex.1⟩,λa e2=>?_⟩;cases e2;exact⟨o,e,ex.2.1⟩
 |_=>exact False.elim ty
abbrev wxq(K:PySem.W.Frag)(T:String)(r:V->List V->Hp->VK->Prop)(to:TE):TE:=fun σ H Q=>to σ H λx H1=>tyV K T x H1/\r x [] H1 Q
abbrev tBM(K:PySem.W.Frag)(T:String)(r:V->List V->Hp->VK->Prop)(to:TE)(t:TA):TE:=fun σ H Q=>to σ H λx H1=>tyV K T x H1/\t σ H1 λxs H2=>r x xs H2 Q
variable {o e:Expr}{es:List Expr}{to:TE}{t:TA}{name:Str}{apos ab:Pos}{T id:String}{r:V->List V->Hp->VK->Prop}
theorem wkq(pa:PlainAttrs T)(slot:Slot T name id)(my:typeOf (.builtin id)=pure (.type "method_descriptor"))(hm:MtR X id r)(ho:PE X o to)
  (ay:autoParam (attributeBase o name X.env (eval o X.env)=eval o X.env) Ŕ) (ax:autoParam ((apos.endLine==ab.line)=true) Ŕ):PE X (.Call (.Attribute o name apos) [] [] ab) (wxq X.K T r to):=by
 intro pins s σ H Q I h;refine wpAny_Call_method0_late ay ax (thn (ho pins s σ H _ I h) λv s1 ⟨x,H1,I1,r1,ty,q1⟩=>?_);obtain⟨h1,h2⟩:=vv7 I1 r1 ty;exact⟨T,id,pa,slot,my,h1,h2,Yi rfl (PySem.evalArgs_none (hm pins s1 σ H1 x [] v [] Q I1 r1 .nil q1))⟩
theorem wwo(pa:PlainAttrs T)(slot:Slot T name id)(my:typeOf (.builtin id)=pure (.type "method_descriptor"))(hm:MtR X id r)(ho:PE X o to)(ha:PA X (e::es) t)
  (ay:autoParam (attributeBase o name X.env (eval o X.env)=eval o X.env) Ŕ)
  (fz:autoParam (((backTo ab (starEach (e::es) X.env)).all (λx=>!x.1)&&(backToKw ab (keywordEach [] X.env)).all (λx=>x.1.isSome)
   && decide ((e::es).length+([]:List Keyword).length+(if([]:List Keyword).isEmpty then 0 else 1)<30))=true) Ŕ)
  (ax:autoParam ((apos.endLine==ab.line)=true) Ŕ) (hs:autoParam (starEach (e::es) X.env=(false,eval e X.env)::starEach es X.env) Ŕ) (bg:autoParam ((backTo ab (starEach es X.env)).any (·.1)=false) Ŕ):
  PE X (.Call (.Attribute o name apos) (e::es) [] ab) (tBM X.K T r to t):=by
 intro pins s σ H Q I h;refine wpAny_Call_method_late ay fz ax rfl (thn (ho pins s σ H _ I h) λv s1 ⟨x,H1,I1,r1,ty,q1⟩=>?_);obtain⟨h1,h2⟩:=vv7 I1 r1 ty;refine⟨T,id,pa,slot,my,h1,h2,?_⟩;have hA:=ha ab pins s1 σ H1 _ I1 q1;rw[hs]at hA ⊢;refine Yi (by show(false||(backTo ab (starEach es X.env)).any (·.1))=false;rw[bg]<;>rfl) (Calls.evalArgs_plain ?_);exact thn hA λus s2 ⟨vs,H2,I2,r2,q2⟩=>hm pins s2 σ H2 x vs v us Q I2 r1 r2 q2
end
noncomputable def MtM(X:Cx)(id:String)(r:V->List V->Hp->VK->Prop):Prop:=
 ∀(pins:List (Addr×Obj)) (s:Shared) (σ:St) (H:Hp) (x:V) (xs:List V) (v:Value) (us:List Value) (Q:VK),Inv X pins σ H s->RelV x v->Vals xs us->r x xs H Q ->
  wpAny (model X.prog X.w) X.A (call (.builtin id) (v::us)) (EP X pins σ Q) X.xe s
theorem Vals.one:∀{x:V} {us:List Value},Vals [x] us->∃u,us=[u]/\RelV x u
 |_,_,.cons r .nil=>⟨_,rfl,r⟩
theorem Vals.zero:∀{us:List Value},Vals [] us->us=[]
 |_,.nil=>rfl
theorem Vals.reverse{xs:List V}{us:List Value}(h:Vals xs us):Vals xs.reverse us.reverse:=by
 induction h with
 |nil=>exact .nil
 |cons r t ih=>rw[List.reverse_cons,List.reverse_cons];exact Vals.append ih (.cons r .nil)
theorem Vals.rep{xs:List V}{us:List Value}(h:Vals xs us):∀k:Nat,Vals (List.replicate k xs).flatten (List.replicate k us).flatten
 |0=>.nil
 |k+1=>by
  rw[List.replicate_succ,List.replicate_succ,Yv,Yv];exact Vals.append h (Vals.rep h k)
theorem kkz(aa:List Value):∀(k:Nat) (acc:List Value),
  List.foldl (λx1 x2=>x1++x2) acc.toArray (List.replicate k aa.toArray)=(acc++(List.replicate k aa).flatten).toArray
 | 0,acc=>by simp
 | k+1,acc=>by
  have e:acc.toArray++aa.toArray=(acc++aa).toArray:=by simp
  have e2:(acc++aa)++(List.replicate k aa).flatten=acc++(List.replicate (k+1) aa).flatten:=by
   rw[List.replicate_succ,Yv,Xz]
  rw[<-e2,<-kkz aa k (acc++aa),<-e,List.replicate_succ,Z2]
section
variable {X:Cx}{pins:List (Addr×Obj)}{σ:St}{H:Hp}{s:Shared}{l b:Addr}{xs ys zs:List V}
theorem Inv.lset{aa its':List Value}{n:Nat}{f:Array Value->Array Value}{t':Nat}(I:Inv X pins σ H s)(hH:H l=some (.lst xs))
  (e:s.heap.get? l=some { cls:=.type "list",data:=.seq aa.toArray n }) (hf:f aa.toArray=its'.toArray) (hv:Vals ys its') (hz:ys.length<=sizeLine):
  Inv X pins σ (upd H l (.lst ys)) { s with heap:=s.heap.update l (Obj.mapSeq f),toks:=t' }:=by
 have q:=PySem.IsL.update e f;rw[hf]at q;refine I.write (x:=l) (e:=l) (by rw[hH];exact trivial) (.inl rfl) (λb' u hb hu=>(Heap.get?_update_other s.heap (Obj.mapSeq f) (Ne.symm hb)).trans hu) ⟨_,q⟩ ?_;exact⟨hz,its',_,hv,q⟩
theorem Inv.lnew{aa:List Value}{t':Nat}(I:Inv X pins σ H s)(hv:Vals ys aa)(hz:ys.length<=sizeLine):
  Inv X pins σ (upd H s.heap.objs.size (.lst ys)) { s with heap:=s.heap.push { cls:=.type "list",data:=.seq aa.toArray },toks:=t' }:=
 I.laid (λ_ _ q=>X6 _ q) (X8 _) ⟨hz,aa,0,hv,Xj _ rfl⟩
theorem Inv.fresh(I:Inv X pins σ H s):H s.heap.objs.size=none:=I.hok.fresh (X8 _)
theorem Inv.lstM(I:Inv X pins σ H s)(hH:H l=some (.lst xs)):xs.length<=sizeLine/\∃(aa:List Value) (n:Nat),Vals xs aa/\xs.length=aa.length/\s.heap.get? l=some { cls:=.type "list",data:=.seq aa.toArray n }:=by
 obtain⟨z,aa,n,r,e⟩:=I.hok l _ hH;exact⟨z,aa,n,r,r.length,e⟩
theorem vq8{n:Nat}(h:n<=sizeLine):Builtin.List.listTooLong n=false:=by
 unfold Builtin.List.listTooLong;exact Xa (by omega)
end
section
variable {X:Cx}
noncomputable def qja:V->List V->Hp->VK->Prop:=λx vs H Q=>∃l xs y,x=.ref l/\vs=[y]/\H l=some (.lst xs)/\xs.length<sizeLine/\Q .non (upd H l (.lst (xs++[y])))
theorem qxr:MtM X "list.append" qja:=by
 intro pins s σ H x vs v us Q I rx rv h;obtain⟨l,xs,y,rfl,rfl,hH,hz,q⟩:=h;cases rx;obtain⟨u,rfl,ru⟩:=rv.one;obtain⟨z,aa,n,r,hl,e⟩:=I.lstM hH;refine call_meets F.slot_list_append ⟨_,e,rfl⟩ F.entry_list_append (F.args_list_append_2 _ _) (PySem.list_append l aa.toArray n u (by rw[X7];omega)) ⟨e,?_⟩;refine⟨.non,_,I.lset (its':=aa++[u]) hH e (by simp) (r.append (.cons ru .nil)) ?_,rfl,q⟩;rw[Xi,Yd];omega
noncomputable def qkq:V->List V->Hp->VK->Prop:=λx vs H Q=>∃l xs,x=.ref l/\vs=[]/\H l=some (.lst xs)/\Q .non (upd H l (.lst xs.reverse))
theorem qvg:MtM X "list.reverse" qkq:=by
 intro pins s σ H x vs v us Q I rx rv h;obtain⟨l,xs,rfl,rfl,hH,q⟩:=h;cases rx;have hus:=rv.zero;subst hus;obtain⟨z,aa,n,r,hl,e⟩:=I.lstM hH;refine call_meets F.slot_list_reverse ⟨_,e,rfl⟩ F.entry_list_reverse (F.args_list_reverse_1 _) (AutoSeq1.list_reverse_list_0 l aa.toArray n (by rw[X7];omega)) ⟨e,?_⟩;refine⟨.non,_,I.lset (its':=aa.reverse) hH e (by simp) r.reverse ?_,rfl,q⟩;rw[List.length_reverse];omega
theorem qz0{α:Type}(xs:List α)(k:Nat):(List.replicate k xs).flatten.length=k*xs.length:=by
 induction k with
 |zero=>simp
 |succ k ih=>rw[List.replicate_succ,Yv,Xi,ih,Nat.succ_mul,Nat.add_comm]
end
end L2
namespace Att
open PySem PySem.W PySem.Calls PyProof.Rows
theorem kku{P:Params}{h:Heap}:∀(ns:List Int) (vs:List Value),WellAll P h vs (ns.map WData.int)->IntsAre vs ns:=by
 intro ns
 induction ns with
 | nil=>
  intro vs w;rw[List.map_nil]at w;cases w;exact .nil
 | cons n ns ih=>
  intro vs w;rw[List.map_cons]at w;cases w with
  |cons a b=>
   cases a;exact .cons _ _ (ih _ b)
theorem script_of{l : OpenLaw}{n : Nat}(hn : l.most = some n){P : Params}{h : Heap}{args : List WData}{om : List Value}
    (mv : l.row.toRowW.claim.pre args = true) (lx : WellAll P h om args):
    ∃ a vs ns, om = [Value.ref a] /\ args = [WData.list (ns.map WData.int)] /\ h.get? a = some { cls:= .type "list", data:= .seq vs.toArray } /\ IntsAre vs ns /\ ns.length<=n:= by
  have hsh : WShape.hasAll [] args [.list .int] = true:= (pre_splitW mv).1;have hc : l.pre.holds [] { args:= args } = true:= (pre_splitW mv).2;obtain⟨d, r, rfl, h1, h2⟩:= hasAllW_cons hsh;obtain rfl:= hasAllW_nil h2;obtain⟨xs, rfl, h3⟩:= hasW_list h1;obtain⟨ns, rfl⟩:= items_int h3;have ae : ns.length<=n:= by
    unfold OpenLaw.pre at hc;have h4 : (WTm.not (.lt (.lit (.int (n : Int))) (.len (.arg 0)))).holds [] { args:= [.list (ns.map .int)] } = true:= by
      have h4:= (holds_andW hc).1;rw[hn]at h4;exact h4
    have h5:= condW_of h4 (w_not (w_lt w_lit (w_len_list (w_arg rfl))));rw[X4]at h5;refine Nat.le_of_not_lt λq=> ?_
    have q' : (n : Int)<((ns.length : Nat): Int):= by omega
    first
      |(rw[Xb q']at h5; exact absurd h5 (by decide))
      |(simp at h5; omega)
  cases lx with
  | cons w1 w2=>
    cases w2;cases w1 with
    |list ho ou=>exact⟨_, _, ns, rfl, rfl, ho, kku ns _ ou, ae⟩
theorem post_true(l:OpenLaw)(args:List WData):l.row.toRowW.claim.post args (.bool true) args=true:=
 postW_of (r:=l.row.toRowW) (X:=(true==true))
  (show WShape.has [] (.bool true) .bool=true by first|rfl|decide|simp[WShape.has,WShape.arms,WShape.armsAll])
  (show(WTm.eq .res (.lit (.bool true))).value [] { args:=args,res:=some (.bool true),after:=args }=some (.bool (true==true))from w_eq_bool (w_res rfl) w_lit) rfl
end Att
namespace L2
open PySem PySem.Spec PyProof.Rows
noncomputable def wxo(H:Hp):Prop:=∀b,H b=none\/∃o xs,H b=some (.frz o (.lst xs))
noncomputable def W7(s:Stmt):Arguments:=match s with
 |.FunctionDef _ a _ _ _ _ _ _ _ _=>a
 |_=>{ posonlyargs:=[],args:=[],vararg:=none,kwonlyargs:=[],kw_defaults:=[],kwarg:=none,defaults:=[] }
noncomputable def Q6(s:Stmt):List Stmt:=match s with
 |.FunctionDef _ _ b _ _ _ _ _ _ _=>b
 |_=>[]
noncomputable def kw(s:Stmt):Scope:=match s with
 |.FunctionDef _ _ _ _ _ _ sc _ _ _=>sc
 |_=>{ kind:=.function,names:=[],isGenerator:=false,isCoroutine:=false }
structure Fun (K:PySem.W.Frag)(x qual:Str)(st:Stmt)(f:Addr)(fd:FuncData):Prop where
 ex:∃(oc:Value) (od:Option Addr) (kV gi pm:Value) (an:Option Addr) (aq ct:Value) (o7:Array (Option Value)),
  fd=PySem.W.fnOf x qual (W7 st) (Q6 st) (kw st) .none kV gi pm an aq ct/\K.lookup f=some ⟨oc,od,.func fd,o7⟩/\PySem.W.codeIn K aq qual=true
 kp:PySem.W.keepIn K (.ref f)=true
section
variable {P:Program}{w:World}{K:PySem.W.Frag}{mg:Str->Option Value}{base:Heap}
theorem Fun.binds{x qual:Str}{st:Stmt}{f:Addr}{fd:FuncData}{ps:List Str}(F:Fun K x qual st f fd)
  (h:∀(kV gi pm:Value) (an:Option Addr) (aq ct:Value) (us:List Value),us.length=ps.length->bindArgs (PySem.W.fnOf x qual (W7 st) (Q6 st) (kw st) .none kV gi pm an aq ct) ⟨us,[]⟩=pure (ps.zip us)):Binds K fd ps []:=by
 obtain⟨oc,od,kV,gi,pm,an,aq,ct,o7,rfl,lk,iw⟩:=F.ex;exact .all (h kV gi pm an aq ct)
theorem qzr{x qual:Str}{st:Stmt}{f:Addr}{oc:Value}{od an:Option Addr}{o7:Array (Option Value)}{kV gi pm aq ct:Value}(l:K.lookup f=some ⟨oc,od,.func (PySem.W.fnOf x qual (W7 st) (Q6 st) (kw st) .none kV gi pm an aq ct),o7⟩)
  (c:PySem.W.codeIn K aq qual=true) (k:PySem.W.keepIn K (.ref f)=true):Fun K x qual st f (PySem.W.fnOf x qual (W7 st) (Q6 st) (kw st) .none kV gi pm an aq ct):=⟨⟨oc,od,kV,gi,pm,an,aq,ct,o7,rfl,l,c⟩,k⟩
end
section
variable {X:Cx}
theorem pv(i:Nat){x:Str}{pos:Pos}(hN:autoParam (X.N[i]?=some x) Ŕ)(hv:autoParam (Vis X.env.scope x) ř)(hd:autoParam ((x==("__debug__":Str))=false) ŕ)
  (iw:autoParam ((x==("__classdict__":Str))=false) ŕ):PE X (.Name x pos) (Kx i):=wkh hN hv hd iw
end
def kJ(H H':Hp):Prop:=∀b o,H b=some o->H' b=some o
section
variable {κ:Type}[DecidableEq κ]
theorem KV.length{kvs:List (κ×V)}{vs:List (κ×Value)}(r:KV kvs vs):kvs.length=vs.length:=Paired.length r
end
section
variable {P:Program}{w:World}{H:Hp}{h:Heap}{a:Addr}
theorem ww7{u:HO}(ok:HOk P w H h)(e:Rd H a u):ObjOk P w H h a u:=e.ok ok
theorem wxd{kvs:List (Key×V)}(ok:HOk P w H h)(e:Rd H a (.dK kvs)):kvs.length<=sizeLine/\(a==sysModules)=false/\∃vs,KV kvs vs/\h.DictOf (kwc P w) a vs:=
 show ObjOk P w H h a (.dK kvs)from ww7 ok e
end
section
variable {X:Cx}{pins:List (Addr×Obj)}{σ:St}{H:Hp}{s:Shared}{a:Addr}{y v:V}{u r:Value}{o:Option V}{A:Around}{E:Value->Shared->Prop}
theorem Inv.big(I:Inv X pins σ H s):sysModules<s.heap.objs.size:=by
 have h:mainGlobals<s.heap.objs.size:=(I.mod.glob.keeps I.bk).lt;exact Nat.lt_trans (by decide) h
theorem qk1{h':Heap}{t':Nat}{ob:HO}(I:Inv X pins σ H s)(mu:Mut (H a))(hs:Heap.SameBut a s.heap h')(he:∃q,h'.get? a=some q)(new:ObjOk X.prog X.w (upd H a ob) h' a ob):
  Inv X pins σ (upd H a ob) { s with heap:=h',toks:=t' }:=
 I.write (x:=a) (e:=a) mu (.inl rfl) (λb q hb z=>(hs.2 b hb).trans z) he new
end
section
variable {X:Cx}{pins:List (Addr×Obj)}{σ:St}{H:Hp}{s:Shared}{a:Addr}{kvs:List (Key×V)}{k:Key}{u:Value}{A:Around}{E:Value->Shared->Prop}
theorem wxf{Q:Value->Shared->Prop}(I:Inv X pins σ H s)(e:Rd H a (.dK kvs))(h:∀t s',Inv X pins σ H s'->Q (.int kvs.length t) s'):wpAny (model X.prog X.w) A (call (.builtin "len") [.ref a]) Q E s:=by
 obtain⟨z,hd,vs,ql,dd⟩:=wxd I.hok e;refine call_len_dict hd dd (by rw[<-ql.length];rw[sizeLine_eq]at z;omega) ?_;rw[<-ql.length];exact h _ _ (I.tok _)
end
noncomputable def vv8:List (TE×TE)->St->Hp->(List (V×V)->Hp->Prop)->Prop
 |[],_,H,Q=>Q [] H
 |(tk,tv)::r,σ,H,Q=>tk σ H λx H1=>tv σ H1 λy H2=>vv8 r σ H2 λps H3=>Q ((x,y)::ps) H3
abbrev VV:List (V×V)->List (Value×Value)->Prop:=Paired λp q=>RelV p.1 q.1/\RelV p.2 q.2
noncomputable def PPs(X:Cx)(pos:Pos)(keys:List (Option Expr))(p8:List Expr)(trs:List (TE×TE)):Prop:=
 ∀(pins:List (Addr×Obj)) (s:Shared) (σ:St) (H:Hp) (Q:List (V×V)->Hp->Prop),Inv X pins σ H s->vv8 trs σ H Q ->
  wpAny (model X.prog X.w) X.A (evalPairs (pairTrees keys p8 X.env pos)) (λvs s'=>∃ps H',Inv X pins σ H' s'/\VV ps vs/\Q ps H') X.xe s
theorem vwv{X:Cx}{pos:Pos}:PPs X pos [] [] []:=λpins s σ H Q I h=>pairTrees_nil_walk ⟨[],H,I,.nil,h⟩
theorem vkv{X:Cx}{pos:Pos}{k v:Expr}{ks:List (Option Expr)}{vs:List Expr}{tk tv:TE}{trs:List (TE×TE)}(hk:PE X k tk)(hv:PE X v tv)(hr:PPs X pos ks vs trs):
  PPs X pos (some k::ks) (v::vs) ((tk,tv)::trs):=λpins s σ H Q I h=>
 pairTrees_cons_walk (thn (hk pins s σ H _ I h) λu s1 ⟨x,H1,I1,rx,q1⟩=>thn (hv pins s1 σ H1 _ I1 q1) λw2 s2 ⟨y,H2,I2,ry,q2⟩=>
  thn (hr pins s2 σ H2 _ I2 q2) λws s3 ⟨ps,H3,I3,ql,q3⟩=>⟨(x,y)::ps,H3,I3,.cons ⟨rx,ry⟩ ql,q3⟩)
structure M2 (X:Cx)(o:Expr)(m:Str)(apos:Pos)(e f:Expr)(ab:Pos):Prop where
 base:attributeBase o m X.env (eval o X.env)=eval o X.env
 few:((backTo ab (starEach [e,f] X.env)).all (λx=>!x.1)&&(backToKw ab (keywordEach [] X.env)).all (λx=>x.1.isSome)
  && decide (([e,f]:List Expr).length+([]:List Keyword).length+(if([]:List Keyword).isEmpty then 0 else 1)<30))=true
 line:(apos.endLine==ab.line)=true
 trees:backTo ab (starEach [e,f] X.env)=[(false,eval e X.env),(false,eval f X.env)]
section
variable {X:Cx}
theorem vjk:CallR X (.builtin "len") (λxs H Q=>∃a kvs,xs=[V.ref a]/\H a=some (.dK kvs)/\Q (.int kvs.length) H):=by
 intro pins s σ H xs us Q I r h;obtain⟨a,kvs,rfl,ha,q⟩:=h;obtain⟨u,rfl,ru⟩:=Jx r;cases ru;exact wxf I (.inl ha) λt s' I'=>⟨.int kvs.length,H,I',⟨t,rfl⟩,q⟩
end
end L2
set_option maxHeartbeats 4000000
namespace L3
open PySem PySem.Spec PyProof.Rows L2
abbrev qz5(em:List Expr)(env:Env):Sem Bool:=
 forIn em true λc r=>if r=true then do let ok <-isTrue c env (eval c env);pure (ForInStep.yield ok)else pure (ForInStep.yield r)
theorem jx7 (env : Env): ∀(l : List (Str × NameKind)) (cs : List (Str × Addr)), (∀y ∈ l, y.2 = .free -> ∃c, env.cells.lookup y.1 = some c) ->
    (∀x c, cs.lookup x = some c -> env.cells.lookup x = some c) ->
    ∃ cl, (forIn l cs (λ(x : Str × NameKind) (r : List (Str × Addr))=>if(x.2==NameKind.free) = true then do let a <-cellOf env x.1; pure (ForInStep.yield ((x.1, a)::r))else pure (ForInStep.yield r)): Sem (List (Str × Addr))) = pure cl /\
      (∀x c, cl.lookup x = some c -> env.cells.lookup x = some c) /\ (∀x c, cs.lookup x = some c -> ∃c', cl.lookup x = some c') /\ ∀y ∈ l, y.2 = .free -> ∃c, cl.lookup y.1 = some c
  | [], cs, _, hs=>⟨cs, rfl, hs, λx c h=>⟨c, h⟩, λ_ h=>nomatch h⟩
  | (n, k)::r, cs, hl, hs=>by
    by_cases hk : k = .free
    · subst hk
      obtain⟨c, hc⟩:= hl (n, .free) X3 rfl;have gv : ∀x d, ((n, c)::cs).lookup x = some d -> env.cells.lookup x = some d:= λx d h=>by
        rw[Z6]at h;cases hx : x==n with
        | true=>
          rw[hx]at h;have e : x = n:= by simpa using hx
          have e2 : c = d:= by simpa using h
          subst e; subst e2;exact hc
        | false=>rw[hx]at h; exact hs x d h
      obtain⟨cl, e, a, b, d⟩:= jx7 env r ((n, c)::cs) (λy hy=>hl y (lc9 _ hy)) gv;refine⟨cl, ?_, a, λx c' h=> ?_, λy hy hf=> ?_⟩
      · rw[List.forIn_cons]
        have q : cellOf env n = pure c:= by unfold cellOf; rw[hc]
        simp only[beq_self_eq_true, if_true, q, pure_bind];exact e
      · cases hx : x==n with
        | true=>exact b x c (by rw[Z6, hx])
        | false=>exact b x c' (by rw[Z6, hx]; exact h)
      · rcases List.mem_cons.mp hy with z|z
        · subst z
          exact b n c (by rw[Z6]; simp)
        · exact d y z hf
    · obtain⟨cl, e, a, b, d⟩:= jx7 env r cs (λy hy=>hl y (lc9 _ hy)) hs
      refine⟨cl, ?_, a, b, λy hy hf=> ?_⟩
      · rw[List.forIn_cons]
        have q : (k==NameKind.free) = false:= by simpa using hk
        simp only[q, Bool.false_eq_true, if_false, pure_bind];exact e
      · rcases List.mem_cons.mp hy with z|z
        · subst z
          exact absurd hf hk
        · exact d y z hf
theorem kvi{scope:Scope}{env:Env}(h:∀y∈scope.names,y.2=.free->∃c,env.cells.lookup y.1=some c):
  ∃cl,closureFor scope env=pure cl/\(∀x c,cl.lookup x=some c->env.cells.lookup x=some c)/\∀y∈scope.names,y.2=.free->∃c,cl.lookup y.1=some c:=by
 obtain⟨cl,e,a,_,d⟩:=jx7 env scope.names [] h (λx c h=>nomatch h);refine⟨cl,?_,a,d⟩;unfold closureFor;have e':=congrArg (λt:Sem (List (Str×Addr))=>t >>= pure) e
 simpa using e'
noncomputable def lcX(X:Cx)(scope:Scope)(N:List Str)(cl:List (Str×Addr))(C:Addr)(s0:Shared)(H0:Hp)(fp:List Addr):Cx:=
 { X with N:=N,s₀:=s0,H₀:=H0,env:=compEnvC scope cl C X.env,outer:=X.stack,ex:=fp,fn:=λ_=>false,pn:=[],xe:=λ_ _=>False }
noncomputable def JQ(k:Nat)(R:List Nat)(σ:L2.St):L2.St:=List.replicate k none++R.map λj=>(σ[j]?).join
structure LcOk (X:Cx)(scope:Scope)(N:List Str)(k:Nat)(R:List Nat):Prop where
 kind:scope.kind=.function
 nocell:∀y∈scope.names,y.2≠.cell
 names:∀y∈scope.names,y.2=.local->scope.names.lookup y.1=some .local
 caps:∀y∈scope.names,y.2=.free->X.env.kindOf y.1=some .cell\/X.env.kindOf y.1=some .free
 len:N.length=k+R.length
 outs:∀i j x,R[i]?=some j->N[k+i]?=some x->X.N[j]?=some x/\scope.names.lookup x=some .free
noncomputable def W9(XN:List Str)(sc scope:Scope)(N:List Str)(k:Nat)(R:List Nat):Bool:=
 scope.names.all (λy=>y.2 != .cell)&&scope.names.all (λy=>y.2 != .local||scope.names.lookup y.1==some .local) &&
 scope.names.all (λy=>y.2 != .free||(sc.names.lookup y.1==some .cell||sc.names.lookup y.1==some .free)) &&
 (N.length==k+R.length)&&(R.zip (N.drop k)).all (λp=>XN[p.1]? == some p.2&&scope.names.lookup p.2==some .free)
theorem qkz{X:Cx}{scope:Scope}{N:List Str}{k:Nat}{R:List Nat}(hk:scope.kind=.function)(h:W9 X.N X.env.scope scope N k R=true):LcOk X scope N k R:=by
 unfold W9 at h;simp only[Bool.and_eq_true,List.all_eq_true,bne_iff_ne,Bool.or_eq_true,beq_iff_eq]at h;obtain⟨⟨⟨⟨h1,h2⟩,h3⟩,h4⟩,h5⟩:=h;refine⟨hk,λy hy=>h1 y hy,λy hy e=>(h2 y hy).resolve_left (λz=>z e),λy hy e=>(h3 y hy).resolve_left (λz=>z e),h4,λi j x e1 e2=>?_⟩;have m:(j,x)∈R.zip (N.drop k):=by
  refine Xm (i:=i) ?_;rw[List.getElem?_zip_eq_some];exact⟨e1,by rw[List.getElem?_drop];exact e2⟩
 exact h5 (j,x) m
theorem jq0 {env : Env} {x : Str} {q : NameKind}: ∀{names : List (Str × NameKind)}, (names.map λ(n, k)=>if(k==NameKind.free&&env.scope.kind == .function&&env.kindOf n==some .cell)then(n, NameKind.cell)else(n, k)).lookup x = some q ->
    (x, q) ∈ names \/ (q = .cell /\ (x, NameKind.free) ∈ names)
  | [], h=>nomatch h
  | (n, k)::r, h=>by
    have h : List.lookup x ((if(k==NameKind.free&&env.scope.kind == .function&&env.kindOf n==some .cell) = true then(n, NameKind.cell)else(n, k))::(r.map λ(n, k)=>if(k==NameKind.free&&env.scope.kind == .function&&env.kindOf n==some .cell)then(n, NameKind.cell)else(n, k))) = some q:= h
    by_cases hc : (k==NameKind.free&&env.scope.kind == .function&&env.kindOf n==some .cell) = true
    · rw[X9 hc, Z6]at h
      cases hx : x==n with
      | true=>
        rw[hx]at h;have e : x = n:= by simpa using hx
        have e2 : NameKind.cell = q:= by simpa using h
        subst e;simp only[Bool.and_eq_true, beq_iff_eq]at hc;obtain⟨⟨e3, _⟩, _⟩:= hc;subst e3;exact .inr ⟨e2.symm, X3⟩
      | false=>
        rw[hx]at h;rcases jq0 (names:= r) h with z|⟨z, y⟩
        · exact .inl (lc9 _ z)
        · exact .inr ⟨z, lc9 _ y⟩
    · rw[Xd hc, Z6]at h
      cases hx : x==n with
      | true=>
        rw[hx]at h;have e : x = n:= by simpa using hx
        have e2 : k = q:= by simpa using h
        subst e; subst e2;exact .inl X3
      | false=>
        rw[hx]at h;rcases jq0 (names:= r) h with z|⟨z, y⟩
        · exact .inl (lc9 _ z)
        · exact .inr ⟨z, lc9 _ y⟩
section
variable {X:Cx}{pins:List (Addr×Obj)}{σ:L2.St}{H:Hp}{s:Shared}
theorem wqb{scope:Scope}{N:List Str}{k:Nat}{R:List Nat}{cl:List (Str×Addr)}{C:Addr}(sc:LcOk X scope N k R)(b9:∀y∈scope.names,y.2=.free->∃c,cl.lookup y.1=some c)
  {x:Str} (h:(compEnvC scope cl C X.env).kindOf x=some .cell\/(compEnvC scope cl C X.env).kindOf x=some .free):∃c,cl.lookup x=some c:=by
 rcases h with h|h
 ·rcases jq0 (env:=X.env) (names:=scope.names) h with z|⟨_,z⟩
  ·exact absurd rfl (sc.nocell _ z)
  ·exact b9 _ z rfl
 ·rcases jq0 (env:=X.env) (names:=scope.names) h with z|⟨z,_⟩
  ·exact b9 _ z rfl
  ·cases z
theorem wqc{scope:Scope}{N:List Str}{k:Nat}{R:List Nat}{cl:List (Str×Addr)}{C:Addr}{fp:List Addr}(I:Inv X pins σ H s)(sc:LcOk X scope N k R)(hf:∀b∈fp,wX X pins H b)(ho:∀b∈fp,∃o,s.heap.get? b=some o)
  (hC:s.heap.objs.size<=C) (f9:∀x c,cl.lookup x=some c->X.env.cells.lookup x=some c) (b9:∀y∈scope.names,y.2=.free->∃c,cl.lookup y.1=some c):(lcX X scope N cl C s H fp).Ok where
 mod:=I.ok.mod
 kind:=sc.kind
 glob:=I.ok.glob
 blt:=I.ok.blt
 above:=hC
 inj:=λx y c h1 h2=>I.ok.inj x y c (f9 _ _ h1) (f9 _ _ h2)
 has:=λx h=>wqb sc b9 h
 cab:=λx c h=>by cases h
 hd:=I.ok.hd
 frames:=I.ok.frames
 stk:=.inl rfl
 exf:=λb hb=>by
  obtain⟨o,e⟩:=ho b hb;exact⟨Y1 (Xn (Xl e) hC),λx c h=>(hf b hb).2.2.2.2.1 x c (f9 x c h)⟩
 bs:=λb o e=>I.bs b o e
 bsz:=Y3 I.ok.bsz I.sz
 noex:=λb o e hb=>by
  rcases(hf b hb).2.2.2.1 with z|z
  ·exact I.ok.noex b o e z
  ·exact absurd (Xn (Xl e) (Y3 I.ok.bsz z)) (Yg _)
 exfs:=λb hb hs=>by
  rcases List.mem_cons.mp (I.stkSub b hs)with z|z
  ·exact(hf b hb).2.1 z
  ·exact(hf b hb).2.2.1 z
 funs:=I.stack
 frf:=I.stkFree
theorem wjd(I:Inv X pins σ H s){a:Addr}(h:s.heap.objs.size<=a):a∉frs X.stack:=λz=>by
 rcases List.mem_cons.mp (I.stkSub a z)with e|e
 ·subst e;exact absurd (Xn I.lt h) (Yg _)
 ·exact I.nofs h e
theorem vxo {scope:Scope} {N:List Str} {k:Nat} {R:List Nat} {cl:List (Str×Addr)} {C D:Addr} {fp:List Addr} {h1:Heap} {t:Nat} {m:Str->Option Value} {oD:Obj} (I:Inv X pins σ H s) (sc:LcOk X scope N k R)
  (hf:∀ b∈fp,wX X pins H b) (ho:∀b∈fp,∃o,s.heap.get? b=some o)
  (hC:s.heap.objs.size<=C) (hD:s.heap.objs.size<=D) (rg:D≠C) (f9:∀x c,cl.lookup x=some c->X.env.cells.lookup x=some c) (b9:∀y∈scope.names,y.2=.free->∃c,cl.lookup y.1=some c)
  (gh:∀ b o,s.heap.get? b=some o->h1.get? b=some o) (hn:h1.Ns C m) (eD:h1.get? D=some oD) (dD:∀v,oD.data≠.cell v):
  Inv (lcX X scope N cl C s H fp) [(D,oD)] (JQ k R σ) H { s with heap:=h1,toks:=t } where
 ok:=wqc I sc hf ho hC f9 b9
 os:=rfl
 bare:=I.bare
 base:=Un.kept gh
 loc:=⟨m,hn,λi x v e1 e2 vis=>by
  obtain⟨mX,hnX,hl⟩:=I.loc;unfold JQ at e2
  by_cases hi:i<k
  ·rw [Xu (by rw[Yc];exact hi),List.getElem?_replicate,X9 hi]at e2;cases e2
  ·have hk:k<=i:=Nat.le_of_not_lt hi;rw [Xy (by rw[Yc];exact hk),Yc,Xg]at e2;cases er:R[i - k]? with
   | none=>rw[er]at e2;cases e2
   | some j=>
    rw [er]at e2;have ej:(σ[j]?).join=some v:=by simpa using e2
    have ej':σ[j]?=some (some v):=by
     cases q:σ[j]? with
     | none=>rw[q]at ej;cases ej
     | some z=>rw[q]at ej;cases z with
      | none=>cases ej
      | some z=>rw[show z=v by simpa using ej]
    obtain⟨o1,o2⟩:=sc.outs (i - k) j x er (by rw[show k+(i - k)=i by omega];exact e1);have cap:=sc.caps (x,.free) (Yk o2) rfl;have visX:Vis X.env.scope x:=cap.elim (λz=>.inr (.inl z)) λz=>.inr (.inr z)
    obtain⟨u,ru,q⟩:=hl j x v o1 ej' visX;refine⟨u,ru,?_⟩;rcases q with⟨q,_⟩|⟨_,c,ec,hc⟩
    ·rcases cap with z|z
     ·rw[z]at q;cases q
     ·rw[z]at q;cases q
    ·obtain⟨c',ec'⟩:=b9 (x,.free) (Yk o2) rfl;have e:c'=c:=oq9 ((f9 x c' ec').symm.trans ec);subst e;refine .inr ⟨?_,c',ec',?_⟩
     ·rcases vis with z|z|z
      ·rcases jq0 (env:=X.env) (names:=scope.names) z with y|⟨y,_⟩
       ·have y':=sc.names _ y rfl;rw[o2]at y';cases y'
       ·cases y
      ·exact .inl z
      ·exact .inr z
     ·obtain⟨o,h1,h2⟩:=hc;exact⟨o,gh _ _ h1,h2⟩⟩
 cell:=λx c h=>by
  obtain⟨v,o,h1,h2⟩:=I.cell x c (f9 x c h);exact⟨v,o,gh _ _ h1,h2⟩
 free:=I.hok.fresh hC
 freeC:=λx c h=>I.freeC x c (f9 x c h)
 pin:=λp hp=>by
  have e:p=(D,oD):=by
   have hp:p∈([]++[(D,oD)]:List (Addr×Obj)):=hp
   simpa using hp
  subst e;exact⟨eD,I.hok.fresh hD,rg,wjd I hD,dD⟩
 hok:=I.hok.kept gh
 len:=by
  show(JQ k R σ).length=N.length;unfold JQ;rw[sc.len,Xi,Yc,X4]
theorem kkt{a:Addr}{o:HO}(I:Inv X pins σ H s)(hn:H a=none)(hL:a≠X.env.locals)(h1:a∈X.ex\/X.s₀.heap.objs.size<=a)(h2:∀x c,X.env.cells.lookup x=some c->c≠a)(h3:∀p∈X.pn++pins,p.1≠a)
  (new:ObjOk X.prog X.w (upd H a o) s.heap a o):Inv X pins σ (upd H a o) s:=by
 have hok:HOk X.prog X.w (upd H a o) s.heap:=λb u e=>by
  by_cases hb:b=a
  ·subst hb;rw[xJ]at e;cases e;exact new
  ·rw[v4 hb]at e;exact(I.hok b u e).stay (λ_ _ _ q=>q) (λc q=>by rw[v4 (JY q hn)];exact q) λc xs q=>by rw[v4 (JY q hn)];exact q
 have na:∀b:Addr,b∉[a]->b≠a:=λb hb z=>hb (by rw[z];exact List.mem_singleton.mpr rfl)
 exact I.step (h':=s.heap) (H':=upd H a o) (g':=s.gens) (t':=s.toks) (d':=s.drawn) (ch:=[a])
  (λb hb=>by rw[List.mem_singleton.mp hb];exact⟨h1,hL,h2,h3⟩) (λb o _ _ _ e _=>e) (λb o _ _ _ e _=>⟨o.slots,e⟩) (λb o hb _ q=>by rw[v4 (na b hb)];exact q)
  (λb o _ e=>⟨o,e⟩) (λb xs q=>by rw[v4 (JY q hn)];exact q) (λb o u q=>by rw[v4 (JY q hn)];exact q) (λb ps q=>⟨#[],by rw[v4 (JY q hn),q];simp⟩)
  (λm hm=>hm) hok I.bare
end
noncomputable def PTs(X:Cx)(em:List Expr)(t:TT):Prop:=
 ∀(pins:List (Addr×Obj)) (s:Shared) (σ:L2.St) (H:Hp) (Q:Bool->Hp->Prop),Inv X pins σ H s->t σ H Q->wpAny (model X.prog X.w) X.A (qz5 em X.env) (TP X pins σ Q) X.xe s
abbrev tYes:TT:=λ_ H Q=>Q true H
theorem vwr{X:Cx}:PTs X [] tYes:=λ_ _ _ H _ I h=>wpAny_tests_nil ⟨H,I,h⟩
theorem vwq{X:Cx}{c:Expr}{t:TT}(hc:PT X c t):PTs X [c] t:=λpins s σ H Q I h=>wpAny_tests_one (hc pins s σ H Q I h)
noncomputable def LcW(g:TG)(tt:TT)(te:TE)(Q:VK)(J:It)(W:Nat->Nat->List V->L2.St->Hp->Prop):Prop:=∀i m ys σ H,W i m ys σ H ->
 (J.stop i H/\ys.length<=sizeLine/\∀p,H p=none->Q (.ref p) (upd H p (.lst ys))) \/
 (J.go i H/\∀x H1,J.yld i H x H1->g x σ H1 fun σ2 H2=>∃(Ny:VK) (Nn:Hp->Prop),(∀y H4,Ny y H4->ys.length<=sizeLine/\∃m',m'<m/\W (i+1) m' (ys++[y]) σ2 H4) /\
  (∀H4,Nn H4->∃m',m'<m/\W (i+1) m' ys σ2 H4)/\tt σ2 H2 λb H3=>if b=true then te σ2 H3 Ny else Nn H3)
abbrev tLC(wi:TI)(g:TG)(tt:TT)(te:TE)(k:Nat)(R:List Nat):TE:=fun σ H Q=>wi σ H λJ H1=>
 ∃W:Nat->Nat->List V->L2.St->Hp->Prop,(∃m,W 0 m [] (JQ k R σ) H1)/\LcW g tt te Q J W
abbrev Zq(aa:List Value)(n:Nat):Obj:={ cls:=.type "list",data:=.seq aa.toArray n }
section
variable {X:Cx}
theorem op_mulI:OpR X (binaryOp .Mult) (rI IntMulOk λi j=>.int (i*j)):=opI λ_ _ _ _ _ _ _ hc q=>mul_int q hc
def wve(_i j:Int):Prop:=0<j/\j.natAbs.log2<9000
theorem WW:OpR X (binaryOp .FloorDiv) (rI wve λi j=>.int (i / j)):=opI λi j _ _ _ _ _ hc q=>by
 have h1:(0:Int)<j:=hc.1;exact floordiv_int (by omega) (by rw[Int.fdiv_eq_ediv_of_nonneg i (by omega)];exact q) (.inl (PyProof.noPylong_of_log2 hc.2))
noncomputable def kinds:List String:=["NoneType","bool","int","str","list","tuple","dict"]
noncomputable def wqo(T U:String):Bool:=T==U||(T == "bool" && U == "int")
theorem qju{K:PySem.W.Frag}{T U:String}(hT:T∈kinds)(hU:U∈kinds.tail):PySem.W.kitOne K (.type T) (.type U)=some (wqo T U):=by
 simp only[kinds,List.tail_cons,Yh,Xw,or_false]at hT hU;rcases hT with rfl|rfl|rfl|rfl|rfl|rfl|rfl<;>rcases hU with rfl|rfl|rfl|rfl|rfl|rfl<;>with_unfolding_all rfl
noncomputable def wxz(K:PySem.W.Frag):List V->Hp->VK->Prop:=λxs H Q=>∃x T U,xs=[x,.ty U]/\TyOf K H x (.type T)/\T∈kinds/\U∈kinds.tail/\Q (.bl (wqo T U)) H
theorem vv1:CallR X (.builtin "isinstance") (wxz X.K):=by
 intro pins s σ H xs us Q I r h;obtain⟨x,T,U,rfl,ty,hT,hU,q⟩:=h;obtain⟨u,w',rfl,r1,r2⟩:=qw7 r;cases(show w'=Value.type U from r2);exact qzf I r1 ty (qju hT hU) λtk=>⟨.bl _,H,I.tok _,rfl,q⟩
noncomputable def Its(x:Str):It:=⟨λi _=>i<x.cps.size,λi H v H'=>H'=H/\∃c,x.cps[i]?=some c/\v=.str ⟨#[c]⟩,λi _=>i=x.cps.size⟩
theorem qk9{P:Program}{w:World}{K:PySem.W.Frag}{tg:Expr}{x:Str}{t:Tok}{it:Addr}{ty:String}
  (W:∀A':Around,A'.handled=none->Walks P w A' it [it] [it] x.cps.size (SignAt x) (λi h=>h.IsStrIter it ty x t i))
  (tu:∀(A:Around) (i:Nat) (s:Shared) (Q:Value->Shared->Prop) (E:Value->Shared->Prop),s.heap.IsStrIter it ty x t i->Q (.ref it) s->wpAny (model P w) A (pyIter (.ref it)) Q E s)
  (my:["enumerate","zip","dict_itemiterator","dict_reverseitemiterator","odict_iterator","itertools.zip_longest","itertools.pairwise"].contains ty=false):
  Turn P w K tg (Its x) [it] it (λi h=>h.IsStrIter it ty x t i) where
 mem:=by simp
 obj:=λi h st b hb=>by
  have e:b=it:=by simpa using hb
  subst e;obtain⟨o,e,c,d⟩:=st;exact⟨o,e,λv z=>by rw[d]at z;cases z⟩
 keep:=λi h h' st k=>by
  obtain⟨o,e,r⟩:=st;exact⟨o,k it (by simp) o e,r⟩
 item:=by
  intro X hP hw hK hc i pins s σ H E I hf st hg;subst hP hw hK;obtain⟨f0,f1,f2,f3,f4,f5⟩:=hf it (by simp);refine(W X.A (I.ok.hd hc)).item i s _ _ hg st λv h' tk hv cz kk=>?_
  obtain⟨c,u,gp,rfl⟩:=hv;have I1:Inv X pins σ H { s with heap:=h',toks:=tk }:=I.turned (λb o hb e=>kk b o (by simpa using hb) e) f0 f1 f3 f4 f5;obtain⟨o,e,c1,d⟩:=id cz;exact⟨_,rfl,vqq (s:={ s with heap:=h',toks:=tk }) e c1 d my ⟨.str ⟨#[c]⟩,H,I1,⟨u,rfl⟩,⟨rfl,c,gp,rfl⟩,cz,λb hb=>(hf b hb).1⟩⟩
 done:=by
  intro X hP hw hK hc i pins s σ H E I hf st hg;subst hP hw hK;obtain⟨f0,f1,f2,f3,f4,f5⟩:=hf it (by simp);have kg:i=x.cps.size:=hg;subst kg;exact(W X.A (I.ok.hd hc)).done s _ _ st λh' tk kk=>⟨rfl,I.turned (λb o hb e=>kk b o (by simpa using hb) e) f0 f1 f3 f4 f5⟩
 self:=λA i s Q E st hQ=>tu A i s Q E st hQ
noncomputable def wxt:V->Option Int->Option Int->Hp->VK->Prop:=λx lo hi H Q=>∃z,x=.str z/\z.length<=sizeLine/\Q (.str (Txt.slice z lo hi)) H
theorem wjf:SlR X wxt:=by
 intro pins s σ H x v vl vu lo hi sl Q I rx hs pl pu h;obtain⟨z,rfl,hz,q⟩:=h;obtain⟨t,rfl⟩:=rx;refine⟨"str",_,F.slot_str_getitem.lookup,typeIs_str _ _ _,?_⟩;have fin:∀(t':Tok) (k:Nat),EP X pins σ Q (.str (Txt.slice z lo hi) t') { s with toks:=k }:=λt' k=>⟨.str _,H,I.tok k,⟨t',rfl⟩,q⟩
 have dy:(Txt.slice z lo hi).length<=sizeLine:=Y3 (Txt.slice_le z _ _) hz;cases pl with
 |none=>cases pu with
  |none=>exact wpAny_getItem_str_slice (l:=none) (u:=none) (st:=none) hs rfl (post_val_or_str ⟨dy,fin⟩)
  |int j tj=>exact wpAny_getItem_str_slice (l:=none) (u:=some (j,tj)) (st:=none) hs rfl (post_val_or_str ⟨dy,fin⟩)
 |int i ti=>cases pu with
  |none=>exact wpAny_getItem_str_slice (l:=some (i,ti)) (u:=none) (st:=none) hs rfl (post_val_or_str ⟨dy,fin⟩)
  |int j tj=>exact wpAny_getItem_str_slice (l:=some (i,ti)) (u:=some (j,tj)) (st:=none) hs rfl (post_val_or_str ⟨dy,fin⟩)
noncomputable def wjp:R2:=λx y H Q=>∃z n,x=.str z/\y=.int n/\(z.length<=1024/\n<=1024/\-1024<=n)/\Q (.str (Txt.mul z n)) H
theorem vxb:OpR X (binaryOp .Mult) wjp:=by
 intro pins s σ H x y v u Q I rx ry h;obtain⟨z,n,rfl,rfl,⟨h1,h2,h3⟩,q⟩:=h;obtain⟨t,rfl⟩:=rx;obtain⟨t',rfl⟩:=ry;exact SB.mul (mulOk_of 1024 1024 h1 h2 (by omega) (by decide) (by decide)) λt' k=>⟨.str _,H,I.tok k,⟨t',rfl⟩,q⟩
noncomputable def vva(K:PySem.W.Frag):V->Option Int->Option Int->Hp->VK->Prop:=λx lo hi H Q=>wxu K x lo hi H Q\/wxs K x lo hi H Q\/wxt x lo hi H Q
theorem ww4(K:PySem.W.Frag)(hK:autoParam (X.K=K) Ŕ):SlR X (vva K):=by subst hK;exact sl_list.or (sl_tup.or wjf)
noncomputable def qwq(K:PySem.W.Frag):List V->Hp->VK->Prop:=λxs H Q=>(∃p ys,xs=[.ref p]/\(SqL K H p ys\/SqT K H p ys)/\Q (.int ys.length) H)\/(∃z,xs=[.str z]/\z.length<=sizeLine/\Q (.int z.length) H)\/(∃a kvs,xs=[V.ref a]/\H a=some (.dK kvs)/\Q (.int kvs.length) H)
theorem vzo(K:PySem.W.Frag)(hK:autoParam (X.K=K) Ŕ):CallR X (.builtin "len") (qwq K):=by subst hK;exact call_len_seq.or (call_len_str.or vjk)
theorem vjo:CallR X (.type "int") (λxs H Q=>(∃i,xs=[.int i]/\Q (.int i) H)\/∃k,xs=[.bl k]/\Q (.int (if k then 1 else 0)) H):=vjm
theorem wkp(K:PySem.W.Frag){o e:Expr}{es:List Expr}{T:String}{name:Str}{id:String}{r:V->List V->Hp->VK->Prop}{to:TE}{t:TA}{apos ab:Pos}
  (pa:PlainAttrs T) (slot:Slot T name id) (my:typeOf (.builtin id)=pure (.type "method_descriptor")) (hm:MtR X id r) (ho:PE X o to) (ha:PA X (e::es) t)
  (ay:autoParam (attributeBase o name X.env (eval o X.env)=eval o X.env) Ŕ)
  (fz:autoParam (((backTo ab (starEach (e::es) X.env)).all (λx=>!x.1)&&(backToKw ab (keywordEach [] X.env)).all (λx=>x.1.isSome)
   && decide ((e::es).length+([]:List Keyword).length+(if([]:List Keyword).isEmpty then 0 else 1)<30))=true) Ŕ)
  (ax:autoParam ((apos.endLine==ab.line)=true) Ŕ) (hs:autoParam (starEach (e::es) X.env=(false,eval e X.env)::starEach es X.env) Ŕ) (bg:autoParam ((backTo ab (starEach es X.env)).any (·.1)=false) Ŕ) (hK:autoParam (X.K=K) Ŕ):
  PE X (.Call (.Attribute o name apos) (e::es) [] ab) (tBM K T r to t):=by subst hK;exact wwo pa slot my hm ho ha ay fz ax hs bg
theorem vjs:bootBuiltins "len"=some (.builtin "len"):=by decide +kernel
theorem kwu:bootBuiltins "isinstance"=some (.builtin "isinstance"):=by decide +kernel
theorem wv5:bootBuiltins "max"=some (.builtin "max"):=by decide +kernel
theorem wv4:bootBuiltins "min"=some (.builtin "min"):=by decide +kernel
theorem vjr:bootBuiltins "sorted"=some (.builtin "sorted"):=by decide +kernel
theorem qqi:bootBuiltins "int"=some (.type "int"):=by decide +kernel
theorem vjt:bootBuiltins "bool"=some (.type "bool"):=by decide +kernel
theorem W4:bootBuiltins "list"=some (.type "list"):=by decide +kernel
theorem kwt:bootBuiltins "tuple"=some (.type "tuple"):=by decide +kernel
end
theorem qqj:∀{ns:List Int} {m:Nat},PySem.W.WData.weightAll (ns.map PySem.W.WData.int)<=m->∀n∈ns,Builtin.Int.intBits n<=m
 | [],_,_,_,h=>nomatch h
 | a::r,m,h,n,hn=>by
  have h':(if a==0 then 0 else a.natAbs.log2+1)+1+PySem.W.WData.weightAll (r.map PySem.W.WData.int)<=m:=h;rcases List.mem_cons.mp hn with z|z
  ·subst z;have e:Builtin.Int.intBits n=(if n==0 then 0 else n.natAbs.log2+1):=rfl;rw[e];omega
  ·exact qqj (m:=m) (by omega) n z
theorem qk4{ns:List Int}(h:PySem.W.WData.layableAll [PySem.W.WData.list (ns.map PySem.W.WData.int)]=true):∀n∈ns,Builtin.Int.intBits n<=1048576:=by
 have h1:(PySem.W.WData.list (ns.map PySem.W.WData.int)).layable=true:=(PySem.W.layW_cons h).1;unfold PySem.W.WData.layable at h1;simp only[Bool.and_eq_true,decide_eq_true_eq]at h1;have h2:PySem.W.WData.weightAll (ns.map PySem.W.WData.int)<=2 ^ 20:=h1.2;exact qqj (by simpa using h2)
inductive D where
 |non|bl (b:Bool)|int (i:Int)|str (z:Str)|lst (xs:List D)|tup (xs:List D)
section
variable {X:Cx}{pins:List (Addr×Obj)}{σ:L2.St}{H:Hp}{s:Shared}
theorem in1_units(A:Around):A.in1.units<=A.units+1:=by
 first|exact X8 _|(show A.units+1<=A.units+1;exact X8 _)|(unfold Around.in1;simp)
end
section
variable {X:Cx}
noncomputable def qwp(K:PySem.W.Frag):List V->Hp->VK->Prop:=λxs H Q=>∃p ys,xs=[.ref p]/\(SqL K H p ys\/SqT K H p ys)/\∀l,H l=none->Q (.ref l) (upd H l (.lst ys))
theorem jzo(K:PySem.W.Frag)(hK:autoParam (X.K=K) Ŕ):CallR X (.type "list") (qwp K):=by subst hK;exact kzj
theorem vx7(K:PySem.W.Frag){o:Expr}{T:String}{name:Str}{id:String}{r:V->List V->Hp->VK->Prop}{to:TE}{apos ab:Pos}
  (pa:PlainAttrs T) (slot:Slot T name id) (my:typeOf (.builtin id)=pure (.type "method_descriptor")) (hm:MtR X id r) (ho:PE X o to)
  (ay:autoParam (attributeBase o name X.env (eval o X.env)=eval o X.env) Ŕ) (ax:autoParam ((apos.endLine==ab.line)=true) Ŕ) (hK:autoParam (X.K=K) Ŕ):
  PE X (.Call (.Attribute o name apos) [] [] ab) (wxq K T r to):=by subst hK;exact wkq pa slot my hm ho ay ax
end
abbrev LET:Str:="abcdefghijklmnopqrstuvwxyz"
abbrev Nm(n:Int):Prop:=-(10 ^ 60)<n/\n<10 ^ 60
noncomputable def Wd(z:Str):Prop:=1<=z.length/\z.length<=8/\∀ch∈z.cps.toList,ch∈LET.cps.toList
section
variable {X:Cx}{pins:List (Addr×Obj)}{σ:L2.St}{H:Hp}{s:Shared}
theorem jwi{t':Nat}{h':Heap}(fp:List Addr)(I:Inv X pins σ H s)(k:∀b o,b∉fp->s.heap.get? b=some o->h'.get? b=some o)(hf:∀b∈fp,wX X pins H b):Inv X pins σ H { s with heap:=h',toks:=t' }:=by
 have t8:∀b u,H b=some u->b∉fp:=λb u e z=>by rw[(hf b z).1]at e;cases e
 refine I.step (g':=s.gens) (d':=s.drawn) (ch:=fp) (λb hb=>?_) (λb o _ _ hc e _=>k b o hc e) (λb o _ _ hc e _=>⟨o.slots,k b o hc e⟩) (λ_ _ _ _ n=>n)
  (λb o hc e=>⟨o,k b o hc e⟩) (λ_ _ e=>e) (λ_ _ _ e=>e) (λb ps e=>⟨#[],by rw[e];simp⟩) (λm hm=>?_) (λb u e=>?_) I.bare
 ·obtain⟨_,f1,_,f3,f4,f5⟩:=hf b hb;exact⟨f3,f1,f4,f5⟩
 ·obtain⟨o,es,ep,ho,r⟩:=hm;exact⟨o,es,ep,k _ o (λz=>(hf _ z).2.1 rfl) ho,r⟩
 ·refine(I.hok b u e).stay (λc v hc q=>k c v ?_ q) (λ_ q=>q) λ_ _ q=>q
  rcases hc with z|z
  ·rw[z];exact t8 b u e
  ·exact t8 c _ z
end
section
variable {X:Cx}
noncomputable def qwr:List V->Hp->VK->Prop:=λxs H Q=>(∃i,xs=[.int i]/\Q (.int i) H)\/(∃k,xs=[.bl k]/\Q (.int (if k then 1 else 0)) H)\/∃(x:Str) (n:Int),xs=[.str x]/\PySem.intText? x=some n/\x.length<=640/\Q (.int n) H
theorem jzn:CallR X (.type "int") qwr:=by
 intro pins s σ H xs us Q I r h;rcases h with h|h|⟨x,n,rfl,hx,hl,q⟩
 ·exact vjo pins s σ H xs us Q I r (.inl h)
 ·exact vjo pins s σ H xs us Q I r (.inr h)
 ·obtain⟨u,rfl,t,rfl⟩:=Jx r;exact PySem.W.KIN.call_text hx hl ⟨.int n,H,I.tok _,⟨_,rfl⟩,q⟩
end
end L3
namespace L2
open PySem PySem.Spec PyProof.Rows
section
variable {X:Cx}{pins:List (Addr×Obj)}{σ:List (Option V)}{H H':Hp}{s:Shared}{h':Heap}
theorem Inv.stepN{g':Array GenState}{t':Nat}{d':Drawn}{ch:List Addr}(I:Inv X pins σ H s)
  (dq:∀b∈ch,(b∈X.ex\/X.s₀.heap.get? b=none)/\b≠X.env.locals/\(∀x c,X.env.cells.lookup x=some c->c≠b)/\∀p∈X.pn++pins,p.1≠b)
  (keep:∀b o,b≠X.env.locals->b∉X.fs->b∉ch->s.heap.get? b=some o->H b=none->h'.get? b=some o)
  (slot:∀b o,b≠X.env.locals->b∈X.fs->b∉ch->s.heap.get? b=some o->H b=none->∃sl,h'.get? b=some { o with slots:=sl }) (free:∀b o,b∉ch->s.heap.get? b=some o->H b=none->H' b=none)
  (there:∀b o,b∉ch->s.heap.get? b=some o->∃o',h'.get? b=some o')
  (tups:∀b xs,H b=some (.tup xs)->H' b=some (.tup xs)) (frzs:∀b o u,H b=some (.frz o u)->H' b=some (.frz o u)) (tbls:∀b ps,H b=some (.tbl ps)->∃more,H' b=some (.tbl (ps++more)))
  (ns:∀m,s.heap.Ns X.env.locals m->h'.Ns X.env.locals m) (hok:HOk X.prog X.w H' h') (hg:AllBare g'):
  Inv X pins σ H' { s with heap:=h',gens:=g',drawn:=d',toks:=t' }:=by
 have uo:∀b o,X.s₀.heap.get? b=some o->b≠X.env.locals:=λb o e=>Y1 (Xn (Xl e) I.ok.above)
 have ni:∀b o,X.s₀.heap.get? b=some o->b∉X.ex->b∉ch:=λb o e hx hb=>by
  rcases(dq b hb).1 with z|z
  ·exact hx z
  ·rw[z]at e;cases e
 have gw:∀x c,X.env.cells.lookup x=some c->∀v,s.heap.IsCell c v->h'.IsCell c v:=λx c e v ⟨o,ho,hd⟩=>by
  have lu:c∉ch:=λz=>(dq c z).2.2.1 x c e rfl
  by_cases hc:c∈X.fs
  ·obtain⟨sl,q⟩:=slot c o (I.cne x c e) hc lu ho (I.freeC x c e);exact⟨_,q,hd⟩
  ·exact⟨o,keep c o (I.cne x c e) hc lu ho (I.freeC x c e),hd⟩
 refine⟨I.ok,I.os,hg,⟨λb o e n hb hx=>?_,λb o e n hb hx=>?_,λb o e n hx=>?_,λb o e hx=>?_,λb xs e=>tups b xs (I.base.tups b xs e),λb o xs e=>frzs b o xs (I.base.frzs b o xs e),λb ps e=>?_⟩,?_,λx c e=>?_,?_,λx c e=>?_,λp hp=>?_,hok,I.len⟩
 ·exact keep b o (uo b o e) hb (ni b o e hx) (I.base.keep b o e n hb hx) (I.base.free b o e n hx)
 ·obtain⟨sl,e1⟩:=I.base.slot b o e n hb hx;obtain⟨sl',e2⟩:=slot b _ (uo b o e) hb (ni b o e hx) e1 (I.base.free b o e n hx);exact⟨sl',e2⟩
 ·obtain⟨o',e1⟩:=I.base.there b o e hx;exact free b o' (ni b o e hx) e1 (I.base.free b o e n hx)
 ·obtain⟨o',e1⟩:=I.base.there b o e hx;exact there b o' (ni b o e hx) e1
 ·obtain⟨m1,e1⟩:=I.base.tbls b ps e;obtain⟨m2,e2⟩:=tbls b _ e1;exact⟨m1++m2,by rw[e2,Array.append_assoc]⟩
 ·obtain⟨m,hn,hl⟩:=I.loc;refine⟨m,ns m hn,λi x v e1 e2 e3=>?_⟩;obtain⟨u,r,l⟩:=hl i x v e1 e2 e3;refine⟨u,r,?_⟩;rcases l with l|⟨k,c,e,z⟩
  ·exact .inl l
  ·exact .inr ⟨k,c,e,gw x c e _ z⟩
 ·obtain⟨v,z⟩:=I.cell x c e;exact⟨v,gw x c e v z⟩
 ·obtain⟨m,⟨o,_,_,ho,_⟩,_⟩:=I.loc;exact free _ o (λz=>(dq _ z).2.1 rfl) ho I.free
 ·obtain⟨v,o,ho,hd⟩:=I.cell x c e;exact free c o (λz=>(dq c z).2.2.1 x c e rfl) ho (I.freeC x c e)
 ·obtain⟨e,n,ne,nf,d⟩:=I.pin p hp;have lu:p.1∉ch:=λz=>(dq p.1 z).2.2.2 p hp rfl
  exact⟨keep p.1 p.2 ne nf lu e n,free p.1 p.2 lu e n,ne,nf,d⟩
theorem Inv.callN{g':Array GenState}{t':Nat}{d':Drawn}{ch:List Addr}(I:Inv X pins σ H s)(u:Un (frs X.stack) ch H H' s.heap h')(hok:HOk X.prog X.w H' h')(hg:AllBare g')
  (dq:∀b∈ch,(b∈X.ex\/X.s₀.heap.get? b=none)/\b≠X.env.locals/\(∀x c,X.env.cells.lookup x=some c->c≠b)/\∀p∈X.pn++pins,p.1≠b):
  Inv X pins σ H' { s with heap:=h',gens:=g',drawn:=d',toks:=t' }:=by
 obtain⟨m,⟨o,es,ep,ho,r⟩,_⟩:=id I.loc;obtain⟨sl,hL⟩:=u.any ho I.free λz=>(dq _ z).2.1 rfl
 exact I.stepN (ch:=ch) dq (λb o hL hb hc e n=>u.keep b o e n (λz=>(List.mem_cons.mp (I.stkSub b z)).elim hL hb) hc) (λb o _ _ hc e n=>u.any e n hc) (λb o hc e n=>u.free b o e n hc) (λb o hc e=>u.there b o e hc) u.tups u.frzs u.tbls (λm' hm=>by
  obtain⟨o',es',ep',mh,r'⟩:=hm;rw[ho]at mh;cases mh;exact⟨_,es',ep',hL,r'⟩) hok hg
end
end L2
namespace L3
open PySem PySem.Spec PyProof.Rows L2
theorem kko{e:Value}{env env0:Env}(h:env.frame=env0.frame):noteFrame e env=noteFrame e env0:=by
 unfold noteFrame PySem.frameOf;rw[h]
structure Fl0 (h:Heap)(x:Addr)(C:Value)(vs:Array Value):Prop where
 ob:h.get? x=some { cls:=C,data:=.fields vs }
 sz:1<vs.size
structure FlT (h:Heap)(x T:Addr)(C:Value)(fl:Value):Prop where
 ex:∃vs,h.get? x=some { cls:=C,data:=.fields vs }/\vs[1]?=some (.ref T)
 tb:∃oT ts,h.get? T=some oT/\oT.data=.fields ts/\ts[3]?=some fl
 ne:T≠x
structure Chg (fs ch:List Addr)(h h':Heap):Prop where
 keep:∀b o,h.get? b=some o->b∉fs->b∉ch->h'.get? b=some o
 slot:∀b o,h.get? b=some o->b∉ch->∃sl,h'.get? b=some { cls:=o.cls,dict:=o.dict,data:=o.data,slots:=sl }
 size:h.objs.size<=h'.objs.size
theorem Chg.trans{fs ch ch':List Addr}{h h1 h2:Heap}(a:Chg fs ch h h1)(b:Chg fs ch' h1 h2)(hc:∀x∈ch',x∈ch\/h.get? x=none):Chg fs ch h h2 where
 keep:=λx o e h1 h2=>b.keep x o (a.keep x o e h1 h2) h1 λz=>(hc x z).elim h2 λq=>by rw[q]at e;cases e
 slot:=λx o e hn=>by
  obtain⟨sl,e1⟩:=a.slot x o e hn;obtain⟨nq,e2⟩:=b.slot x _ e1 λz=>(hc x z).elim hn λq=>by rw[q]at e;cases e
  exact⟨nq,e2⟩
 size:=Y3 a.size b.size
theorem Chg.mono{fs ch ch':List Addr}{h h1:Heap}(a:Chg fs ch h h1)(hc:∀x∈ch,x∈ch'):Chg fs ch' h h1:=⟨λb o e h1 h2=>a.keep b o e h1 λz=>h2 (hc b z),λb o e h2=>a.slot b o e λz=>h2 (hc b z),a.size⟩
theorem Chg.of_upd{fs : List Addr}{h : Heap}{a : Addr}{f : Obj -> Obj}: Chg fs [a] h (h.update a f):=
  ⟨λb o e _ hn=>by rw[Yy _ _ _ _ (λz=>hn (List.mem_singleton.mpr z))]; exact e,
   λb o e hn=>⟨o.slots, by rw[Yy _ _ _ _ (λz=>hn (List.mem_singleton.mpr z))]; exact e⟩, by rw[Heap.size_update]; exact X8 _⟩
theorem Chg.of_push{fs:List Addr}{h:Heap}{o:Obj}:Chg fs [] h (h.push o):=
 ⟨λb o e _ _=>X6 _ e,λb o e _=>⟨o.slots,X6 _ e⟩,by rw[Heap.size_push];omega⟩
theorem Chg.of_slots{fs:List Addr}{h h':Heap}(s:Heap.SlotsOnly fs h h'):Chg fs [] h h':=
 ⟨λb o e hn _=>(s.2.1 b hn).trans e,λb o e _=>s.2.2 b o e,by rw[s.1];exact X8 _⟩
theorem Chg.refl{fs ch:List Addr}{h:Heap}:Chg fs ch h h:=⟨λ_ _ e _ _=>e,λb o e _=>⟨o.slots,e⟩,X8 _⟩
section
variable {M:Model}{A:Around}{E:Value->Shared->Prop}{s:Shared}{base:Heap}{env:Env}{outer:List Env}{L x T:Addr}{C fl:Value}
theorem kzd{head:Value}{hadNext:Bool}{vs:Array Value}{Q:Unit->Shared->Prop}(hA:A.frames=some (env::outer))(hF:s.heap.FunFrames base (env::outer))(hL:env.frame=some L)(ho:Fl0 s.heap x C vs)
  (h:∀h' T',Chg (frs (env::outer)) [x] s.heap h'->s.heap.objs.size<=T'->FlT h' x T' C (rawInt ↑L)->Q () { s with heap:=h' }):
  wpAny M A (do
   let a <-PySem.frameOf env
   let pl <-entryPlaceOf L hadNext
   let b <-EntryCells.newEntry head a Value.none (rawInt ↑L) Value.none pl
   setField (Value.ref x) 1 b) Q E s:=by
 refine X0 (wpAny_frameOf_fun hA hF hL λh1 s1=>?_);have hx:x∉frs (env::outer):=λz=>by
  obtain⟨_,o,e,hn⟩:=hF.mem z;rw[ho.ob]at e;cases e;exact hn _ rfl
 have o1:h1.get? x=some { cls:=C,data:=.fields vs }:=(s1.2.1 x hx).trans ho.ob;have fin:∀pl:List Value,IsPlace pl->wpAny M A (do
   let b <-EntryCells.newEntry head (Value.ref L) Value.none (rawInt ↑L) Value.none pl
   setField (Value.ref x) 1 b) Q E { s with heap:=h1 }:=λpl cg=>by
  refine X0 ?_;unfold EntryCells.newEntry newFields;have har:([head,Value.ref L,Value.none,rawInt ↑L,Value.none]++if pl.isEmpty=true then List.replicate 6 Value.none else pl).toArray[3]?=some (rawInt ↑L):=by simp
  have hsz:([head,Value.ref L,Value.none,rawInt ↑L,Value.none]++if pl.isEmpty=true then List.replicate 6 Value.none else pl).toArray.size<=sizeLine+2:=by
   rcases cg with rfl|⟨_,_,_,_,_,_,_,rfl⟩<;>simp<;>decide
  generalize ([head,Value.ref L,Value.none,rawInt ↑L,Value.none]++if pl.isEmpty=true then List.replicate 6 Value.none else pl).toArray=ar at har hsz;refine Y0 ?_ hsz;have o2:(h1.push { cls:=.type "traceback",data:=.fields ar }).get? x=some { cls:=C,data:=.fields vs }:=X6 _ o1;refine wpAny_setField (s:={ s with heap:=h1.push _ }) o2 rfl ho.sz ?_;have c9:h1.objs.size≠x:=λe=>absurd (Xl o1) (by rw[<-e];exact Yg _)
  have o3:((h1.push { cls:=.type "traceback",data:=.fields ar }).update x (Obj.mapFields λy=>y.setIfInBounds 1 (.ref h1.objs.size))).get? h1.objs.size=some { cls:=.type "traceback",data:=.fields ar }:=by
   rw[Yy _ _ _ _ c9];exact Xj _ rfl
  refine h _ h1.objs.size (((Chg.of_slots s1).mono (λ_ z=>nomatch z)).trans ((Chg.of_push.mono λ_ z=>nomatch z).trans (ch:=[x]) Chg.of_upd λy hy=>.inl hy) λy hy=>.inl hy) (by rw[s1.1];exact X8 _) ⟨⟨vs.setIfInBounds 1 (.ref h1.objs.size),?_,Array.getElem?_setIfInBounds_self_of_lt ho.sz⟩,⟨_,_,o3,rfl,har⟩,c9⟩;exact Heap.get?_update_self _ o2 rfl
 exact X0 (wpAny_entryPlaceOf λpl cg=>fin pl cg)
theorem wwt{vs:Array Value}{Q:Unit->Shared->Prop}(hA:A.frames=some (env::outer))(hF:s.heap.FunFrames base (env::outer))(hL:env.frame=some L)(ho:Fl0 s.heap x C vs)(hv:vs[1]?=some .none)
  (h:∀h' T',Chg (frs (env::outer)) [x] s.heap h'->s.heap.objs.size<=T'->FlT h' x T' C (rawInt ↑L)->Q () { s with heap:=h' }):wpAny M A (noteFrame (.ref x) env) Q E s:=by
 unfold noteFrame;rw[hL];refine X0 (Yl ho.ob rfl hv ?_);exact kzd (hadNext:=false) hA hF hL ho h
theorem upd3{T:Addr}{oT:Obj}{ts:Array Value}{v:Value}{h:Heap}(e:h.get? T=some oT)(ed:oT.data=.fields ts)(h3:3<ts.size):
  ∃o' ts',(h.update T (Obj.mapFields λy=>y.setIfInBounds 3 v)).get? T=some o'/\o'.data=.fields ts'/\ts'[3]?=some v:=by
 obtain⟨c,d,dt,sl⟩:=oT;cases(show dt=.fields ts from ed);exact⟨_,ts.setIfInBounds 3 v,Heap.get?_update_self _ e rfl,rfl,Array.getElem?_setIfInBounds_self_of_lt h3⟩
theorem wws{Q:Unit->Shared->Prop}(hA:A.frames=some (env::outer))(hF:s.heap.FunFrames base (env::outer))(hL:env.frame=some L)(f:FlT s.heap x T C fl)
  (h:∀h' T',Chg (frs (env::outer)) [x,T] s.heap h'->(s.heap.objs.size<=T'\/T'=T)->FlT h' x T' C (rawInt ↑L)->Q () { s with heap:=h' }):wpAny M A (noteFrame (.ref x) env) Q E s:=by
 obtain⟨⟨vs,e1,v1⟩,⟨oT,ts,e2,d2,v2⟩,c9⟩:=f;have h3:3<ts.size:=by
  rw[Array.getElem?_eq_some_iff]at v2;exact v2.1
 have h1:1<vs.size:=by
  rw[Array.getElem?_eq_some_iff]at v1;exact v1.1
 unfold noteFrame;rw [hL];refine X0 (Yl e1 rfl v1 ?_);show wpAny M A (if((Value.ref T != Value.none)=true)then _ else _) Q E s;rw [X9 (show(Value.ref T != Value.none)=true from rfl)];refine X0 (Yl e2 d2 v2 ?_)
 by_cases hf:(fl==rawInt ↑L)=true
 ·rw[X9 hf];have e:fl=rawInt ↑L:=eq_of_beq hf;subst e;exact X5 (h s.heap T Chg.refl (.inr rfl) ⟨⟨vs,e1,v1⟩,⟨oT,ts,e2,d2,v2⟩,c9⟩)
 ·rw[Xd hf];refine X0 (wpAny_setField e2 d2 h3 ?_);have c1:Chg (frs (env::outer)) [x,T] s.heap (s.heap.update T (Obj.mapFields λy=>y.setIfInBounds 3 Value.none)):=Chg.of_upd.mono λy hy=>by
   rw[List.mem_singleton.mp hy];simp
  have e1':(s.heap.update T (Obj.mapFields λy=>y.setIfInBounds 3 Value.none)).get? x=some { cls:=C,data:=.fields vs }:=by
   rw[Yy _ _ _ _ c9.symm];exact e1
  have hF':(s.heap.update T (Obj.mapFields λy=>y.setIfInBounds 3 Value.none)).FunFrames base (env::outer):=by
   refine hF.of_keeps λb o e hn=>⟨o,?_,rfl⟩
   rw[Yy _ _ _ _ λz=>?_]
   ·exact e
   ·rw[z,e2]at e;cases e;exact hn _ d2
  refine kzd (s:={ s with heap:=s.heap.update T _ }) (hadNext:=true) hA hF' hL ⟨e1',h1⟩ λh' T' c2 hs f'=>?_
  refine h h' T' (c1.trans (c2.mono (ch':=[x,T]) λy hy=>by rw[List.mem_singleton.mp hy];simp) λy hy=>.inl hy) (.inl ?_) f';rw[Heap.size_update]at hs;exact hs
theorem wqv{Q:Unit->Shared->Prop}{fr:Option Addr}(f:FlT s.heap x T C fl)(h:∀h',Chg (frs outer) [x,T] s.heap h'->FlT h' x T C (fr.elim Value.none λf=>rawInt ↑f)->Q () { s with heap:=h' }):wpAny M A (setFlight (.ref x) fr) Q E s:=by
 obtain⟨⟨vs,e1,v1⟩,⟨oT,ts,e2,d2,v2⟩,c9⟩:=f;have h3:3<ts.size:=by
  rw[Array.getElem?_eq_some_iff]at v2;exact v2.1
 unfold setFlight;refine X0 (Yl e1 rfl v1 ?_);rw[X9 (show(Value.ref T != Value.none)=true from rfl)];refine wpAny_setField e2 d2 h3 (h _ (Chg.of_upd.mono λy hy=>by rw[List.mem_singleton.mp hy];simp) ⟨⟨vs,?_,v1⟩,upd3 e2 d2 h3,c9⟩);rw[Yy _ _ _ _ c9.symm];exact e1
end
structure XCls (K:PySem.W.Frag)(C:Addr):Prop where
 ga:PySem.W.findIn K (.ref C) "__getattribute__"=some (some (.builtin "BaseException.__getattribute__"))
 gt:PySem.W.findIn K (.ref C) "__getattr__"=some none
 fo:PySem.W.findObj K C none "__class__"=some (.bind (.builtin "getset_descriptor.__get__") (.builtin "object.__class__"))
 ob:PySem.W.mroIn K C (.type "object")=some true
 bx:PySem.W.mroIn K C (.type "BaseException")=some true
 cl:(PySem.W.clsIn K C).isSome=true
noncomputable def FpX(X:Cx)(pins:List (Addr×Obj))(H:Hp)(b:Addr):Prop:=
 H b=none/\b≠X.env.locals/\b∉X.fs/\(b∈X.ex\/X.s₀.heap.get? b=none)/\(∀x c,X.env.cells.lookup x=some c->c≠b)/\∀p∈X.pn++pins,p.1≠b
section
variable {X:Cx}{pins:List (Addr×Obj)}{σ:L2.St}{H:Hp}{s:Shared}
theorem fpX{H':Hp}{b:Addr}(I:Inv X pins σ H s)(hb:s.heap.get? b=none)(hn:H' b=none):FpX X pins H' b:=by
 refine⟨hn,λz=>?_,λz=>?_,?_,λx c e z=>?_,λp hp z=>?_⟩
 ·obtain⟨m,⟨o,_,_,ho,_⟩,_⟩:=I.loc;rw[<-z,hb]at ho;cases ho
 ·obtain⟨_,o,e,_⟩:=I.ok.funs.mem z
  by_cases hx:b∈X.ex
  ·exact I.ok.exfs b hx z
  ·obtain⟨o',e'⟩:=I.base.there b o e hx;rw[hb]at e';cases e'
 ·by_cases hx:b∈X.ex
  ·exact .inl hx
  ·cases e:X.s₀.heap.get? b with
   |none=>exact .inr rfl
   |some o=>
    obtain⟨o',e'⟩:=I.base.there b o e hx;rw[hb]at e';cases e'
 ·obtain⟨v,o,ho,_⟩:=I.cell x c e;rw[z,hb]at ho;cases ho
 ·have:=(I.pin p hp).1;rw[z,hb]at this;cases this
theorem FpX.of{b:Addr}(h:wX X pins H b):FpX X pins H b:=⟨h.1,h.2.1,h.2.2.1,h.2.2.2.1.imp id λz=>Heap.get?_none_of_le z,h.2.2.2.2⟩
theorem qjw{h':Heap}{ch:List Addr}(I:Inv X pins σ H s)(c:Chg (frs X.stack) ch s.heap h')(hf:∀b∈ch,FpX X pins H b):Inv X pins σ H { s with heap:=h' }:=by
 refine I.callN (g':=s.gens) (t':=s.toks) (d':=s.drawn) (ch:=ch) ⟨λb o e _ h1 h2=>c.keep b o e h1 h2,λb o e _ _ h2=>c.slot b o e h2,λ_ _ _ n _=>n,λb o e h2=>?_,λ_ _ e=>e,λ_ _ _ e=>e,λ_ _ e=>⟨#[],by rw[e];simp⟩⟩ (λb u e=>?_) I.bare λb hb=>?_
 ·obtain⟨sl,q⟩:=c.slot b o e h2;exact⟨_,q⟩
 ·have no:∀d v,H d=some v->d∉frs X.stack/\d∉ch:=λd v e=>⟨λz=>(by rw[I.stkFree d z]at e;cases e),λz=>(by rw[(hf d z).1]at e;cases e)⟩
  refine(I.hok b u e).stay (λd v hc q=>?_) (λ_ q=>q) λ_ _ q=>q
  rcases hc with z|z
  ·rw[z]at q ⊢;exact c.keep b v q (no b u e).1 (no b u e).2
  ·exact c.keep d v q (no d _ z).1 (no d _ z).2
 ·obtain⟨_,f1,_,f3,f4,f5⟩:=hf b hb;exact⟨f3,f1,f4,f5⟩
end
structure Fx (X:Cx)(pins:List (Addr×Obj))(H:Hp)(h:Heap)(x:Addr)(C:Value):Prop where
 fp:FpX X pins H x
 st:(∃vs,Fl0 h x C vs/\vs[1]?=some .none)\/∃T fl,FlT h x T C fl/\FpX X pins H T
structure Xt (X:Cx)(pins:List (Addr×Obj))(σ:L2.St)(H:Hp)(x T:Addr)(C fl:Value)(s:Shared):Prop where
 inv:Inv X pins σ H s
 fx:FpX X pins H x
 fT:FpX X pins H T
 f:FlT s.heap x T C fl
theorem Xt.to{X:Cx}{pins:List (Addr×Obj)}{σ:L2.St}{H:Hp}{x T:Addr}{C fl:Value}{s:Shared}(h:Xt X pins σ H x T C fl s):Fx X pins H s.heap x C:=⟨h.fx,.inr ⟨T,fl,h.f,h.fT⟩⟩
noncomputable def Xo(X:Cx)(E:XK)(e:Value)(s:Shared):Prop:=∃pins σ H x C,e=.ref x/\Inv X pins σ H s/\Fx X pins H s.heap x C/\E C none H
noncomputable def zX(X:Cx)(E:XK):Prop:=∀pins σ H s x C,Inv X pins σ H s->Fx X pins H s.heap x C->E C none H->X.xe (.ref x) s
abbrev Cx.ex'(X:Cx)(E:XK):Cx:=X.wish (Xo X E)
theorem W1{X:Cx}{E:XK}:zX (Cx.ex' X E) E:=λpins σ H s x C I f q=>⟨pins,σ,H,x,C,rfl,I.unwish,⟨f.fp,f.st⟩,q⟩
noncomputable def JW(X:Cx):Prop:=∃env0 out,X.stack=env0::out/\X.env.frame=env0.frame
section
variable {X:Cx}{pins:List (Addr×Obj)}{σ:L2.St}{H:Hp}{s:Shared}{M:Model}{E':Value->Shared->Prop}{x T:Addr}{C fl:Value}
theorem qxj{A:Around}{Q:Unit->Shared->Prop}(top:JW X)(hA:A.frames=X.A.frames)(I:Inv X pins σ H s)(f:Fx X pins H s.heap x C)(h:∀L T s',X.env.frame=some L->Xt X pins σ H x T C (rawInt ↑L) s'->Q () s'):
  wpAny M A (noteFrame (.ref x) X.env) Q E' s:=by
 obtain⟨env0,out,e1,e2⟩:=top;have hF:=I.stack;have t9:A.frames=some (env0::out):=by rw[hA,I.ok.frames,e1]
 rw[e1]at hF;obtain⟨_,⟨L,o,hL,_⟩,_⟩:=id hF;rw[kko e2];have hL':X.env.frame=some L:=e2.trans hL;rcases f.st with⟨vs,f0,hv⟩|⟨T,fl,fT,pT⟩
 ·refine wwt t9 hF hL f0 hv λh' T' c hs nw=>h L T' _ hL' ⟨?_,f.fp,fpX I (Heap.get?_none_of_le hs) (I.hok.fresh hs),nw⟩
  rw[<-e1]at c;exact qjw I c λb hb=>by rw[List.mem_singleton.mp hb];exact f.fp
 ·refine wws t9 hF hL fT λh' T' c hs nw=>?_
  rw[<-e1]at c;refine h L T' _ hL' ⟨qjw I c λb hb=>?_,f.fp,?_,nw⟩
  ·simp only[Yh,Xw,or_false]at hb;rcases hb with rfl|rfl
   ·exact f.fp
   ·exact pT
  ·rcases hs with hs|hs
   ·exact fpX I (Heap.get?_none_of_le hs) (I.hok.fresh hs)
   ·rw[hs];exact pT
theorem kwl{A:Around}{Q:Unit->Shared->Prop}{fr:Option Addr}(t:Xt X pins σ H x T C fl s)(h:∀s',Xt X pins σ H x T C (fr.elim Value.none λf=>rawInt ↑f) s'->Q () s'):wpAny M A (setFlight (.ref x) fr) Q E' s:=by
 refine wqv (outer:=X.stack) t.f λh' c nw=>h _ ⟨qjw t.inv c λb hb=>?_,t.fx,t.fT,nw⟩
 simp only[Yh,Xw,or_false]at hb;rcases hb with rfl|rfl
 ·exact t.fx
 ·exact t.fT
theorem wks{α:Type}{A:Around}{what:String}{ly:Env}{Q:α->Shared->Prop}(t:Xt X pins σ H x T C fl s)(h:∀s' nw,Xt X pins σ H x T C nw s'->E' (.ref x) s'):wpAny M A (PySem.passOn what (.ref x) ly:Sem α) Q E' s:=by
 unfold PySem.passOn;obtain⟨vs,e1,v1⟩:=t.f.ex;refine X0 (Yl e1 rfl v1 ?_);rw[Xd (show ¬(Value.ref T==Value.none)=true by intro z;cases z)];refine X0 (kwl t λs' t'=>?_);exact wpAny_throw (h s' _ t')
theorem qxc{E:XK}(top:JW X):PassesOwn M X.A X.env (Xo X E):=by
 rintro e s' ⟨pins,σ,H,x,C,rfl,I,f,q⟩;unfold notedBy;refine qxj top rfl I f λL T s1 _ t=>?_
 unfold cameBackBy;obtain⟨vs,e1,v1⟩:=t.f.ex;refine X0 (Yl e1 rfl v1 ?_);rw[Xd (show ¬(Value.ref T==Value.none)=true by intro z;cases z)];exact kwl t λs2 t2=>⟨pins,σ,H,x,C,rfl,t2.inv,t2.to,q⟩
end
noncomputable def CXE(P:Program)(w:World):CXT:=λouter H s E e s'=>∃x T C fl H',e=.ref x/\s'.os=s.os/\AllBare s'.gens/\Un (frs outer) [] H H' s.heap s'.heap/\HOk P w H' s'.heap /\
 s.heap.get? x=none/\s.heap.get? T=none/\H' x=none/\H' T=none/\FlT s'.heap x T C fl/\E C none H'
theorem wwp{X:Cx}{E:XK}(g:zX X E):vk0 (CXE X.prog X.w) X E:=by
 rintro pins σ H s e s' I ⟨x,T,C,fl,H',rfl,os,bare,un,hok,hx,hT,nx,nT,f,q⟩;refine g pins σ H' s' x C (I.call' os un hok bare λb hb=>nomatch hb) ⟨fpX I hx nx,.inr ⟨T,fl,f,fpX I hT nT⟩⟩ q
theorem vw6{CX:CXT}{P:Program}{w:World}{K:PySem.W.Frag}{mg:Str->Option Value}{base:Heap}{N:List Str}{qual:Str}{scope:Scope}{f:Addr}{cd:Value}{A:Around}{outer:List Env}{s:Shared}{H:Hp}{E:XK}:
  JW (JJ CX P w K mg base N qual scope f cd A outer s H E):=⟨_,_,rfl,rfl⟩
theorem qz2{P:Program}{w:World}{K:PySem.W.Frag}{mg:Str->Option Value}{base:Heap}{N:List Str}{qual:Str}{scope:Scope}{f:Addr}{cd:Value}{A:Around}{outer:List Env}{s:Shared}{H:Hp}{E:XK}{e:Value}{s':Shared}
  (h:Xo (JJ (CXE P w) P w K mg base N qual scope f cd A outer s H E) E e s'):(JJ (CXE P w) P w K mg base N qual scope f cd A outer s H E).xe e s':=by
 obtain⟨pins,σ,H',x,C,rfl,I,fx,q⟩:=h;show wpAny (model P w) _ (leaving _ (.ref x)) _ _ s';unfold leaving;refine X0 (qxj (X:=JJ (CXE P w) P w K mg base N qual scope f cd A outer s H E) vw6 rfl I fx λL T s1 _ t=>?_);refine kwl t λs2 t2=>?_
 have ge:∀b,FpX (JJ (CXE P w) P w K mg base N qual scope f cd A outer s H E) pins H' b->s.heap.get? b=none:=λb hb=>hb.2.2.2.1.elim (λz=>nomatch z) λz=>z
 exact⟨x,T,C,_,H',rfl,t2.inv.os,t2.inv.bare,t2.inv.base,t2.inv.hok,ge x t2.fx,ge T t2.fT,t2.fx.1,t2.fT.1,t2.f,q⟩
section
variable {P:Program}{w:World}{K:PySem.W.Frag}{mg:Str->Option Value}{base:Heap}
theorem qv{x qual:Str}{st:Stmt}{f:Addr}{fd:FuncData}{N ps:List Str}{k:Nat}{sp:Sp}(F:Fun K x qual st f fd)(S:FnScope N ps (kw st))(len:∀vs H Q E,sp vs H Q E->vs.length=ps.length)
  (lj:∀(aq:Value) (A:Around) (outer:List Env) (s:Shared) (H:Hp) (vs:List V) (Q:VK) (E:XK),Room k (A.deeper (envOfC qual (kw st) s.heap.objs.size f aq))->sp vs H Q E ->
   ∃t,PSs (Cx.ex' (JJ (CXE P w) P w K mg base N qual (kw st) f aq A outer s H E) E) (Q6 st) t/\t { nx:=λ_ H'=>Q .non H',rt:=Q } (L2.start N vs) H):FnOk P w K mg base (CXE P w) (k+1) f fd ps sp:=by
 obtain⟨oc,od,kV,gi,pm,an,aq,ct,o7,rfl,lk,iw⟩:=F.ex;refine wx9 lk iw S len λA outer s H vs Q E hr o5=>?_
 obtain⟨t,h,q⟩:=lj aq A outer s H vs Q E hr o5;exact⟨t,λpins s' σ H' D I hw=>wpAny_mono (h pins s' σ H' D (I.wish _) hw) (λf ml z=>z.unwish) λe ml z=>qz2 z,q⟩
noncomputable def kK(P:Program)(w:World)(K:PySem.W.Frag)(mg:Str->Option Value)(base:Heap)(k:Nat)(x:Str)(ps:List Str)(sp:Sp):Prop:=
 ∃(f:Addr) (fd:FuncData),FnOk P w K mg base (CXE P w) k f fd ps sp/\Binds K fd ps []/\PySem.W.keepIn K (.ref f)=true/\mg x=some (.ref f)
end
section
variable {X:Cx}{x:Str}{p pos:Pos}{e:Expr}{es:List Expr}{t:TA}{ps:List Str}{sp:Sp}{k:Nat}{v:V}{E:XK}
theorem vvk(D:kK X.prog X.w X.K X.mg X.base k x ps sp)(hr:Room k X.A)(g:zX X E)(ha:PA X (e::es) t)(hg:autoParam (Gl X x) Ŕ)(fy:autoParam ((x==("__debug__":Str))=false) ŕ)
  (he:autoParam (starEach (e::es) X.env=(false,eval e X.env)::starEach es X.env) Ŕ) (cg:autoParam ((backTo pos (starEach es X.env)).any (·.1)=false) Ŕ):
  PE X (.Call (.Name x p) (e::es) [] pos) (wja sp [] E t):=by
 obtain⟨f,fd,F,b,kp,m⟩:=D;exact vx6 F hr hg m kp b .nil (wwp g) ha fy he cg
end
abbrev lcE(X:Cx)(scope:Scope)(N:List Str)(cl:List (Str×Addr))(C:Addr)(s0:Shared)(H0:Hp)(fp:List Addr)(EX:XK):Cx:=Cx.ex' (lcX X scope N cl C s0 H0 fp) EX
section
variable {prog:Program}{w:World}{A:Around}{R:Result->Shared->Prop}{s:Shared}
theorem vxq{f8 dz iter:Expr}{em:List Expr}{scope:Scope}{pos:Pos}{it acc:Value}{env:Env}(Ex:Value->Shared->Prop)(I:Nat->Shared->Prop)
  (fb:∀n s,I n s->wpAny (model prog w) A (pyNext it) (λr s1=>match r with
   | none=>R (.ok .next) s1
   | some v=>wpAny (model prog w) A (letOwnedTupleGo dz it v) (λ_ s2=>wpAny (model prog w) A (assign dz env v) (λ_ s3=>
     wpAny (model prog w) A (qz5 em env) (λok s4=>
      if ok=true then
       wpAny (model prog w) A (eval f8 env) (λx s5=>wpAny (model prog w) A (call (.builtin "list.append") [acc,x]) (λ_ s6=>∃m,m<n/\I m s6) Ex s5) Ex s4
      else ∃m,m<n/\I m s4) Ex s3) Ex s2) Ex s1) Ex s)
  (hx:∀e s,Ex e s->notedBy (model prog w) A env (λe s'=>R (.error e) s') e s) (n:Nat) (h:I n s):codeAny (model prog w) A (.compLoop (.ListComp f8 [⟨dz,iter,em,0⟩] scope pos) 0 it acc env) R s:=by
 refine codeAny_loop rfl I (λn s hI=>?_) n h;show wpAny _ A ((compTurn (.ListComp f8 [⟨dz,iter,em,0⟩] scope pos) 0 it acc env).onRaise _) _ _ s;refine wpAny_noted ?_;rw[compTurn_list];refine wpAny_mono (E:=Ex) (X0 (wpAny_standAt (X0 (thn (fb n s hI) λr s1 h1=>?_)))) (λ_ _ q=>q) (λe s q=>?_)
 rotate_left
 ·exact hx e s q
 cases r with
 |none=>exact X5 h1
 |some v=>
  refine X0 (thn h1 λ_ s2 h2=>?_);refine X0 (thn h2 λ_ s3 h3=>?_);refine X0 (thn h3 λok s4 h4=>?_);cases ok with
  |false=>exact X5 ⟨rfl,h4⟩
  |true=>exact X0 (X0 (thn h4 λx s5 h5=>X0 (thn h5 λ_ s6 h6=>X5 (X5 ⟨rfl,h6⟩))))
end
section
variable {X:Cx}{tg iter f8:Expr}{em:List Expr}{scope:Scope}{N:List Str}{k:Nat}{R:List Nat}{g:TG}{tt:TT}{te:TE}{pos:Pos}
theorem vvq{EX:XK}{pins ci:List (Addr×Obj)}{σ σ':L2.St}{H2 H':Hp}{s2 s':Shared}{fp:List Addr}{cl:List (Str×Addr)}{C x T:Addr}{Cc fl:Value}{Q:Value->Shared->Prop}{acc:Value}{use:Option (Value->Sem Unit)}(gx:zX X EX)
  (I2:Inv X pins σ H2 s2) (f2:∀b∈fp,wX X pins H2 b) (hC:s2.heap.objs.size<=C) (t:Xt (lcX X scope N cl C s2 H2 fp) ci σ' H' x T Cc fl s') (q:EX Cc none H'):
  compPost (model X.prog X.w) X.A X.xe use Q acc C (.error (.ref x)) s':=by
 obtain⟨m,hn,_⟩:=t.inv.loc;refine⟨m,hn,λh' sb ly _=>?_⟩;have J1:Inv X pins σ H' s':=I2.call' t.inv.os t.inv.base t.inv.hok t.inv.bare λb hb=>⟨(f2 b hb).2.2.2.1,(f2 b hb).2.1,(f2 b hb).2.2.2.2.1,(f2 b hb).2.2.2.2.2⟩
 have fC:wX X pins H' C:=I2.fpOk hC t.inv.free;have J2:Inv X pins σ H' { s' with heap:=h',toks:=s'.toks }:=J1.turned (it:=C) (λb o hb e=>(sb.2 b hb).trans e) fC.1 fC.2.1 fC.2.2.2.1 fC.2.2.2.2.1 fC.2.2.2.2.2;have fp':∀b,FpX (lcX X scope N cl C s2 H2 fp) ci H' b->FpX X pins H' b:=λb hb=>by
  rcases hb.2.2.2.1 with z|z
  ·exact⟨hb.1,(FpX.of (f2 b z)).2⟩
  ·exact fpX I2 z hb.1
 have nx:x≠C:=t.fx.2.1;have nT:T≠C:=t.fT.2.1;have f:FlT h' x T Cc fl:=by
  obtain⟨⟨vs,e1,v1⟩,⟨oT,ts,e2,d2,v2⟩,c9⟩:=t.f;exact⟨⟨vs,(sb.2 x nx).trans e1,v1⟩,⟨oT,ts,(sb.2 T nT).trans e2,d2,v2⟩,c9⟩
 refine wks (X:=X) (pins:=pins) (σ:=σ) (H:=H') (s:={ s' with heap:=h' }) ⟨J2,fp' x t.fx,fp' T t.fT,f⟩ λs3 nw t3=>gx pins σ H' s3 x Cc t3.inv t3.to q
theorem kz4{EX:XK}{pins:List (Addr×Obj)}{σ:L2.St}{H2:Hp}{s2:Shared}{it:Addr}{fp:List Addr}{tn:Nat->Heap->Prop}{J:It}{Q:VK}{W:Nat->Nat->List V->L2.St->Hp->Prop}{cl:List (Str×Addr)}{E:Value->Shared->Prop}
  {RR:Value->Addr->Result->Shared->Prop} (hc:X.calm=true) (top:JW X) (sc:LcOk X scope N k R)
  (f9:∀x c,cl.lookup x=some c->X.env.cells.lookup x=some c) (b9:∀y∈scope.names,y.2=.free->∃c,cl.lookup y.1=some c)
  (hg:∀C s0 H0 fp,PG (lcE X scope N cl C s0 H0 fp EX) tg g) (ht:∀C s0 H0 fp,PTs (lcE X scope N cl C s0 H0 fp EX) em tt) (he:∀C s0 H0 fp,PE (lcE X scope N cl C s0 H0 fp EX) f8 te)
  (I2:Inv X pins σ H2 s2) (T:Turn X.prog X.w X.K tg J fp it tn) (b7:tn 0 s2.heap) (f2:∀b∈fp,wX X pins H2 b) (w0:∃m,W 0 m [] (JQ k R σ) H2) (fb:LcW g tt te Q J W)
  (hRR:∀D C oC m ys H' s',Inv X (pins++[(C,oC)]) σ (upd H' D (.lst ys)) s'->s'.heap.get? C=some oC->s'.heap.Ns C m->wX X pins (upd H' D (.lst ys)) C->Q (.ref D) (upd H' D (.lst ys))->RR (.ref D) C (.ok .next) s')
  (hER:∀D C s' ci σ' H' x T Cc fl,s2.heap.objs.size<=C->Xt (lcX X scope N cl C s2 H2 fp) ci σ' H' x T Cc fl s'->EX Cc none H'->RR (.ref D) C (.error (.ref x)) s'):
  wpAny (model X.prog X.w) X.A (newList []) (λacc s3=>wpAny (model X.prog X.w) X.A (newFunctionEnv scope X.env.globals cl [] X.env.qual none .none (some X.env)) (λly s4=>
   codeAny (model X.prog X.w) X.A (.compStart (.ListComp f8 [⟨tg,iter,em,0⟩] scope pos) 0 (.ref it) acc { ly with scope:=relabel scope X.env }) (RR acc ly.locals) s4) E s3) E s2:=by
 have tp:∀b∈fp,∃o,s2.heap.get? b=some o:=λb hb=>let ⟨o,e,_⟩:=T.obj 0 _ b7 b hb;⟨o,e⟩
 refine Y0 (wpAny_newFunctionEnv sc.nocell (by intro y hy;simp at hy) (λh1 j' u5=>?_) sc.kind);dsimp only at j' u5 ⊢;generalize eH:s2.heap.push { cls:=.type "list",dict:=none,data:=.seq ([]:List Value).toArray }=Hx at j' u5 ⊢;have eC:Hx.objs.size=s2.heap.objs.size+1:=by rw[<-eH,Heap.size_push]
 generalize eD:s2.heap.objs.size=D at eC;generalize eC':Hx.objs.size=C at j' u5 eC ⊢;have rg:D≠C:=by omega
 have hC:s2.heap.objs.size<=C:=by omega
 have hD:s2.heap.objs.size<=D:=by omega
 have gh:∀b o,s2.heap.get? b=some o->h1.get? b=some o:=λb o e=>by
  exact u5.extBut b o (Y1 (Xn (Xl e) hC)) (X6 _ (eH▸X6 _ e))
 have accD:h1.get? D=some (Zq [] 0):=by
  refine u5.extBut _ _ rg (X6 _ ?_);rw [<-eH,<-eD];exact Xj _ rfl
 have md:∀b∈fp,b≠D/\b≠C:=λb hb=>by
  obtain⟨o,e⟩:=tp b hb;exact⟨Y1 (Xn (Xl e) hD),Y1 (Xn (Xl e) hC)⟩
 have ir:∀{H':Hp} {oD:Obj},(∀b∈fp,H' b=none)->∀b∈fp,wX (lcE X scope N cl C s2 H2 fp EX) [(D,oD)] H' b:=fun {H' oD} hn b hb=>by
  obtain⟨_,f1,f3,f4,f5,f6⟩:=f2 b hb;refine⟨hn b hb,(md b hb).2,λz=>?_,.inl hb,λx c h=>f5 x c (f9 x c h),λp hp=>?_⟩
  ·rcases List.mem_cons.mp (I2.stkSub b z)with y|y
   ·exact f1 y
   ·exact f3 y
  ·have e:p=(D,oD):=by
    have hp:p∈([]++[(D,oD)]:List (Addr×Obj)):=hp
    simpa using hp
   rw [e];exact(md b hb).1.symm
 have lr:∀s3:Shared,s3={ s2 with heap:=h1,toks:=s2.toks+([]:List (Str×Value)).length } ->
   codeAny (model X.prog X.w) X.A (.compLoop (.ListComp f8 [⟨tg,iter,em,0⟩] scope pos) 0 (.ref it) (.ref D) (compEnvC scope cl C X.env)) (RR (.ref D) C) s3:=by
  rintro s3 rfl;obtain⟨m0,w0⟩:=w0;have hxx:∀e s,Xo (lcX X scope N cl C s2 H2 fp) EX e s->notedBy (model X.prog X.w) X.A (compEnvC scope cl C X.env) (λe s'=>RR (.ref D) C (.error e) s') e s:=by
   rintro e s ⟨ci,σ',H',x,Cc,rfl,I',f',q'⟩;have top':JW (lcX X scope N cl C s2 H2 fp):=top;exact qxj (X:=lcX X scope N cl C s2 H2 fp) top' rfl I' f' λL T s1 _ t=>hER D C s1 ci σ' H' x T Cc _ hC t q'
  refine vxq (Xo (lcX X scope N cl C s2 H2 fp) EX) (λn s'=>∃i ys aa nn σ' H',Inv (lcE X scope N cl C s2 H2 fp EX) [(D,Zq aa nn)] σ' H' s'/\Vals ys aa/\tn i s'.heap/\(∀b∈fp,H' b=none)/\W i n ys σ' H') ?_ hxx m0
   ⟨0,[],[],0,_,H2,(vxo I2 sc f2 tp hC hD rg f9 b9 gh j' accD (λv z=>by cases z)).wish _,.nil,T.keep _ _ _ b7 (λb hb o e=>gh b o e),λb hb=>(f2 b hb).1,w0⟩
  rintro n s3 ⟨i,ys,aa,nn,σ3,H3,I3,rv,cw,qp,w3⟩;rcases fb i n ys σ3 H3 w3 with⟨stop,hz,qn⟩|⟨go,step⟩
  ·refine thn (T.done (lcE X scope N cl C s2 H2 fp EX) rfl rfl rfl hc i _ s3 σ3 H3 _ I3 (ir qp) cw stop) λr s4 ⟨hr,I4⟩=>?_
   subst hr;show RR (.ref D) C (.ok .next) s4;have hD4:=I4.pin (D,Zq aa nn) (by show _∈([]++[(D,Zq aa nn)]:List (Addr×Obj));simp);have J1:Inv X pins σ H3 s4:=I2.call' I4.os I4.base I4.hok I4.bare λb hb=>⟨(f2 b hb).2.2.2.1,(f2 b hb).2.1,(f2 b hb).2.2.2.2.1,(f2 b hb).2.2.2.2.2⟩
   have fD:wX X pins H3 D:=I2.fpOk hD hD4.2.1;have fC:wX X pins H3 C:=I2.fpOk hC I4.free;have J2:Inv X pins σ (upd H3 D (.lst ys)) s4:=kkt J1 hD4.2.1 fD.2.1 fD.2.2.2.1 fD.2.2.2.2.1 fD.2.2.2.2.2 ⟨hz,aa,nn,rv,hD4.1⟩;obtain⟨mC,nC,_⟩:=I4.loc;obtain⟨oC,es,ep,hoC,hdC,oe⟩:=id nC;have fC':wX X pins (upd H3 D (.lst ys)) C:=⟨by rw[v4 rg.symm];exact fC.1,fC.2⟩;refine hRR D C oC mC ys H3 s4 (J2.pins_of λp hp=>?_) hoC nC fC' (qn D hD4.2.1);rcases List.mem_append.mp hp with z|z
   ·exact J2.pin p (lr9 _ z)
   ·rw[List.mem_singleton.mp z];exact⟨hoC,fC'.1,fC'.2.1,fC'.2.2.1,λv y=>by rw[hdC]at y;cases y⟩
  ·refine thn (T.item (lcE X scope N cl C s2 H2 fp EX) rfl rfl rfl hc i _ s3 σ3 H3 _ I3 (ir qp) cw go) λr s4 ⟨u,hr,h4⟩=>?_
   subst hr;refine thn h4 λ_ s5 ⟨x,H5,I5,r5,y5,n6,fr5⟩=>?_
   have I5':=I5.pinned (ir fr5) (T.obj _ _ n6);have jp:∀{σ':L2.St} {H':Hp} {s':Shared} {pl:List (Addr×Obj)},Inv (lcE X scope N cl C s2 H2 fp EX) (pl++V0 fp s5.heap) σ' H' s'->tn (i+1) s'.heap/\∀b∈fp,H' b=none:=fun {σ' H' s' pl} I'=>by
    have q:∀b∈fp,∀o,s5.heap.get? b=some o->s'.heap.get? b=some o/\H' b=none:=λb hb o e=>by
     obtain⟨a1,a2,_⟩:=I'.pin (b,o) (lr9 _ (lr9 _ (kj5 hb e)));exact⟨a1,a2⟩
    refine⟨T.keep _ _ _ n6 λb hb o e=>(q b hb o e).1,λb hb=>?_⟩;obtain⟨o,e,_⟩:=T.obj _ _ n6 b hb;exact(q b hb o e).2
   refine thn (hg C s2 H2 fp _ s5 σ3 H5 x u _ I5' r5 (step x H5 y5)) λ_ s6 ⟨σ6,H6,I6,Ny,Nn,hNy,hNn,q6⟩=>?_
   refine thn (ht C s2 H2 fp _ s6 σ6 H6 _ I6 q6) λok s7 ⟨H7,I7,q7⟩=>?_
   cases ok with
   | false=>
    obtain⟨m',hm,w7⟩:=hNn _ q7;exact⟨m',hm,i+1,ys,aa,nn,σ6,H7,I7.unpinned,rv,(jp I7).1,(jp I7).2,w7⟩
   | true=>
    refine thn (he C s2 H2 fp _ s7 σ6 H7 _ I7 q7) λu8 s8 ⟨y,H8,I8,r8,q8⟩=>?_
    obtain⟨hz,m',hm,w8⟩:=hNy _ _ q8;have pD:=I8.pin (D,Zq aa nn) (lr9 _ (ll9 _ (List.mem_singleton.mpr rfl)));have ae:=rv.length;refine append_at (hsz:=by rw[X7];omega) pD.1 λh9 sb9 e9=>?_
    have I8a:Inv (lcE X scope N cl C s2 H2 fp EX) ([]++V0 fp s5.heap) σ6 H8 s8:=I8.pins_of λp hp=>I8.pin p (lr9 _ (lr9 _ hp))
    have I9:Inv (lcE X scope N cl C s2 H2 fp EX) ([]++V0 fp s5.heap) σ6 H8 { s8 with heap:=h9,toks:=s8.toks }:=I8a.turned (it:=D) (λb o hb e=>(sb9.2 b hb).trans e) pD.2.1 rg (.inr hD)
     (λx c h z=>by
      obtain⟨v,q⟩:=I2.cell x c (f9 x c h);exact absurd (Xn q.lt (by rw[z];exact hD)) (Yg _))
     (λp hp z=>by
      have hp:p∈([]++([]++V0 fp s5.heap):List (Addr×Obj)):=hp;have hp:p∈V0 fp s5.heap:=by simpa using hp
      exact(md p.1 (kxy hp).1).1 z)
    have e9':h9.get? D=some (Zq (aa++[u8]) (nn+1)):=by rw[e9];simp[List.push_toArray]
    refine⟨m',hm,i+1,ys++[y],aa++[u8],nn+1,σ6,H8,I9.pins_of λp hp=>?_,rv.append (.cons r8 .nil),(jp I9).1,(jp I9).2,w8⟩;rw[List.mem_singleton.mp hp];exact⟨e9',pD.2.1,pD.2.2.1,pD.2.2.2.1,λv z=>by cases z⟩
 exact codeAny_compStart_list (lr _ rfl) (T.self _ 0 _ _ _ (T.keep _ _ _ b7 λb hb o e=>gh b o e) (lr _ rfl))
theorem wkn{EX:XK}{wi:TI}(N:List Str)(k:Nat)(R:List Nat)(hi:PI X tg iter wi)
  (hg:∀cl C s0 H0 fp,PG (lcE X scope N cl C s0 H0 fp EX) tg g) (ht:∀cl C s0 H0 fp,PTs (lcE X scope N cl C s0 H0 fp EX) em tt) (he:∀cl C s0 H0 fp,PE (lcE X scope N cl C s0 H0 fp EX) f8 te)
  (gx:zX X EX) (top:JW X) (hc:autoParam (X.calm=true) Ŕ) (hk:autoParam (scope.kind=.function) Ŕ) (m5:autoParam (W9 X.N X.env.scope scope N k R=true) Ŕ) (hs:autoParam (∀x,foldedSetIterable iter X.env x=pure x) Ŗ):
  PE X (.ListComp f8 [⟨tg,iter,em,0⟩] scope pos) (tLC wi g tt te k R):=by
 intro pins s σ H Q I h;have sc:=qkz hk m5;obtain⟨cl,lm,f9,b9⟩:=kvi (scope:=scope) (env:=X.env) λy hy e=>I.ok.has y.1 (sc.caps y hy e)
 rw[eval_ListComp];refine wpAny_comprehension_free (use:=none) rfl hs lm sc.kind sc.names (thn (hi pins s σ H _ I h) λv s1 h1=>thn h1 λitv s2 h2=>?_);obtain⟨it,fp,tn,J,H2,e,I2,T,b7,f2,W,w0,fb⟩:=h2;subst e;refine kz4 (EX:=EX) (RR:=λacc C=>compPost (model X.prog X.w) X.A X.xe none (EP X pins σ Q) acc C) hc top sc f9 b9 (hg cl) (ht cl) (he cl) I2 T b7 f2 w0 fb ?_ ?_
 rotate_left
 ·intro D C s' ci σ' H' x T Cc fl hC t q;exact vvq gx I2 f2 hC t q
 intro D C oC m ys H' s' I' _ nC fC q;exact⟨m,nC,λh' sb=>⟨.ref D,_,I'.unpinned.turned (it:=C) (t':=s'.toks) (λb o hb e=>(sb.2 b hb).trans e) fC.1 fC.2.1 fC.2.2.2.1 fC.2.2.2.2.1 fC.2.2.2.2.2,rfl,q⟩⟩
end
structure ExAt (K:PySem.W.Frag)(x:Addr)(ox:Obj)(C:Addr):Prop where
 cls:ox.cls=.ref C
 no:PySem.W.notCls ox=true
 di:ox.dict=none
 xc:XCls K C
end L3
namespace Q
open PySem
inductive D where
 |non|bl (b:Bool)|int (i:Int)|str (z:Str)|tup (xs:List D)|lst (xs:List D)|dct (kvs:List (D×D))|obj (c:Str) (fs:List (Str×D))
instance:DecidableEq D:=λa b=>Classical.propDecidable (a=b)
instance:Inhabited D:=⟨.non⟩
mutual
noncomputable def D.pure:D->Bool
 |.tup xs=>D.pures xs
 |.lst _=>false
 |.dct _=>false
 |.obj _ _=>false
 |_=>true
noncomputable def D.pures:List D->Bool
 |[]=>true
 |a::x=>D.pure a&&D.pures x
end
theorem D.pures_all:∀xs:List D,D.pures xs=xs.all D.pure
 |[]=>by simp[D.pures]
 |a::x=>by rw[D.pures,List.all_cons,D.pures_all x]
@[simp] theorem D.pures_map {α:Type}(f:α->D)(xs:List α)(h:∀x∈xs,(f x).pure=true):D.pures (xs.map f)=true:=by
 rw[D.pures_all,List.all_eq_true];intro d hd;obtain⟨x,hx,rfl⟩:=List.mem_map.mp hd;exact h x hx
mutual
noncomputable def peq:D->D->Bool
 |.non,.non=>true
 |.bl a,.bl b=>a==b
 |.bl a,.int b=>(if a then 1 else 0)==b
 |.int a,.bl b=>a==(if b then 1 else 0)
 |.int a,.int b=>a==b
 |.str a,.str b=>a==b
 |.lst as,.lst bs=>peqs as bs
 |.tup as,.tup bs=>peqs as bs
 |_,_=>false
noncomputable def peqs:List D->List D->Bool
 |[],[]=>true
 |a::as,b::bs=>peq a b&&peqs as bs
 |_,_=>false
end
mutual
noncomputable def D.flat:Nat->D->Bool
 |0,.tup _=>false
 |0,.lst _=>false
 |n+1,.tup xs=>D.flats n xs
 |n+1,.lst xs=>D.flats n xs
 |_,.dct _=>false
 |_,.obj _ _=>false
 |_,_=>true
noncomputable def D.flats:Nat->List D->Bool
 |_,[]=>true
 |n,a::x=>D.flat n a&&D.flats n x
end
mutual
noncomputable def k7:Nat->D->Bool
 |_,.non=>true
 |_,.int _=>true
 |n+1,.tup xs=>keyDs n xs
 |_,_=>false
noncomputable def keyDs:Nat->List D->Bool
 |_,[]=>true
 |n,a::x=>k7 n a&&keyDs n x
end
noncomputable def unm : List (D × D) -> Bool
  |(.str _, _)::_=>false
  |_=>true
inductive Own where
 |no|rt|dp
 deriving DecidableEq
abbrev Sd:=Own×D
abbrev En:=List (Option Sd)
inductive Res (α:Type) where
 |ok (E:En) (a:α)
 |exc (E:En) (c:Str)
abbrev Ev(α:Type):=En->Option (Res α)
abbrev Ex:=Ev Sd
noncomputable def bnd{α β:Type}(m:Option (Res α))(f:En->α->Option (Res β)):Option (Res β):=
 match m with
 |some (.ok E a)=>f E a
 |some (.exc E c)=>some (.exc E c)
 |none=>none
@[simp] theorem wzi {α β:Type}(E:En)(a:α)(f:En->α->Option (Res β)):bnd (some (.ok E a)) f=f E a:=rfl
@[simp] theorem wxh {α β:Type}(E:En)(c:Str)(f:En->α->Option (Res β)):bnd (some (.exc E c)) f=some (.exc E c):=rfl
@[simp] theorem wvq {α β:Type}(f:En->α->Option (Res β)):bnd none f=none:=rfl
noncomputable def val{α:Type}(E:En)(x:Option α):Option (Res α):=x.map (Res.ok E)
@[simp] theorem wvf {α:Type}(E:En)(x:α):val E (some x)=some (.ok E x):=rfl
@[simp] theorem wvg {α:Type}(E:En):val E (none:Option α)=none:=rfl
def cC(d:D):Ex:=λE=>some (.ok E (.dp,d))
noncomputable def cV(i:Nat):Ex:=λE=>match E[i]? with
 |some (some (_,d))=>some (.ok (E.set i (some (.no,d))) (.no,d))
 |_=>none
noncomputable def cMv(i:Nat):Ex:=λE=>match E[i]? with
 |some (some x)=>some (.ok (E.set i none) x)
 |_=>none
noncomputable def vV(i:Nat):Ex:=λE=>match E[i]? with
 |some (some x)=>some (.ok E x)
 |_=>none
noncomputable def vE(c:Ex):Ex:=λE=>bnd (c E) λE x=>some (.ok E (.no,x.2))
abbrev C9(z:Int):Ex:=vE (cC (.int z))
noncomputable def cH(v:Ex):Ex:=λE=>bnd (v E) λE x=>if x.1=.no then some (.ok E (.no,x.2))else if x.2.pure then some (.ok E (.dp,x.2))else none
noncomputable def cF1(f:Sd->Option Sd)(a:Ex):Ex:=λE=>bnd (a E) λE x=>val E (f x)
noncomputable def cF2(f:Sd->Sd->Option Sd)(a b:Ex):Ex:=λE=>bnd (a E) λE x=>bnd (b E) λE y=>val E (f x y)
noncomputable def pu1(f:D->Option D):Sd->Option Sd:=λx=>(f x.2).map λd=>(.dp,d)
noncomputable def pu2(f:D->D->Option D):Sd->Sd->Option Sd:=λx y=>(f x.2 y.2).map λd=>(.dp,d)
noncomputable def wze:D->List D
 |.lst xs=>xs
 |.tup xs=>xs
 |.dct kvs=>kvs.map (·.2)
 |_=>[]
def v5(x:Sd):Bool:=x.1 != .dp||D.pures (wze x.2)
def sub:Own->Own
 |.dp=>.dp
 |_=>.no
noncomputable def ixN(n:Nat)(i:Int):Option Nat:=if 0<=i then(if i<n then some i.toNat else none)else if -(n:Int)<=i then some (i+n).toNat else none
noncomputable def ixD:D->D->Option D
 |.lst xs,.int i=>(ixN xs.length i).bind λj=>xs[j]?
 |.tup xs,.int i=>(ixN xs.length i).bind λj=>xs[j]?
 |.str z,.int i=>(ixN z.cps.size i).bind λj=>(z.cps.toList[j]?).map λc=>.str ⟨#[c]⟩
 |.dct kvs,k=>(kvs.find? λe=>decide (e.1=k)).map (·.2)
 |_,_=>none
def big:Nat:=16777216
noncomputable def i2(f:Int->Int->Option Int):D->D->Option D
 |.int a,.int b=>(f a b).map .int
 |_,_=>none
noncomputable def c2(f:Int->Int->Bool):D->D->Option D
 |.int a,.int b=>some (.bl (f a b))
 |_,_=>none
noncomputable def WJ(a:Int):Bool:=decide (-(2 ^ 64)<a)&&decide (a<2 ^ 64)
noncomputable def jx:Sd->Sd->Option Sd:=λx y=>match x.2,y.2 with
 |.int a,.int b=>some (.dp,.int (a+b))
 |.str a,.str b=>if a.cps.size+b.cps.size<=big then some (.dp,.str (a++b))else none
 |.lst a,.lst b=>if a.length+b.length<=big/\v5 x/\v5 y then some (.rt,.lst (a++b))else none
 |.tup a,.tup b=>if a.length+b.length<=big/\v5 x/\v5 y then some (.no,.tup (a++b))else none
 |_,_=>none
noncomputable def Jv(a b:Int):Bool:=WJ a||WJ b||(decide (a.natAbs.log2<2000000)&&decide (b.natAbs.log2<2000000))
noncomputable def zY:Sd->Sd->Option Sd:=λx y=>match x.2,y.2 with
 |.int a,.int b=>if Jv a b then some (.dp,.int (a*b))else none
 |.lst a,.int k=>if -(2 ^ 63)<=k/\k<2 ^ 63/\a.length*k.toNat<=big/\v5 x then some (.rt,.lst (List.replicate k.toNat a).flatten)else none
 |.str z,.int n=>if(z.cps.size<=1024/\n<=1024/\-1024<=n)/\(Txt.mul z n).cps.size<=big then some (.dp,.str (Txt.mul z n))else none
 |_,_=>none
def V5:D->D->Option D:=i2 λa b=>some (a - b)
noncomputable def wZ:D->D->Option D:=i2 λa b=>if 0<b/\b.natAbs.log2<9000 then some (a / b)else none
noncomputable def jY:D->D->Option D:=i2 λa b=>if 0<b then some (a % b)else none
noncomputable def zW:D->D->Option D:=i2 λa b=>if 0<=b/\b<=1000000/\a.natAbs<2 ^ 64 then some (a ^ b.toNat)else none
noncomputable def fShl:D->D->Option D:=i2 λa b=>if 0<=b/\b<=1000000/\a.natAbs<2 ^ 64 then some (a*2 ^ b.toNat)else none
noncomputable def fEq:D->D->Option D:=λa b=>if a.flat 40&&b.flat 40 then some (.bl (peq a b))else none
noncomputable def fNe:D->D->Option D:=λa b=>if a.flat 40&&b.flat 40 then some (.bl (!peq a b))else none
def isNon:D->Bool
 |.non=>true
 |_=>false
def fLt:D->D->Option D:=c2 λa b=>decide (a<b)
def fLe:D->D->Option D:=c2 λa b=>decide (a<=b)
def fGt:D->D->Option D:=c2 λa b=>decide (b<a)
def fGe:D->D->Option D:=c2 λa b=>decide (b<=a)
noncomputable def KZ:D->Option D
 |.int a=>some (.int (-a))
 |_=>none
noncomputable def wxc(a b:Str):Bool:=!(Builtin.Str.occurrences b a 0 b.length 1).isEmpty
noncomputable def fIn:D->D->Option D:=λx y=>match y with
 |.lst ys=>if x.flat 30&&D.flats 30 ys then some (.bl (ys.any λz=>peq z x))else none
 |.tup ys=>if x.flat 30&&D.flats 30 ys then some (.bl (ys.any λz=>peq z x))else none
 |.str b=>(match x with
  |.str a=>some (.bl (wxc a b))
  |_=>none)
 |.dct kvs=>some (.bl (kvs.any λe=>decide (e.1=x)))
 |_=>none
noncomputable def Wx:D->D->Option D:=λx y=>(fIn x y).bind λd=>match d with
 |.bl k=>some (.bl (!k))
 |_=>none
noncomputable def kY:D->Option D
 |.lst xs=>some (.int xs.length)
 |.tup xs=>some (.int xs.length)
 |.str z=>some (.int z.length)
 |_=>none
noncomputable def kind:D->String
 |.non=>"NoneType"
 |.bl _=>"bool"
 |.int _=>"int"
 |.str _=>"str"
 |.tup _=>"tuple"
 |.lst _=>"list"
 |.dct _=>"dict"
 |.obj _ _=>""
noncomputable def isaK(t u:String):Bool:=t==u||(t == "bool" && u == "int")
noncomputable def Qk(u:String):D->Option D:=λd=>match d with
 |.obj _ _=>none
 |.dct _=>none
 |_=>some (.bl (isaK (kind d) u))
def fIsNon:D->Option D:=λd=>some (.bl (isNon d))
def fNotNon:D->Option D:=λd=>some (.bl (!isNon d))
abbrev Ts:=Ev Bool
noncomputable def truth:D->Option Bool
 |.bl b=>some b
 |.non=>some false
 |.int i=>some (i != 0)
 |.str z=>some (z.cps.size != 0)
 |.lst xs=>some (!xs.isEmpty)
 |.tup xs=>some (!xs.isEmpty)
 |.dct xs=>some (!xs.isEmpty)
 |.obj _ _=>none
noncomputable def tE(c:Ex):Ts:=λE=>bnd (c E) λE x=>val E (truth x.2)
noncomputable def tAnd(a b:Ts):Ts:=λE=>bnd (a E) λE x=>if x then b E else some (.ok E false)
noncomputable def tOr(a b:Ts):Ts:=λE=>bnd (a E) λE x=>if x then some (.ok E true)else b E
noncomputable def tNot(a:Ts):Ts:=λE=>bnd (a E) λE x=>some (.ok E (!x))
def tYes:Ts:=λE=>some (.ok E true)
noncomputable def cIf(t:Ts)(a b:Ex):Ex:=λE=>bnd (t E) λE x=>if x then a E else b E
noncomputable def Kw(a b:Ex):Ex:=λE=>bnd (a E) λE x=>match x.2 with
 |.bl true=>b E
 |.bl false=>some (.ok E (.dp,.bl false))
 |_=>none
noncomputable def cOr(a b:Ex):Ex:=λE=>bnd (a E) λE x=>match x.2 with
 |.bl true=>some (.ok E (.dp,.bl true))
 |.bl false=>b E
 |_=>none
noncomputable def JZ:D->D->Option D:=λx y=>match y with
 |.dct _=>none
 |_=>fIn x y
noncomputable def wW:D->D->Option D:=λx y=>match y with
 |.dct _=>none
 |_=>Wx x y
noncomputable def f2First(f:D->Option D):Sd->Sd->Option Sd:=λx y=>if isNon y.2 then(f x.2).map λd=>(.dp,d)else none
noncomputable def jV:D->D->Option D:=λx y=>match x with
 |.dct _=>none
 |_=>ixD x y
noncomputable def j6(a b:Ex):Ex:=λE=>bnd (a E) λE x=>bnd (b E) λE y=>val E ((jV x.2 y.2).map λd=>(sub x.1,d))
noncomputable def truthQ:D->Option Bool:=λd=>match d with
 |.dct _=>none
 |_=>truth d
noncomputable def tEQ(c:Ex):Ts:=λE=>bnd (c E) λE x=>val E (truthQ x.2)
noncomputable def wj:List Ex->Ev (List Sd)
 |[],E=>some (.ok E [])
 |c::cs,E=>bnd (c E) λE x=>bnd (wj cs E) λE xs=>some (.ok E (x::xs))
def xX(x:Sd):Bool:=x.1 == .dp||x.2.pure
noncomputable def k8(o:Own)(cs:List Ex):Ex:=λE=>bnd (wj cs E) λE xs=>if o=.dp then(if xs.all xX then some (.ok E (.dp,.lst (xs.map (·.2))))else none)else some (.ok E (.rt,.lst (xs.map (·.2))))
noncomputable def qw(o:Own)(cs:List Ex):Ex:=λE=>bnd (wj cs E) λE xs=>if o=.dp then(if xs.all xX then some (.ok E (.dp,.tup (xs.map (·.2))))else none)else some (.ok E (.no,.tup (xs.map (·.2))))
inductive Fl where
 |nx (E:En)|rt (E:En) (x:Sd)|ct (E:En)|bk (E:En)|xc (E:En) (c:Str)
abbrev Sm:=En->Option Fl
noncomputable def ofE{α:Type}(m:Option (Res α))(f:En->α->Option Fl):Option Fl:=
 match m with
 |some (.ok E a)=>f E a
 |some (.exc E c)=>some (.xc E c)
 |none=>none
@[simp] theorem wz8 {α:Type}(E:En)(a:α)(f:En->α->Option Fl):ofE (some (.ok E a)) f=f E a:=rfl
@[simp] theorem wwr {α:Type}(E:En)(c:Str)(f:En->α->Option Fl):ofE (some (.exc E c)) f=some (.xc E c):=rfl
@[simp] theorem wvm {α:Type}(f:En->α->Option Fl):ofE none f=none:=rfl
noncomputable def j5(a b:Sm):Sm:=λE=>match a E with
 |some (.nx E)=>b E
 |r=>r
def k9:Sm:=λE=>some (.nx E)
noncomputable def jk(i:Nat)(c:Ex):Sm:=λE=>ofE (c E) λE x=>some (.nx (E.set i (some x)))
noncomputable def jz(c:Ex):Sm:=λE=>ofE (c E) λE x=>some (.rt E x)
def sRetN:Sm:=λE=>some (.rt E (.dp,.non))
noncomputable def sIf(t:Ts)(a b:Sm):Sm:=λE=>ofE (t E) λE x=>if x then a E else b E
inductive Tg where
 |n (i:Nat)|t (ts:List Nat)
noncomputable def setAll:List Nat->List D->En->Option En
 |[],[],E=>some E
 |i::is,d::ds,E=>setAll is ds (E.set i (some (.no,d)))
 |_,_,_=>none
noncomputable def Tg.put:Tg->D->En->Option En
 |.n i,d,E=>some (E.set i (some (.no,d)))
 |.t is,.tup ds,E=>setAll is ds E
 |.t is,.lst ds,E=>setAll is ds E
 |.t _,_,_=>none
noncomputable def zJ(is:List Nat)(c:Ex):Sm:=λE=>ofE (c E) λE x=>(Tg.put (.t is) x.2 E).map .nx
noncomputable def KQ(tg:Tg)(b:Sm):List D->En->Option Fl
 | [],E=>some (.nx E)
 | d::ds,E=>match tg.put d E with
  |none=>none
  |some E=>match b E with
   |some (.nx E)=>KQ tg b ds E
   |some (.ct E)=>KQ tg b ds E
   |some (.bk E)=>some (.nx E)
   |r=>r
noncomputable def qX(it:Ev (List D))(tg:Tg)(b:Sm):Sm:=λE=>ofE (it E) λE ds=>KQ tg b ds E
noncomputable def sWhile(t:Ts)(b:Sm)(E:En):Option Fl:=
 match t E with
 |some (.ok E true)=>(match b E with
  |some (.nx E)=>sWhile t b E
  |some (.ct E)=>sWhile t b E
  |some (.bk E)=>some (.nx E)
  |r=>r)
 |some (.ok E false)=>some (.nx E)
 |some (.exc E c)=>some (.xc E c)
 |none=>none
partial_fixpoint
noncomputable def whN(t:Ts)(b:Sm):Nat->En->Option Fl
 | 0,_=>none
 | n+1,E=>match t E with
  |some (.ok E true)=>(match b E with
   |some (.nx E)=>whN t b n E
   |some (.ct E)=>whN t b n E
   |some (.bk E)=>some (.nx E)
   |r=>r)
  |some (.ok E false)=>some (.nx E)
  |some (.exc E c)=>some (.xc E c)
  |none=>none
theorem vw3{t:Ts}{b:Sm}:∀{E:En} {r:Fl},sWhile t b E=some r->∃n,whN t b n E=some r:=by
 intro E r;refine sWhile.partial_correctness t b (λE r=>∃n,whN t b n E=some r) ?_ E r;intro f ih E r h;cases ht:t E with
 | none=>rw[ht]at h;cases h
 | some q=>
  cases q with
  | exc E1 c=>rw[ht]at h;exact⟨1,by simp only[whN,ht];exact h⟩
  | ok E1 k=>
   rw[ht]at h;cases k with
   | false=>exact⟨1,by simp only[whN,ht];exact h⟩
   | true=>
    dsimp only at h;cases hb:b E1 with
    |none=>rw[hb]at h;cases h
    |some g=>
     rw[hb]at h;cases g with
     |nx E2=>obtain⟨n,hn⟩:=ih _ _ h;exact⟨n+1,by simp only[whN,ht,hb];exact hn⟩
     |ct E2=>obtain⟨n,hn⟩:=ih _ _ h;exact⟨n+1,by simp only[whN,ht,hb];exact hn⟩
     |bk E2=>exact⟨1,by simp only[whN,ht,hb];exact h⟩
     |rt E2 x=>exact⟨1,by simp only[whN,ht,hb];exact h⟩
     |xc E2 c=>exact⟨1,by simp only[whN,ht,hb];exact h⟩
noncomputable def at'{α:Type}(L:List (Option α))(j:Nat):Option α:=(L[j]?).join
noncomputable def clr{α:Type}:List Nat->List (Option α)->List (Option α)
 |[],L=>L
 |j::R,L=>clr R (L.set j none)
noncomputable def back{α:Type}:List Nat->List (Option α)->List (Option α)->List (Option α)
 |j::R,q::B,L=>back R B (L.set j q)
 |_,_,L=>L
noncomputable def Qx(k:Nat)(R:List Nat)(E:En):En:=List.replicate k none++R.map (at' E)
noncomputable def Q1(k:Nat)(R:List Nat)(B E:En):En:=back R (B.drop k) (clr R E)
noncomputable def lcL(tg:Tg)(t:Ts)(c:Ex):List D->En->List Sd->Option (Res (List Sd))
 |[],B,acc=>some (.ok B acc)
 |d::ds,B,acc=>match tg.put d B with
  |none=>none
  |some B=>bnd (t B) λB x=>if x then bnd (c B) λB y=>lcL tg t c ds B (acc++[y])else lcL tg t c ds B acc
noncomputable def mkL(o:Own)(E:En)(xs:List Sd):Option (Res Sd):=
 if o=.dp then(if xs.all xX then some (.ok E (.dp,.lst (xs.map (·.2))))else none)else some (.ok E (.rt,.lst (xs.map (·.2))))
noncomputable def cLC(o:Own)(k:Nat)(R:List Nat)(it:Ev (List D))(tg:Tg)(t:Ts)(c:Ex):Ex:=λE=>bnd (it E) λE ds=>
 match lcL tg t c ds (Qx k R E) []with
 |some (.ok B xs)=>mkL o (Q1 k R B E) xs
 |some (.exc B e)=>some (.exc (Q1 k R B E) e)
 |none=>none
noncomputable def vqj:Option (Option Sd)->Bool
 |some (some (_,.lst _))=>true
 |_=>false
noncomputable def qK(f:List D->D->Option (List D))(i:Nat)(c:Ex):Sm:=λE=>if vqj E[i]? then ofE (c E) λE x=>match E[i]? with
 |some (some (o,.lst xs))=>if o=.no then none else(match f xs x.2 with
  |some ys=>some (.nx (E.set i (some (if o=.dp/\xX x then .dp else .rt,.lst ys))))
  |none=>none)
 |_=>none
 else none
noncomputable def qJ:List D->D->Option (List D):=λxs d=>if xs.length<big then some (xs++[d])else none
noncomputable def J0:D->Option D
 |.int i=>some (.int i)
 |.bl k=>some (.int (if k then 1 else 0))
 |.str z=>if z.length<=640 then(PySem.intText? z).map .int else none
 |_=>none
noncomputable def V8:Sd->Option Sd:=λx=>match x.2 with
 |.lst xs=>if v5 x then some (.rt,.lst xs)else none
 |.tup xs=>if v5 x then some (.rt,.lst xs)else none
 |_=>none
noncomputable def z3:Sd->Option Sd:=λx=>match x.2 with
 |.lst xs=>if v5 x then some (.no,.tup xs)else none
 |.tup xs=>if v5 x then some (.no,.tup xs)else none
 |_=>none
noncomputable def wzh:D->D->Option D:=i2 λa b=>some (if b<a then b else a)
noncomputable def wxa:D->D->Option D:=i2 λa b=>some (if b>a then b else a)
noncomputable def seqOf:D->Option (List D)
 |.lst xs=>some xs
 |.tup xs=>some xs
 |.str z=>if z.cps.size<=big then some (z.cps.toList.map λc=>.str ⟨#[c]⟩)else none
 |_=>none
noncomputable def itS(c:Ex):Ev (List D):=λE=>bnd (c E) λE x=>val E (seqOf x.2)
noncomputable def vQ(i:Int):Bool:=decide (-(2 ^ 62)<=i)&&decide (i<2 ^ 62)
noncomputable def jQ(lo hi:Int):List D:=(List.range (hi - lo).toNat).map λ(k:Nat)=>.int (lo+(k:Int))
noncomputable def vz(c:Ex):Ev (List D):=λE=>bnd (c E) λE x=>match x.2 with
 |.int j=>if vQ j/\j.toNat<=big then some (.ok E (jQ 0 j))else none
 |_=>none
noncomputable def wvn(c d:Ex):Ev (List D):=λE=>bnd (c E) λE x=>bnd (d E) λE y=>match x.2,y.2 with
 |.int i,.int j=>if vQ i/\vQ j/\(j - i).toNat<=big then some (.ok E (jQ i j))else none
 |_,_=>none
noncomputable def W0(c:Ex):Ex:=λE=>bnd (c E) λE x=>match x.2 with
 |.int j=>if vQ j/\j.toNat<=big then some (.ok E (.rt,.lst (jQ 0 j)))else none
 |_=>none
abbrev Fn:=List Sd->Option (Res Sd)
noncomputable def fn(n:Nat)(b:Sm):Fn:=λxs=>match b (xs.map some++List.replicate (n - xs.length) none)with
 |some (.rt E x)=>some (.ok E x)
 |some (.nx E)=>some (.ok E (.dp,.non))
 |some (.xc E c)=>some (.exc E c)
 |_=>none
noncomputable def letAll(xs:List Sd):List Sd:=xs.map λx=>(.no,x.2)
noncomputable def jK(f:Fn)(cs:List Ex):Ex:=λE=>bnd (wj cs E) λE xs=>match f (letAll xs)with
 |some (.ok _ y)=>some (.ok E y)
 |some (.exc _ c)=>some (.exc E c)
 |none=>none
end Q
namespace Q
open PySem PySem.Spec PyProof.Rows L2 L3
mutual
noncomputable def z0:D->Int
 |.int i=>hashInt i
 |.tup xs=>reduceHash (Builtin.Tuple.tupleHashOf (hashDs xs))
 |_=>4238894112
noncomputable def hashDs:List D->List Int
 |[]=>[]
 |a::x=>z0 a::hashDs x
end
def Kd:Type:={ d:D // k7 6 d=true }
instance:DecidableEq Kd:=λa b=>Classical.propDecidable (a=b)
abbrev Ent:=Kd×Addr×Value
noncomputable def q9(a:Addr)(es:List Ent)(ep:Nat):HO:=.ext λh=>∃o ds,h.get? a=some o/\o.ExactDict/\o.data=.dict ds ep/\ds.toList=es.map λx=>(⟨z0 x.1.1,.ref x.2.1,x.2.2⟩:DictEntry)
mutual
noncomputable def PuR(K:PySem.W.Frag)(H:Hp):D->V->Prop
 |.non,v=>v=.non
 |.int i,v=>v=.int i
 |.tup ds,v=>∃a xs,v=.ref a/\SqT K H a xs/\PuRs K H ds xs
 |_,_=>False
noncomputable def PuRs(K:PySem.W.Frag)(H:Hp):List D->List V->Prop
 |[],xs=>xs=[]
 |d::ds,xs=>∃x r,xs=x::r/\PuR K H d x/\PuRs K H ds r
end
noncomputable def DcN(K:PySem.W.Frag)(H:Hp)(a:Addr)(ks:List D)(vs:List V):Prop:=∃(es:List Ent) (ep:Nat),H a=some (q9 a es ep)/\(a==sysModules)=false/\es.length<=sizeLine/\(es.map (·.1)).Nodup/\ks=es.map (·.1.1)/\(∀x∈es,PuR K H x.1.1 (.ref x.2.1))/\Vals vs (es.map (·.2.2))
noncomputable def DcI(H:Hp)(a:Addr)(ks:List D)(vs:List V):Prop:=∃(kv:List (Int×V)) (m:Str),H a=some (.dK (kv.map λp=>(Sum.inl p.1,p.2)))/\ks=.str m::kv.map (λp=>D.int p.1)/\vs=.non::kv.map (·.2)
noncomputable def DcA(K:PySem.W.Frag)(H:Hp)(a:Addr)(ks:List D)(vs:List V):Prop:=DcN K H a ks vs\/DcI H a ks vs
theorem DcA.un{K:PySem.W.Frag}{H:Hp}{a:Addr}{kvs:List (D×D)}{vs:List V}(h:DcA K H a (kvs.map (·.1)) vs)(hu:unm kvs=true):DcN K H a (kvs.map (·.1)) vs:=by
 rcases h with h|⟨kv,m,_,h,_⟩
 ·exact h
 ·cases kvs with
  |nil=>cases h
  |cons p r=>
   obtain⟨k,d⟩:=p;rw[List.map_cons]at h;injection h with h1 _;have h1:k=.str m:=h1;subst h1;cases hu
noncomputable def wzj(K:PySem.W.Frag)(a:Addr)(xs:List V):Prop:=∃(aa:Array Value) (n:Nat),K.lookup a=some { cls:=.type "list",data:=.seq aa n }/\aa.size<=sizeLine/\Vals xs aa.toList
noncomputable def wvu(K:PySem.W.Frag)(H:Hp)(a:Addr)(xs:List V):Prop:=(∃o,H a=some (.frz o (.lst xs)))\/wzj K a xs
noncomputable def LsR(K:PySem.W.Frag)(H:Hp)(a:Addr)(xs:List V):Prop:=Rd H a (.lst xs)\/wzj K a xs
theorem LsR.of{K:PySem.W.Frag}{H:Hp}{a:Addr}{xs:List V}(h:wvu K H a xs):LsR K H a xs:=h.imp .inr id
theorem LsR.sq{K:PySem.W.Frag}{H:Hp}{a:Addr}{xs:List V}(h:LsR K H a xs):SqL K H a xs:=by
 rcases h with h|⟨aa,n,h1,h2,h3⟩
 ·exact .inl h
 ·exact .inr ⟨_,aa,n,h1,rfl,rfl,rfl,h2,h3⟩
theorem LsR.is{X:Cx}{pins:List (Addr×Obj)}{σ:L2.St}{H:Hp}{s:Shared}{a:Addr}{xs:List V}(I:L2.Inv X pins σ H s)(h:LsR X.K H a xs):xs.length<=sizeLine/\∃(aa:List Value) (n:Nat),Vals xs aa/\s.heap.get? a=some { cls:=.type "list",data:=.seq aa.toArray n }:=by
 rcases h with h|⟨aa,n,h1,h2,h3⟩
 ·obtain⟨z,aa,n,r,e⟩:=h.ok I.hok;exact⟨z,aa,n,r,e⟩
 ·have hl:=h3.length;simp only[Yb]at hl;exact⟨by omega,aa.toList,n,h3,by simpa using I.kIn a _ h1⟩
noncomputable def ExD(K:PySem.W.Frag)(H:Hp)(c:Str)(v:V):Prop:=∃x o C,v=.ref x/\H x=some (.frz o (.ext λ_=>True))/\ExAt K x o C/\PySem.W.nsIn K mainGlobals c=some (some (.ref C))
mutual
noncomputable def RepL(K:PySem.W.Frag)(H:Hp)(g:Bool):D->V->List Addr->Prop
 |.non,v,as=>v=.non/\as=[]
 |.bl b,v,as=>v=.bl b/\as=[]
 |.int i,v,as=>v=.int i/\as=[]
 |.str z,v,as=>v=.str z/\as=[]/\z.length<=sizeLine
 |.tup ds,v,as=>∃a xs,v=.ref a/\SqT K H a xs/\RepA K H g ds xs as
 |.lst ds,v,as=>∃a xs bs,v=.ref a/\RepA K H g ds xs bs/\((H a=some (.lst xs)/\as=a::bs)\/(g=true/\wvu K H a xs/\as=bs))
 |.dct kvs,v,as=>∃a xs bs,v=.ref a/\RepP K H g kvs xs bs/\DcA K H a (kvs.map (·.1)) xs/\as=a::bs
 |.obj c _,v,as=>as=[]/\ExD K H c v
noncomputable def RepA(K:PySem.W.Frag)(H:Hp)(g:Bool):List D->List V->List Addr->Prop
 |[],xs,as=>xs=[]/\as=[]
 |d::ds,xs,as=>∃x r bs cs,xs=x::r/\as=bs++cs/\RepL K H g d x bs/\RepA K H g ds r cs
noncomputable def RepP(K:PySem.W.Frag)(H:Hp)(g:Bool):List (D×D)->List V->List Addr->Prop
 |[],xs,as=>xs=[]/\as=[]
 |(_,d)::ds,xs,as=>∃x r bs cs,xs=x::r/\as=bs++cs/\RepL K H g d x bs/\RepP K H g ds r cs
end
noncomputable def RepR(K:PySem.W.Frag)(H:Hp):D->V->List Addr->Prop
 |.lst ds,v,as=>∃a xs bs,v=.ref a/\RepA K H true ds xs bs/\H a=some (.lst xs)/\as=a::bs
 |.dct kvs,v,as=>∃a xs bs,v=.ref a/\RepP K H true kvs xs bs/\DcA K H a (kvs.map (·.1)) xs/\as=a::bs
 |_,_,_=>False
noncomputable def RepO(K:PySem.W.Frag)(H:Hp):Own->D->V->List Addr->Prop
 |.no=>RepL K H true
 |.rt=>RepR K H
 |.dp=>RepL K H false
section
variable {K:PySem.W.Frag}{H H':Hp}
noncomputable def Kp(H H':Hp)(as:List Addr):Prop:=(∀a xs,H a=some (.tup xs)->H' a=some (.tup xs))/\(∀a o u,H a=some (.frz o u)->H' a=some (.frz o u))/\∀a∈as,∀ob,H a=some ob->H' a=some ob
theorem Kp.left{as bs:List Addr}(k:Kp H H' (as++bs)):Kp H H' as:=⟨k.1,k.2.1,λa ha=>k.2.2 a (ll9 _ ha)⟩
theorem Kp.right{as bs:List Addr}(k:Kp H H' (as++bs)):Kp H H' bs:=⟨k.1,k.2.1,λa ha=>k.2.2 a (lr9 _ ha)⟩
theorem Kp.tail{a:Addr}{bs:List Addr}(k:Kp H H' (a::bs)):Kp H H' bs:=⟨k.1,k.2.1,λb hb=>k.2.2 b (lc9 _ hb)⟩
theorem Kp.tupT{as:List Addr}{a:Addr}{xs:List V}(k:Kp H H' as)(h:SqT K H a xs):SqT K H' a xs:=by
 rcases h with(h|⟨o,h⟩)|h
 ·exact .inl (.inl (k.1 a xs h))
 ·exact .inl (.inr ⟨o,k.2.1 a o _ h⟩)
 ·exact .inr h
theorem Kp.frzL{as:List Addr}{a:Addr}{xs:List V}(k:Kp H H' as)(h:wvu K H a xs):wvu K H' a xs:=by
 rcases h with⟨o,h⟩|h
 ·exact .inl ⟨o,k.2.1 a o _ h⟩
 ·exact .inr h
mutual
theorem PuR.kp{as:List Addr}(k:Kp H H' as):∀{d:D} {v:V},PuR K H d v->PuR K H' d v
 |.non,_,h=>by unfold PuR at h ⊢;exact h
 |.int _,_,h=>by unfold PuR at h ⊢;exact h
 |.tup ds,_,h=>by
  unfold PuR at h ⊢;obtain⟨a,xs,e,s,r⟩:=h;exact⟨a,xs,e,k.tupT s,PuRs.kp k r⟩
 |.bl _,_,h=>by unfold PuR at h;exact h.elim
 |.str _,_,h=>by unfold PuR at h;exact h.elim
 |.lst _,_,h=>by unfold PuR at h;exact h.elim
 |.dct _,_,h=>by unfold PuR at h;exact h.elim
 |.obj _ _,_,h=>by unfold PuR at h;exact h.elim
theorem PuRs.kp{as:List Addr}(k:Kp H H' as):∀{ds:List D} {xs:List V},PuRs K H ds xs->PuRs K H' ds xs
 |[],_,h=>by unfold PuRs at h ⊢;exact h
 |d::ds,_,h=>by
  unfold PuRs at h ⊢;obtain⟨x,r,e,h1,h2⟩:=h;exact⟨x,r,e,PuR.kp k h1,PuRs.kp k h2⟩
end
theorem Kp.dcn{a:Addr}{bs:List Addr}{ks:List D}{vs:List V}(k:Kp H H' (a::bs))(h:DcN K H a ks vs):DcN K H' a ks vs:=by
 obtain⟨es,ep,e,h1,h2,h3,h4,h5,h6⟩:=h;exact⟨es,ep,k.2.2 a X3 _ e,h1,h2,h3,h4,λx hx=>PuR.kp k (h5 x hx),h6⟩
theorem Kp.dca{a:Addr}{bs:List Addr}{ks:List D}{vs:List V}(k:Kp H H' (a::bs))(h:DcA K H a ks vs):DcA K H' a ks vs:=by
 rcases h with h|⟨kv,m,e,h⟩
 ·exact .inl (k.dcn h)
 ·exact .inr ⟨kv,m,k.2.2 a X3 _ e,h⟩
theorem Kp.of_same{as:List Addr}(s:kJ H H'):Kp H H' as:=⟨λa xs h=>s a _ h,λa o u h=>s a _ h,λa _ ob h=>s a ob h⟩
mutual
theorem RepL.kp{g:Bool}:∀{d:D} {v:V} {as:List Addr},RepL K H g d v as->Kp H H' as->RepL K H' g d v as
 | .non,_,_,h,_=>by unfold RepL at h ⊢;exact h
 | .bl _,_,_,h,_=>by unfold RepL at h ⊢;exact h
 | .int _,_,_,h,_=>by unfold RepL at h ⊢;exact h
 | .str _,_,_,h,_=>by unfold RepL at h ⊢;exact h
 | .tup ds,_,_,h,k=>by
  unfold RepL at h ⊢;obtain⟨a,xs,e,s,r⟩:=h;exact⟨a,xs,e,k.tupT s,RepA.kp r k⟩
 | .lst ds,_,_,h,k=>by
  unfold RepL at h ⊢;obtain⟨a,xs,bs,e,r,q⟩:=h;refine⟨a,xs,bs,e,?_,?_⟩
  ·rcases q with⟨_,rfl⟩|⟨_,_,rfl⟩
   ·exact RepA.kp r k.tail
   ·exact RepA.kp r k
  ·rcases q with⟨h1,rfl⟩|⟨hg,h1,rfl⟩
   ·exact .inl ⟨k.2.2 a X3 _ h1,rfl⟩
   ·exact .inr ⟨hg,k.frzL h1,rfl⟩
 |.dct kvs,_,_,h,k=>by
  unfold RepL at h ⊢;obtain⟨a,xs,bs,e,r,q,rfl⟩:=h;exact⟨a,xs,bs,e,RepP.kp r k.tail,k.dca q,rfl⟩
 |.obj _ _,_,_,h,k=>by
  unfold RepL at h ⊢;obtain⟨e,x,o,C,h1,h2,h3⟩:=h;exact⟨e,x,o,C,h1,k.2.1 _ _ _ h2,h3⟩
theorem RepA.kp{g:Bool}:∀{ds:List D} {xs:List V} {as:List Addr},RepA K H g ds xs as->Kp H H' as->RepA K H' g ds xs as
 |[],_,_,h,_=>by unfold RepA at h ⊢;exact h
 |d::ds,_,_,h,k=>by
  unfold RepA at h ⊢;obtain⟨x,r,bs,cs,e1,rfl,h1,h2⟩:=h;exact⟨x,r,bs,cs,e1,rfl,RepL.kp h1 k.left,RepA.kp h2 k.right⟩
theorem RepP.kp{g : Bool}: ∀{ds : List (D × D)} {xs : List V} {as : List Addr}, RepP K H g ds xs as -> Kp H H' as -> RepP K H' g ds xs as
  | [], _, _, h, _=>by unfold RepP at h ⊢; exact h
  | (q, d)::ds, _, _, h, k=>by
    unfold RepP at h ⊢;obtain⟨x, r, bs, cs, e1, rfl, h1, h2⟩:= h;exact⟨x, r, bs, cs, e1, rfl, RepL.kp h1 k.left, RepP.kp h2 k.right⟩
end
mutual
theorem RepL.wk:∀{d:D} {v:V} {as:List Addr},RepL K H false d v as->RepL K H true d v as
 |.non,_,_,h=>by unfold RepL at h ⊢;exact h
 |.bl _,_,_,h=>by unfold RepL at h ⊢;exact h
 |.int _,_,_,h=>by unfold RepL at h ⊢;exact h
 |.str _,_,_,h=>by unfold RepL at h ⊢;exact h
 |.tup ds,_,_,h=>by
  unfold RepL at h ⊢;obtain⟨a,xs,e,s,r⟩:=h;exact⟨a,xs,e,s,RepA.wk r⟩
 |.lst ds,_,_,h=>by
  unfold RepL at h ⊢;obtain⟨a,xs,bs,e,r,q⟩:=h;refine⟨a,xs,bs,e,RepA.wk r,?_⟩;rcases q with q|⟨z,_⟩
  ·exact .inl q
  ·cases z
 |.dct kvs,_,_,h=>by
  unfold RepL at h ⊢;obtain⟨a,xs,bs,e,r,q,z⟩:=h;exact⟨a,xs,bs,e,RepP.wk r,q,z⟩
 |.obj _ _,_,_,h=>by unfold RepL at h ⊢;exact h
theorem RepA.wk:∀{ds:List D} {xs:List V} {as:List Addr},RepA K H false ds xs as->RepA K H true ds xs as
 |[],_,_,h=>by unfold RepA at h ⊢;exact h
 |d::ds,_,_,h=>by
  unfold RepA at h ⊢;obtain⟨x,r,bs,cs,e1,e2,h1,h2⟩:=h;exact⟨x,r,bs,cs,e1,e2,RepL.wk h1,RepA.wk h2⟩
theorem RepP.wk : ∀{ds : List (D × D)} {xs : List V} {as : List Addr}, RepP K H false ds xs as -> RepP K H true ds xs as
  | [], _, _, h=>by unfold RepP at h ⊢; exact h
  | (q, d)::ds, _, _, h=>by
    unfold RepP at h ⊢;obtain⟨x, r, bs, cs, e1, e2, h1, h2⟩:= h;exact⟨x, r, bs, cs, e1, e2, RepL.wk h1, RepP.wk h2⟩
end
mutual
theorem RepL.al{g:Bool}:∀{d:D} {v:V} {as:List Addr},RepL K H g d v as->∀a∈as,(∃xs,H a=some (.lst xs))\/(∃ φ,H a=some (.ext φ))\/∃kvs,H a=some (.dK kvs)
 | .non,_,_,h=>by unfold RepL at h;rw[h.2];exact λ_ z=>nomatch z
 | .bl _,_,_,h=>by unfold RepL at h;rw[h.2];exact λ_ z=>nomatch z
 | .int _,_,_,h=>by unfold RepL at h;rw[h.2];exact λ_ z=>nomatch z
 | .str _,_,_,h=>by unfold RepL at h;rw[h.2.1];exact λ_ z=>nomatch z
 | .tup ds,_,_,h=>by
  unfold RepL at h;obtain⟨a,xs,e,s,r⟩:=h;exact RepA.al r
 | .lst ds,_,_,h=>by
  unfold RepL at h;obtain⟨a,xs,bs,e,r,q⟩:=h;rcases q with⟨h1,rfl⟩|⟨_,_,rfl⟩
  ·intro b hb;rcases List.mem_cons.mp hb with rfl|hb
   ·exact .inl ⟨_,h1⟩
   ·exact RepA.al r b hb
  ·exact RepA.al r
 | .dct kvs,_,_,h=>by
  unfold RepL at h;obtain⟨a,xs,bs,e,r,q,rfl⟩:=h;intro b hb;rcases List.mem_cons.mp hb with rfl|hb
  ·rcases q with⟨es,ep,q,_⟩|⟨kv,m,q,_⟩
   ·exact .inr (.inl ⟨_,q⟩)
   ·exact .inr (.inr ⟨_,q⟩)
  ·exact RepP.al r b hb
 |.obj _ _,_,_,h=>by unfold RepL at h;rw[h.1];exact λ_ z=>nomatch z
theorem RepA.al{g:Bool}:∀{ds:List D} {xs:List V} {as:List Addr},RepA K H g ds xs as->∀a∈as,(∃xs,H a=some (.lst xs))\/(∃ φ,H a=some (.ext φ))\/∃kvs,H a=some (.dK kvs)
 |[],_,_,h=>by unfold RepA at h;rw[h.2];exact λ_ z=>nomatch z
 |d::ds,_,_,h=>by
  unfold RepA at h;obtain⟨x,r,bs,cs,e1,rfl,h1,h2⟩:=h;intro a ha;rcases List.mem_append.mp ha with ha|ha
  ·exact RepL.al h1 a ha
  ·exact RepA.al h2 a ha
theorem RepP.al{g : Bool}: ∀{ds : List (D × D)} {xs : List V} {as : List Addr}, RepP K H g ds xs as -> ∀a ∈ as, (∃xs, H a = some (.lst xs)) \/ (∃ φ, H a = some (.ext φ)) \/ ∃kvs, H a = some (.dK kvs)
  | [], _, _, h=>by unfold RepP at h; rw[h.2]; exact λ_ z=>nomatch z
  | (_, d)::ds, _, _, h=>by
    unfold RepP at h;obtain⟨x, r, bs, cs, e1, rfl, h1, h2⟩:= h;intro a ha;rcases List.mem_append.mp ha with ha|ha
    · exact RepL.al h1 a ha
    · exact RepP.al h2 a ha
end
mutual
theorem RepL.pu{g g':Bool}:∀{d:D} {v:V} {as:List Addr},RepL K H g d v as->d.pure=true->as=[]/\RepL K H g' d v []
 |.non,_,_,h,_=>by unfold RepL at h ⊢;exact⟨h.2,h.1,rfl⟩
 |.bl _,_,_,h,_=>by unfold RepL at h ⊢;exact⟨h.2,h.1,rfl⟩
 |.int _,_,_,h,_=>by unfold RepL at h ⊢;exact⟨h.2,h.1,rfl⟩
 |.str _,_,_,h,_=>by unfold RepL at h ⊢;exact⟨h.2.1,h.1,rfl,h.2.2⟩
 |.tup ds,_,_,h,p=>by
  unfold RepL at h ⊢;obtain⟨a,xs,e,s,r⟩:=h;obtain⟨z,r'⟩:=RepA.pu (g':=g') r (by unfold D.pure at p;exact p);exact⟨z,a,xs,e,s,r'⟩
 |.lst ds,_,_,h,p=>by unfold D.pure at p;cases p
 |.dct ds,_,_,h,p=>by unfold D.pure at p;cases p
 |.obj _ _,_,_,h,p=>by unfold D.pure at p;cases p
theorem RepA.pu{g g':Bool}:∀{ds:List D} {xs:List V} {as:List Addr},RepA K H g ds xs as->D.pures ds=true->as=[]/\RepA K H g' ds xs []
 |[],_,_,h,_=>by unfold RepA at h ⊢;exact⟨h.2,h.1,rfl⟩
 |d::ds,_,_,h,p=>by
  unfold RepA at h ⊢;unfold D.pures at p;rw[Bool.and_eq_true]at p;obtain⟨x,r,bs,cs,e1,rfl,h1,h2⟩:=h;obtain⟨rfl,q1⟩:=RepL.pu (g':=g') h1 p.1;obtain⟨rfl,q2⟩:=RepA.pu (g':=g') h2 p.2;exact⟨rfl,x,r,[],[],e1,rfl,q1,q2⟩
end
theorem RepR.wk:∀{d:D} {v:V} {as:List Addr},RepR K H d v as->RepL K H true d v as
 |.lst ds,_,_,h=>by
  obtain⟨a,xs,bs,e,r,q,z⟩:=h;unfold RepL;exact⟨a,xs,bs,e,r,.inl ⟨q,z⟩⟩
 |.dct kvs,_,_,h=>by
  obtain⟨a,xs,bs,e,r,q,z⟩:=h;unfold RepL;exact⟨a,xs,bs,e,r,q,z⟩
theorem RepR.kp:∀{d:D} {v:V} {as:List Addr},RepR K H d v as->Kp H H' as->RepR K H' d v as
 |.lst ds,_,_,h,k=>by
  obtain⟨a,xs,bs,e,r,q,rfl⟩:=h;exact⟨a,xs,bs,e,r.kp k.tail,k.2.2 a X3 _ q,rfl⟩
 |.dct kvs,_,_,h,k=>by
  obtain⟨a,xs,bs,e,r,q,rfl⟩:=h;exact⟨a,xs,bs,e,r.kp k.tail,k.dca q,rfl⟩
theorem RepO.wk:∀{o:Own} {d:D} {v:V} {as:List Addr},RepO K H o d v as->RepL K H true d v as
 |.no,_,_,_,h=>h
 |.rt,_,_,_,h=>RepR.wk h
 |.dp,_,_,_,h=>RepL.wk h
theorem RepO.kp:∀{o:Own} {d:D} {v:V} {as:List Addr},RepO K H o d v as->Kp H H' as->RepO K H' o d v as
 |.no,_,_,_,h,k=>RepL.kp h k
 |.rt,_,_,_,h,k=>RepR.kp h k
 |.dp,_,_,_,h,k=>RepL.kp h k
end
structure Sl where
 o:Own
 d:D
 v:V
 as:List Addr
noncomputable def Sl.own(x:Sl):List Addr:=match x.o with
 |.no=>[]
 |.rt=>x.as.take 1
 |.dp=>x.as
noncomputable def Sl.frz(x:Sl):List Addr:=match x.o with
 |.no=>x.as
 |.rt=>x.as.drop 1
 |.dp=>[]
theorem Sl.parts(x:Sl):x.own++x.frz=x.as:=by
 unfold Sl.own Sl.frz;cases x.o with
 |no=>rfl
 |rt=>exact List.take_append_drop 1 x.as
 |dp=>exact Xv _
theorem Sl.own_as{x:Sl}{a:Addr}(h:a∈x.own):a∈x.as:=by rw[<-x.parts];exact ll9 _ h
theorem Sl.frz_as{x:Sl}{a:Addr}(h:a∈x.frz):a∈x.as:=by rw[<-x.parts];exact lr9 _ h
theorem Sl.as_of{x:Sl}{a:Addr}(h:a∈x.as):a∈x.own\/a∈x.frz:=by rw[<-x.parts]at h;exact List.mem_append.mp h
def Sl.let(x:Sl):Sl:={ x with o:=.no }
abbrev Ls:=List (Option Sl)
noncomputable def jq(L:Ls):List Addr:=L.flatMap λx=>x.elim [] Sl.own
noncomputable def kj(L:Ls):List Addr:=L.flatMap λx=>x.elim [] Sl.frz
@[simp] theorem wku:jq []=[]:=rfl
@[simp] theorem wj1:kj []=[]:=rfl
@[simp] theorem qk (x:Sl)(L:Ls):jq (some x::L)=x.own++jq L:=by simp[jq]
@[simp] theorem wJ (x:Sl)(L:Ls):kj (some x::L)=x.frz++kj L:=by simp[kj]
@[simp] theorem qv7 (L:Ls):jq (none::L)=jq L:=by simp[jq]
@[simp] theorem qjy (L:Ls):kj (none::L)=kj L:=by simp[kj]
@[simp] theorem kq (L T:Ls):jq (L++T)=jq L++jq T:=by simp[jq]
@[simp] theorem qY (L T:Ls):kj (L++T)=kj L++kj T:=by simp[kj]
theorem mem_owned{L:Ls}{a:Addr}:a∈jq L↔∃x,some x∈L/\a∈x.own:=by
 unfold jq;rw[List.mem_flatMap];constructor
 ·rintro ⟨y,hy,h⟩;cases y with
  |none=>exact nomatch h
  |some x=>exact⟨x,hy,h⟩
 ·rintro ⟨x,hx,h⟩;exact⟨some x,hx,h⟩
theorem mem_frozen{L:Ls}{a:Addr}:a∈kj L↔∃x,some x∈L/\a∈x.frz:=by
 unfold kj;rw[List.mem_flatMap];constructor
 ·rintro ⟨y,hy,h⟩;cases y with
  |none=>exact nomatch h
  |some x=>exact⟨x,hy,h⟩
 ·rintro ⟨x,hx,h⟩;exact⟨some x,hx,h⟩
noncomputable def Sl.ok(K:PySem.W.Frag)(H:Hp)(x:Sl):Prop:=RepO K H x.o x.d x.v x.as
theorem Sl.ok.al{K:PySem.W.Frag}{H:Hp}{x:Sl}(h:x.ok K H):∀a∈x.as,(∃xs,H a=some (.lst xs))\/(∃ φ,H a=some (.ext φ))\/∃kvs,H a=some (.dK kvs):=(RepO.wk h).al
theorem Sl.ok.some{K:PySem.W.Frag}{H:Hp}{x:Sl}(h:x.ok K H){a:Addr}(ha:a∈x.as):H a≠none:=λz=>by
 rcases h.al a ha with⟨xs,e⟩|⟨xs,e⟩|⟨xs,e⟩<;>(rw[z]at e;cases e)
structure World (K:PySem.W.Frag)(H:Hp)(L:Ls):Prop where
 ok:∀x,some x∈L->x.ok K H
 nd:(jq L).Nodup
 ds:∀a∈jq L,a∉kj L
structure Step (H:Hp)(L:Ls)(H':Hp)(L':Ls):Prop where
 keep:∀a ob,H a=some ob->a∉jq L->H' a=some ob
 own:∀a∈jq L',a∈jq L\/H a=none
 frz:∀a∈kj L',a∈kj L\/a∈jq L\/H a=none
section
variable {K:PySem.W.Frag}{H H1 H2 H':Hp}{L L1 L2' L' T:Ls}{x y:Sl}
theorem World.own_al(w:World K H L){a:Addr}(h:a∈jq L):(∃xs,H a=some (.lst xs))\/(∃ φ,H a=some (.ext φ))\/∃kvs,H a=some (.dK kvs):=by
 obtain⟨x,hx,ha⟩:=mem_owned.mp h;exact(w.ok x hx).al a (Sl.own_as ha)
theorem World.own_some(w:World K H L){a:Addr}(h:a∈jq L):H a≠none:=by
 obtain⟨x,hx,ha⟩:=mem_owned.mp h;exact(w.ok x hx).some (Sl.own_as ha)
theorem World.frz_some(w:World K H L){a:Addr}(h:a∈kj L):H a≠none:=by
 obtain⟨x,hx,ha⟩:=mem_frozen.mp h;exact(w.ok x hx).some (Sl.frz_as ha)
theorem Step.refl:Step H L H L:=⟨λ_ _ h _=>h,λ_ h=>.inl h,λ_ h=>.inl h⟩
theorem Step.trans(a:Step H L H1 L1)(b:Step H1 L1 H2 L2'):Step H L H2 L2' where
 keep:=λc ob h hn=>b.keep c ob (a.keep c ob h hn) λz=>(a.own c z).elim hn λe=>by rw[h]at e;cases e
 own:=λc hc=>by
  rcases b.own c hc with z|z
  ·exact a.own c z
  ·by_cases h:c∈jq L
   ·exact .inl h
   ·refine .inr ?_;cases e:H c with
    |none=>rfl
    |some ob=>rw[a.keep c ob e h]at z;cases z
 frz:=λc hc=>by
  rcases b.frz c hc with z|z|z
  ·exact a.frz c z
  ·exact .inr (a.own c z)
  ·by_cases h:c∈jq L
   ·exact .inr (.inl h)
   ·refine .inr (.inr ?_);cases e:H c with
    |none=>rfl
    |some ob=>rw[a.keep c ob e h]at z;cases z
theorem Step.kp(a:Step H L H' L')(w:World K H L){as:List Addr}(h:∀b∈as,b∉jq L):Kp H H' as:=by
 have no:∀b ob,H b=some ob->(∀xs,ob≠.lst xs)->(∀ φ,ob≠.ext φ)->(∀kvs,ob≠.dK kvs)->H' b=some ob:=λb ob e h1 h2 h3=>a.keep b ob e λz=>by
  rcases w.own_al z with⟨xs,q⟩|⟨es,q⟩|⟨es,q⟩
  ·rw[e]at q;cases q;exact h1 _ rfl
  ·rw[e]at q;cases q;exact h2 _ rfl
  ·rw[e]at q;cases q;exact h3 _ rfl
 exact⟨λb xs e=>no b _ e (λ_ z=>(nomatch z)) (λ_ z=>(nomatch z)) (λ_ z=>(nomatch z)),λb o u e=>no b _ e (λ_ z=>(nomatch z)) (λ_ z=>(nomatch z)) (λ_ z=>(nomatch z)),λb hb ob e=>a.keep b ob e (h b hb)⟩
theorem Step.frame(a:Step H L H' L')(w:World K H (L++T))(w':World K H' L')(wL:World K H L):World K H' (L'++T):=by
 have nd:=w.nd;rw [kq,Xf]at nd;have dis:∀b∈jq L,b∉jq T:=λb hb hT=>nd.2.2 b hb b hT rfl
 have kr:∀x,some x∈T->x.ok K H:=λx hx=>w.ok x (lr9 _ hx)
 have nT:∀x,some x∈T->∀b∈x.as,b∉jq L:=λx hx b hb hL=>by
  rcases Sl.as_of hb with z|z
  ·exact dis b hL (mem_owned.mpr ⟨x,hx,z⟩)
  ·refine w.ds b (by rw[kq];exact ll9 _ hL) ?_;rw[qY];exact lr9 _ (mem_frozen.mpr ⟨x,hx,z⟩)
 refine⟨λx hx=>?_,?_,λb hb=>?_⟩
 ·rcases List.mem_append.mp hx with hx|hx
  ·exact w'.ok x hx
  ·exact(kr x hx).kp (a.kp wL (nT x hx))
 ·rw[kq,Xf];refine⟨w'.nd,nd.2.1,λb hb c hc e=>?_⟩;subst e;obtain⟨x,hx,gj⟩:=mem_owned.mp hc;rcases a.own b hb with z|z
  ·exact dis b z hc
  ·exact(kr x hx).some (Sl.own_as gj) z
 ·rw[kq]at hb;rw[qY];intro hf;rcases List.mem_append.mp hb with hb|hb
  ·rcases List.mem_append.mp hf with hf|hf
   ·exact w'.ds b hb hf
   ·obtain⟨x,hx,gj⟩:=mem_frozen.mp hf;rcases a.own b hb with z|z
    ·exact nT x hx b (Sl.frz_as gj) z
    ·exact(kr x hx).some (Sl.frz_as gj) z
  ·rcases List.mem_append.mp hf with hf|hf
   ·obtain⟨x,hx,gj⟩:=mem_owned.mp hb;rcases a.frz b hf with z|z|z
    ·exact w.ds b (by rw[kq];exact lr9 _ hb) (by rw[qY];exact ll9 _ z)
    ·exact dis b z hb
    ·exact(kr x hx).some (Sl.own_as gj) z
   ·exact w.ds b (by rw[kq];exact lr9 _ hb) (by rw[qY];exact lr9 _ hf)
theorem World.left(w:World K H (L++T)):World K H L:=by
 have nd:=w.nd;rw[kq,Xf]at nd;exact⟨λx hx=>w.ok x (ll9 _ hx),nd.1,λa ha hf=>w.ds a (by rw[kq];exact ll9 _ ha) (by rw[qY];exact ll9 _ hf)⟩
theorem World.right(w:World K H (L++T)):World K H T:=by
 have nd:=w.nd;rw[kq,Xf]at nd;exact⟨λx hx=>w.ok x (lr9 _ hx),nd.2.1,λa ha hf=>w.ds a (by rw[kq];exact lr9 _ ha) (by rw[qY];exact lr9 _ hf)⟩
theorem World.comm(w:World K H (L++T)):World K H (T++L):=by
 refine⟨λx hx=>w.ok x ?_,?_,λa ha hf=>w.ds a ?_ ?_⟩
 ·rcases List.mem_append.mp hx with h|h
  ·exact lr9 _ h
  ·exact ll9 _ h
 ·have nd:=w.nd;rw[kq,Xf]at nd ⊢;exact⟨nd.2.1,nd.1,λa ha b hb e=>nd.2.2 b hb a ha e.symm⟩
 ·rw[kq]at ha ⊢;rcases List.mem_append.mp ha with h|h
  ·exact lr9 _ h
  ·exact ll9 _ h
 ·rw[qY]at hf ⊢;rcases List.mem_append.mp hf with h|h
  ·exact lr9 _ h
  ·exact ll9 _ h
theorem World.tail{q:Option Sl}(w:World K H (q::L)):World K H L:=World.right (L:=[q]) w
theorem World.head(w:World K H (some x::L)):x.ok K H:=w.ok x X3
theorem World.apart(w:World K H (some x::L)):∀a∈x.as,a∉jq L:=λa ha hL=>by
 rcases Sl.as_of ha with z|z
 ·have nd:=w.nd;rw[qk,Xf]at nd;exact nd.2.2 a z a hL rfl
 ·exact w.ds a (by rw[qk];exact lr9 _ hL) (by rw[wJ];exact ll9 _ z)
theorem World.cons(w:World K H L)(h:x.ok K H)(n:x.own.Nodup)(h1:∀a∈x.own,a∉jq L)(h2:∀a∈x.own,a∉kj L)(h3:∀a∈x.frz,a∉jq L)(h4:∀a∈x.own,a∉x.frz):World K H (some x::L):=by
 refine⟨λy hy=>?_,?_,λa ha hf=>?_⟩
 ·rcases List.mem_cons.mp hy with z|z
  ·cases z;exact h
  ·exact w.ok y z
 ·rw[qk,Xf];exact⟨n,w.nd,λa ha b hb e=>by subst e;exact h1 a ha hb⟩
 ·rw[qk]at ha;rw[wJ]at hf;rcases List.mem_append.mp ha with ha|ha
  ·rcases List.mem_append.mp hf with hf|hf
   ·exact h4 a ha hf
   ·exact h2 a ha hf
  ·rcases List.mem_append.mp hf with hf|hf
   ·exact h3 a hf ha
   ·exact w.ds a ha hf
theorem World.consNo(w:World K H L)(h:x.ok K H)(ho:x.o=.no)(h3:∀a∈x.as,a∉jq L):World K H (some x::L):=by
 have e1:x.own=[]:=by unfold Sl.own;rw[ho]
 have e2:x.frz=x.as:=by unfold Sl.frz;rw[ho]
 exact w.cons h (by rw[e1];exact Xx) (by rw[e1];exact λ_ z=>nomatch z) (by rw[e1];exact λ_ z=>nomatch z) (by rw[e2];exact h3) (by rw[e1];exact λ_ z=>nomatch z)
theorem World.consPu(w:World K H L)(h:x.ok K H)(e:x.as=[]):World K H (some x::L):=by
 have e1:∀a,a∉x.own:=λa ha=>by have:=Sl.own_as ha;rw[e]at this;exact nomatch this
 have e2:∀a,a∉x.frz:=λa ha=>by have:=Sl.frz_as ha;rw[e]at this;exact nomatch this
 have e3:x.own=[]:=List.eq_nil_iff_forall_not_mem.mpr e1;exact w.cons h (by rw[e3];exact Xx) (λa z=>absurd z (e1 a)) (λa z=>absurd z (e1 a)) (λa z=>absurd z (e2 a)) (λa z=>absurd z (e1 a))
theorem jvd{L:Ls}{i:Nat}{q:Option Sl}(h:some y∈L.set i q):q=some y\/some y∈L:=by
 rcases List.mem_or_eq_of_mem_set h with z|z
 ·exact .inr z
 ·exact .inl z.symm
theorem jks{i:Nat}{a:Addr}(h:a∈jq (L.set i (some x))):a∈x.own\/a∈jq L:=by
 obtain⟨y,hy,ha⟩:=mem_owned.mp h;rcases jvd hy with z|z
 ·cases z;exact .inl ha
 ·exact .inr (mem_owned.mpr ⟨y,z,ha⟩)
theorem jq1{i:Nat}{a:Addr}(h:a∈kj (L.set i (some x))):a∈x.frz\/a∈kj L:=by
 obtain⟨y,hy,ha⟩:=mem_frozen.mp h;rcases jvd hy with z|z
 ·cases z;exact .inl ha
 ·exact .inr (mem_frozen.mpr ⟨y,z,ha⟩)
theorem jv0:∀{L:Ls} {i:Nat},(x.own++jq L).Nodup->(jq (L.set i (some x))).Nodup
 |[],_,h=>by simp
 |q::L,0,h=>by
  rw[List.set_cons_zero,qk];have e:jq (q::L)=q.elim [] Sl.own++jq L:=by simp[jq]
  rw[e,Xf]at h;obtain⟨h1,h2,h3⟩:=h;rw[Xf]at h2 ⊢;exact⟨h1,h2.2.1,λa ha b hb=>h3 a ha b (lr9 _ hb)⟩
 |q::L,i+1,h=>by
  rw[List.set_cons_succ];have e:∀M:Ls,jq (q::M)=q.elim [] Sl.own++jq M:=λM=>by simp[jq]
  rw[e]at h ⊢;rw[Xf]at h;obtain⟨h1,h2,h3⟩:=h;rw[Xf]at h2;rw[Xf];refine⟨h2.1,jv0 (by rw[Xf];exact⟨h1,h2.2.1,λa ha b hb=>h3 a ha b (lr9 _ hb)⟩),λa ha b hb e=>?_⟩;subst e;rcases jks hb with z|z
  ·exact h3 a z a (ll9 _ ha) rfl
  ·exact h2.2.2 a ha a z rfl
theorem World.set{i:Nat}(w:World K H (some x::L)):World K H (L.set i (some x)):=by
 refine⟨λy hy=>?_,jv0 (by have:=w.nd;rwa [qk]at this),λa ha hf=>?_⟩
 ·rcases jvd hy with z|z
  ·cases z;exact w.head
  ·exact w.ok y (lc9 _ z)
 ·refine w.ds a ?_ ?_
  ·rw[qk];exact List.mem_append.mpr (jks ha)
  ·rw[wJ];exact List.mem_append.mpr (jq1 hf)
theorem Step.set{i:Nat}:Step H (some x::L) H (L.set i (some x)) where
 keep:=λ_ _ h _=>h
 own:=λa ha=>.inl (by rw[qk];exact List.mem_append.mpr (jks ha))
 frz:=λa ha=>.inl (by rw[wJ];exact List.mem_append.mpr (jq1 ha))
theorem Step.drop{q:Option Sl}:Step H (q::L) H L where
 keep:=λ_ _ h _=>h
 own:=λa ha=>.inl (by rw[show(q::L:Ls)=[q]++L from rfl,kq];exact lr9 _ ha)
 frz:=λa ha=>.inl (by rw[show(q::L:Ls)=[q]++L from rfl,qY];exact lr9 _ ha)
theorem xq{i:Nat}(h:L[i]?=some (some x)):some x∈L:=Xm h
theorem V6(x:Sl):x.let.own=[]/\x.let.frz=x.as/\x.let.as=x.as:=⟨rfl,rfl,rfl⟩
theorem kxn{i:Nat}{a:Addr}(h:a∈jq (L.set i (some x.let))):a∈jq L:=by
 rcases jks h with z|z
 ·exact nomatch z
 ·exact z
theorem qjt:∀{L:Ls} {i:Nat},(jq L).Nodup->(∀a∈jq L,a∉kj L)->L[i]?=some (some x)->∀a∈x.as,a∉jq (L.set i (some x.let))
 | [],_,_,_,h,_,_=>by simp at h
 | q::L,0,nd,ds,h,a,ha=>by
  have e:q=some x:=by simpa using h
  subst e;rw[List.set_cons_zero,qk];intro hm;have hm:a∈jq L:=by simpa [V6]using hm
  rcases Sl.as_of ha with z|z
  ·rw[qk,Xf]at nd;exact nd.2.2 a z a hm rfl
  ·exact ds a (by rw[qk];exact lr9 _ hm) (by rw[wJ];exact ll9 _ z)
 | q::L,i+1,nd,ds,h,a,ha=>by
  have h:L[i]?=some (some x):=by simpa using h
  rw[List.set_cons_succ];have e:∀M:Ls,jq (q::M)=q.elim [] Sl.own++jq M:=λM=>by simp[jq]
  have f:kj (q::L)=q.elim [] Sl.frz++kj L:=by simp[kj]
  rw[e];intro hm;rw[e,Xf]at nd;rcases List.mem_append.mp hm with hm|hm
  ·rcases Sl.as_of ha with z|z
   ·exact nd.2.2 a hm a (mem_owned.mpr ⟨x,xq h,z⟩) rfl
   ·exact ds a (by rw[e];exact ll9 _ hm) (by rw[f];exact lr9 _ (mem_frozen.mpr ⟨x,xq h,z⟩))
  ·exact qjt (L:=L) nd.2.1 (λb hb hf=>ds b (by rw[e];exact lr9 _ hb) (by rw[f];exact lr9 _ hf)) h a ha hm
theorem Kv(h:x.ok K H):x.let.ok K H:=RepO.wk h
theorem World.let{i:Nat}(w:World K H L)(h:L[i]?=some (some x)):World K H (L.set i (some x.let)):=by
 have out:=qjt w.nd w.ds h;refine⟨λy hy=>?_,jv0 (by rw[(V6 x).1];exact w.nd),λa ha hf=>?_⟩
 ·rcases jvd hy with z|z
  ·cases z;exact Kv (w.ok x (xq h))
  ·exact w.ok y z
 ·rcases jq1 hf with z|z
  ·exact out a z ha
  ·exact w.ds a (kxn ha) z
theorem World.read{i:Nat}(w:World K H L)(h:L[i]?=some (some x)):World K H (some x.let::L.set i (some x.let)):=
 (w.let h).consNo (Kv (w.ok x (xq h))) rfl (qjt (x:=x) w.nd w.ds h)
theorem Step.read{i:Nat}(h:L[i]?=some (some x)):Step H L H (some x.let::L.set i (some x.let)) where
 keep:=λ_ _ h _=>h
 own:=λa ha=>.inl (by rw[qk,(V6 x).1]at ha;exact kxn ha)
 frz:=λa ha=>by
  have hx:=xq h;have q:∀a∈x.as,a∈kj L\/a∈jq L\/H a=none:=λa ha=>by
   rcases Sl.as_of ha with z|z
   ·exact .inr (.inl (mem_owned.mpr ⟨x,hx,z⟩))
   ·exact .inl (mem_frozen.mpr ⟨x,hx,z⟩)
  rw[wJ]at ha;rcases List.mem_append.mp ha with z|z
  ·exact q a z
  ·rcases jq1 z with z|z
   ·exact q a z
   ·exact .inl z
end
inductive Mt:En->L2.St->Ls->Prop
 |nil:Mt [] [] []
 |un {E:En} {σ:L2.St} {L:Ls} {y:Option V}:Mt E σ L->Mt (none::E) (y :: σ) (none::L)
 |cons {E:En} {σ:L2.St} {L:Ls} {x:Sl}:Mt E σ L->Mt (some (x.o,x.d)::E) (some x.v :: σ) (some x::L)
theorem Mt.get:∀{E:En} {σ:L2.St} {L:Ls} {i:Nat} {o:Own} {d:D},Mt E σ L->E[i]?=some (some (o,d))->∃x,L[i]?=some (some x)/\x.o=o/\x.d=d/\σ[i]?=some (some x.v)
 |_,_,_,_,_,_,.nil,h=>by simp at h
 |_,_,_,0,_,_,.un _,h=>by simp at h
 |_,_,_,i+1,_,_,.un m,h=>by simpa using m.get (i:=i) (by simpa using h)
 |_,_,_,0,_,_,.cons (x:=x) m,h=>by
  simp only[List.getElem?_cons_zero,Option.some.injEq,Prod.mk.injEq]at h;exact⟨x,by simp,h.1,h.2,by simp⟩
 |_,_,_,i+1,_,_,.cons m,h=>by simpa using m.get (i:=i) (by simpa using h)
theorem Mt.set{x:Sl}:∀{E:En} {σ:L2.St} {L:Ls} (i:Nat),Mt E σ L->Mt (E.set i (some (x.o,x.d))) (σ.set i (some x.v)) (L.set i (some x))
 |_,_,_,_,.nil=>.nil
 |_,_,_,0,.un m=>.cons m
 |_,_,_,i+1,.un m=>.un (m.set i)
 |_,_,_,0,.cons m=>.cons m
 |_,_,_,i+1,.cons m=>.cons (m.set i)
theorem Mt.let{x:Sl}:∀{E:En} {σ:L2.St} {L:Ls} {i:Nat},Mt E σ L->L[i]?=some (some x)->Mt (E.set i (some (.no,x.d))) σ (L.set i (some x.let))
 |_,_,_,_,.nil,h=>by simp at h
 |_,_,_,0,.un m,h=>by simp at h
 |_,_,_,i+1,.un m,h=>.un (m.let (i:=i) (by simpa using h))
 |_,_,_,0,.cons (x:=y) m,h=>by
  have e:y=x:=by simpa using h
  subst e;exact .cons (x:=y.let) m
 |_,_,_,i+1,.cons m,h=>.cons (m.let (i:=i) (by simpa using h))
theorem Mt.len:∀{E:En} {σ:L2.St} {L:Ls},Mt E σ L->E.length=σ.length/\L.length=σ.length
 |_,_,_,.nil=>⟨rfl,rfl⟩
 |_,_,_,.un m=>by simp[m.len]
 |_,_,_,.cons m=>by simp[m.len]
def sls(L:Ls):List Sl:=L.filterMap id
theorem Q2(L:Ls):jq L=(sls L).flatMap Sl.own:=by
 induction L with
 |nil=>rfl
 |cons q L ih=>
  cases q with
  |none=>rw[qv7,ih];rfl
  |some x=>rw[qk,ih];rfl
theorem VQ(L:Ls):kj L=(sls L).flatMap Sl.frz:=by
 induction L with
 |nil=>rfl
 |cons q L ih=>
  cases q with
  |none=>rw[qjy,ih];rfl
  |some x=>rw[wJ,ih];rfl
theorem mem_sls{L:Ls}{x:Sl}:x∈sls L↔some x∈L:=by simp[sls]
@[simp] theorem Vx (L T:Ls):sls (L++T)=sls L++sls T:=by simp[sls]
@[simp] theorem vkj (L:Ls):sls (none::L)=sls L:=rfl
@[simp] theorem qkf (x:Sl)(L:Ls):sls (some x::L)=x::sls L:=rfl
@[simp] theorem ww2:sls []=[]:=rfl
@[simp] theorem ww3 (T:List Sl):sls (T.map some)=T:=by simp[sls]
@[simp] theorem vw9 (k:Nat):sls (List.replicate k none)=[]:=by
 induction k with
 |zero=>rfl
 |succ k ih=>rw[List.replicate_succ,vkj,ih]
theorem jqw{α β:Type}(f:α->List β){l l':List α}(h:l.Sublist l'):(l.flatMap f).Sublist (l'.flatMap f):=by
 induction h with
 |slnil=>exact List.Sublist.refl _
 |cons a _ ih=>rw[Yw];exact List.Sublist.trans ih (List.sublist_append_right _ _)
 |cons_cons a _ ih=>rw[Yw,Yw];exact List.Sublist.append (List.Sublist.refl _) ih
section
variable {K:PySem.W.Frag}{H H':Hp}{L L' M M':Ls}
theorem World.same(w:World K H L)(p:(sls L).Perm (sls L')):World K H L':=by
 have po:(jq L).Perm (jq L'):=by rw[Q2,Q2];exact p.flatMap_right _
 have pf:(kj L).Perm (kj L'):=by rw[VQ,VQ];exact p.flatMap_right _
 exact⟨λx hx=>w.ok x (mem_sls.mp (p.mem_iff.mpr (mem_sls.mpr hx))),po.nodup_iff.mp w.nd,λa ha hf=>w.ds a (po.mem_iff.mpr ha) (pf.mem_iff.mpr hf)⟩
theorem Step.same(s:Step H L H' L')(p:(sls L).Perm (sls M))(p':(sls L').Perm (sls M')):Step H M H' M':=by
 have po:(jq L).Perm (jq M):=by rw[Q2,Q2];exact p.flatMap_right _
 have pf:(kj L).Perm (kj M):=by rw[VQ,VQ];exact p.flatMap_right _
 have po':(jq L').Perm (jq M'):=by rw[Q2,Q2];exact p'.flatMap_right _
 have pf':(kj L').Perm (kj M'):=by rw[VQ,VQ];exact p'.flatMap_right _
 exact⟨λa ob h hn=>s.keep a ob h λz=>hn (po.mem_iff.mp z),λa ha=>(s.own a (po'.mem_iff.mpr ha)).imp (λz=>po.mem_iff.mp z) id,
  λa ha=>(s.frz a (pf'.mem_iff.mpr ha)).imp (λz=>pf.mem_iff.mp z) λz=>z.imp (λz=>po.mem_iff.mp z) id⟩
theorem World.sub(w:World K H L)(p:(sls L').Sublist (sls L)):World K H L':=by
 refine⟨λx hx=>w.ok x (mem_sls.mp (p.subset (mem_sls.mpr hx))),?_,λa ha hf=>w.ds a ?_ ?_⟩
 ·have:=w.nd;rw[Q2]at this ⊢;exact(jqw _ p).nodup this
 ·rw[Q2]at ha ⊢;exact(jqw _ p).subset ha
 ·rw[VQ]at hf ⊢;exact(jqw _ p).subset hf
theorem Step.sub(s:Step H L H' L')(p:(sls M).Sublist (sls L')):Step H L H' M:=by
 refine⟨s.keep,λa ha=>s.own a ?_,λa ha=>s.frz a ?_⟩
 ·rw[Q2]at ha ⊢;exact(jqw _ p).subset ha
 ·rw[VQ]at ha ⊢;exact(jqw _ p).subset ha
end
theorem jz8:∀{L:Ls} {j:Nat},(sls (at' L j::L.set j none)).Perm (sls L)
 | [],j=>by simp[at',sls]
 | q::L,0=>by
  cases q with
  |none=>simp[at',sls]
  |some x=>simp[at',sls]
 | q::L,j+1=>by
  have ih:=jz8 (L:=L) (j:=j);have e:at' (q::L) (j+1)=at' L j:=by simp[at']
  rw[e,List.set_cons_succ];have e2:∀(a b:Option Sl) (M:Ls),(sls (a::b::M)).Perm (sls (b::a::M)):=λa b M=>by
   cases a<;>cases b<;>simp[sls]
   exact List.Perm.swap ..
  refine(e2 _ _ _).trans ?_;cases q with
  |none=>simpa [sls]using ih
  |some y=>simpa [sls]using ih
theorem qqd:∀{R:List Nat} {L:Ls},R.Nodup->(sls (R.map (at' L)++clr R L)).Perm (sls L)
 | [],L,_=>by simp[clr]
 | j::R,L,h=>by
  rw[List.nodup_cons]at h;have e:R.map (at' L)=R.map (at' (L.set j none)):=by
   apply Y5;intro i hi;have:j≠i:=λe=>h.1 (e▸hi)
   unfold at';rw[Ys this]
  rw[List.map_cons,List.cons_append,clr,e];have ih:=qqd (R:=R) (L:=L.set j none) h.2;refine List.Perm.trans ?_ (jz8 (L:=L) (j:=j));cases hq:at' L j with
  |none=>simpa [sls]using ih
  |some x=>simpa [sls]using ih
theorem vjd{α:Type}:∀{R:List Nat} {L:List (Option α)},(clr R L).length=L.length
 |[],_=>rfl
 |j::R,L=>by rw[clr,vjd,List.length_set]
theorem vje{α:Type}:∀{R:List Nat} {L:List (Option α)} {j:Nat},j∈R->at' (clr R L) j=none
 | [],_,_,h=>by cases h
 | i :: R,L,j,h=>by
  rw [clr]
  by_cases hR:j∈R
  ·exact vje hR
  ·have e:j=i:=by simpa [hR]using h
   subst e;have gen:∀{R:List Nat} {M:List (Option α)},j∉R->at' (clr R M) j=at' M j:=by
    intro R
    induction R with
    |nil=>intro M _;rfl
    |cons r R ih=>
     intro M h;rw[Yh,not_or]at h;rw[clr,ih h.2];unfold at';rw[Ys (Ne.symm h.1)]
   rw[gen hR];unfold at'
   by_cases hl:j<L.length
   ·rw[List.getElem?_set_self hl];rfl
   ·rw[List.set_eq_of_length_le (by omega),Yo (by omega)];rfl
theorem kzs:∀{R:List Nat} {B L:Ls},R.Nodup->(∀j∈R,at' L j=none)->(∀j∈R,j<L.length)->B.length=R.length->(sls (back R B L)).Perm (sls (B++L))
 | [],B,L,_,_,_,hl=>by
  have:B=[]:=by simpa using hl
  subst this;simp [back]
 | j :: R,[],L,_,_,_,hl=>by simp at hl
 | j :: R,q::B,L,hn,hz,hr,hl=>by
  rw [List.nodup_cons]at hn;rw [back];have hj:=hr j X3;have ih:=kzs (R:=R) (B:=B) (L:=L.set j q) hn.2 (λi hi=>by
   have:j≠i:=λe=>hn.1 (e▸hi)
   unfold at';rw [Ys this];exact hz i (lc9 _ hi)) (λi hi=>by rw[List.length_set];exact hr i (lc9 _ hi)) (by simpa using hl)
  refine ih.trans ?_;have sp:∀{M:Ls} {i:Nat},at' M i=none->i<M.length->(sls (M.set i q)).Perm (sls (q::M)):=by
   intro M
   induction M with
   | nil=>intro i _ h;simp at h
   | cons r M ihM=>
    intro i h1 h2;cases i with
    | zero=>
     have:r=none:=by simpa [at']using h1
     subst this;cases q<;>simp[sls]
    | succ i=>
     have:=ihM (i:=i) (by simpa [at']using h1) (by simpa using h2);rw[List.set_cons_succ];cases r with
     | none=>cases q<;>simpa [sls]using this
     | some y=>
      cases q with
      |none=>simpa [sls]using this
      |some x=>
       simp only[qkf]at this ⊢;exact(this.cons y).trans (List.Perm.swap ..)
  rw[Vx,List.cons_append];have h1:=sp (hz j X3) hj;have h2:(sls B++sls (L.set j q)).Perm (sls B++sls (q::L)):=h1.append_left _;refine h2.trans ?_;cases q with
  |none=>simp
  |some x=>
   simp only[qkf,Vx];exact List.perm_middle
section
variable {K:PySem.W.Frag}{H H1 H2 H':Hp}{L L1 L' T:Ls}{x y:Sl}
theorem Zv(p:L.Perm L'):(jq L).Perm (jq L'):=p.flatMap_right _
theorem jxz(p:L.Perm L'):(kj L).Perm (kj L'):=p.flatMap_right _
theorem World.perm(w:World K H L)(p:L.Perm L'):World K H L':=
 ⟨λx hx=>w.ok x (p.mem_iff.mpr hx),(Zv p).nodup_iff.mp w.nd,λa ha hf=>w.ds a ((Zv p).mem_iff.mpr ha) ((jxz p).mem_iff.mpr hf)⟩
theorem Step.perm(s : Step H L H' L'){M M' : Ls}(p : L.Perm M)(p' : L'.Perm M'): Step H M H' M':=
  ⟨λa ob h hn=>s.keep a ob h λz=>hn ((Zv p).mem_iff.mp z),
   λa ha=>(s.own a ((Zv p').mem_iff.mpr ha)).imp (λz=>(Zv p).mem_iff.mp z) id,
   λa ha=>(s.frz a ((jxz p').mem_iff.mpr ha)).imp (λz=>(jxz p).mem_iff.mp z) λz=>z.imp (λz=>(Zv p).mem_iff.mp z) id⟩
theorem Step.frm(s:Step H L H' L'):Step H (L++T) H' (L'++T) where
 keep:=λa ob h hn=>s.keep a ob h λz=>hn (by rw[kq];exact ll9 _ z)
 own:=λa ha=>by
  rw[kq]at ha ⊢;rcases List.mem_append.mp ha with z|z
  ·exact(s.own a z).imp (ll9 _) id
  ·exact .inl (lr9 _ z)
 frz:=λa ha=>by
  rw[qY]at ha ⊢;rw[kq];rcases List.mem_append.mp ha with z|z
  ·exact(s.frz a z).imp (ll9 _) λz=>z.imp (ll9 _) id
  ·exact .inl (lr9 _ z)
theorem WQ(w:World K H (T++L))(s:Step H L H' L')(w':World K H' L'):World K H' (T++L')/\Step H (T++L) H' (T++L'):=by
 have w1:World K H (L++T):=w.comm;exact⟨(s.frame w1 w' w1.left).comm,s.frm.perm List.perm_append_comm List.perm_append_comm⟩
end
theorem ex8{α β γ:Type}{P:Prop}{a b c d e:α->β->γ->Prop}(h:∃x y z,a x y z/\b x y z/\c x y z/\d x y z/\e x y z)(f:∀x y z,a x y z->b x y z->c x y z->d x y z->e x y z->P):P:=
 h.elim λx h=>h.elim λy h=>h.elim λz h=>f x y z h.1 h.2.1 h.2.2.1 h.2.2.2.1 h.2.2.2.2
theorem ex7{α β γ:Type}{P:Prop}{a b c d:α->β->γ->Prop}(h:∃x y z,a x y z/\b x y z/\c x y z/\d x y z)(f:∀x y z,a x y z->b x y z->c x y z->d x y z->P):P:=
 h.elim λx h=>h.elim λy h=>h.elim λz h=>f x y z h.1 h.2.1 h.2.2.1 h.2.2.2
theorem vx{X:Cx}{e:Expr}{t t':TE}(h:PE X e t)(w:∀ σ H Q,t' σ H Q->t σ H Q):PE X e t':=λpins s σ H Q I q=>h pins s σ H Q I (w σ H Q q)
theorem qwz{X:Cx}{e:Expr}{t t':TT}(h:PT X e t)(w:∀ σ H Q,t' σ H Q->t σ H Q):PT X e t':=λpins s σ H Q I q=>h pins s σ H Q I (w σ H Q q)
theorem Kz{X:Cx}{e:Stmt}{t t':TS}(h:PS X e t)(w:∀D σ H,t' D σ H->t D σ H):PS X e t':=λpins s σ H D I q=>h pins s σ H D I (w D σ H q)
theorem qx0{X:Cx}{e:List Stmt}{t t':TS}(h:PSs X e t)(w:∀D σ H,t' D σ H->t D σ H):PSs X e t':=λpins s σ H D I q=>h pins s σ H D I (w D σ H q)
structure Fx0 where
 K:PySem.W.Frag
 mg:Str->Option Value
 EX:XK
noncomputable def Xc{α:Type}(Z:Fx0)(σ:L2.St)(H:Hp)(L:Ls)(r:Res α):Prop:=∀E' c,r=.exc E' c->∀C L' H',Z.mg c=some (.ref C)->Mt E' σ L'->World Z.K H' L'->Step H L H' L'->Z.EX (.ref C) none H'
theorem Xc.step{α:Type}{Z:Fx0}{σ:L2.St}{H H1:Hp}{L L1:Ls}{r:Res α}(x:Xc Z σ H L r)(s:Step H L H1 L1):Xc Z σ H1 L1 r:=λE' c e C L' H' hm m w s'=>x E' c e C L' H' hm m w (s.trans s')
theorem Xc.map{α β:Type}{Z:Fx0}{σ:L2.St}{H:Hp}{L:Ls}{r:Res α}{E':En}{c:Str}(x:Xc Z σ H L r)(e:r=.exc E' c):Xc Z σ H L (.exc E' c:Res β):=λE1 c1 e1=>by
 injection e1 with h1 h2;subst h1 h2;exact x _ _ e
noncomputable def tQ(Z:Fx0)(q:Bool)(c:Ex):TE:=fun σ H Q=>∃E L r,Mt E σ L/\World Z.K H L/\c E=some r/\Xc Z σ H L r /\
 ∀E' a,r=.ok E' a->∀(x:Sl) L' H',x.o=a.1->x.d=a.2->Mt E' σ L'->World Z.K H' (some x::L')->Step H L H' (some x::L')->(q=true->kJ H H'/\∀b∈x.own,H b=none)->Q x.v H'
noncomputable def Src(H:Hp)(L:Ls)(as:List Addr):Prop:=∀b∈as,b∈kj L\/b∈jq L\/H b=none
theorem Src.back{H H1:Hp}{L L1:Ls}{as:List Addr}(h:Src H1 L1 as)(s:Step H L H1 L1):Src H L as:=λb hb=>by
 rcases h b hb with z|z|z
 ·exact s.frz b z
 ·exact .inr (s.own b z)
 ·by_cases ho:b∈jq L
  ·exact .inr (.inl ho)
  ·refine .inr (.inr ?_);cases e:H b with
   |none=>rfl
   |some ob=>rw[s.keep b ob e ho]at z;cases z
noncomputable def tV(Z:Fx0)(q:Bool)(c:Ex):TE:=fun σ H Q=>∃E L r,Mt E σ L/\World Z.K H L/\c E=some r/\Xc Z σ H L r /\
 ∀E' a,r=.ok E' a->∀(x:Sl) L' H',x.o=a.1->x.d=a.2->Mt E' σ L'->World Z.K H' L'->x.ok Z.K H'->(∀b∈x.frz,b∉jq L')->Src H L x.as->Step H L H' L'->(q=true->kJ H H')->Q x.v H'
noncomputable def QE(X:Cx)(Z:Fx0)(q:Bool)(c:Ex)(e:Expr):Prop:=PE X e (tQ Z q c)
noncomputable def QV(X:Cx)(Z:Fx0)(q:Bool)(c:Ex)(e:Expr):Prop:=PE X e (tV Z q c)
section
variable {X:Cx}{Z:Fx0}{q qa qb:Bool}{a b c:Ex}{e ea eb:Expr}{pos:Pos}{α:Type}{σ:L2.St}{H:Hp}{L:Ls}{E:En}
theorem z4{β:Type}{m:Option (Res α)}{F:En->α->Option (Res β)}{r:Res β}(h:bnd m F=some r):(∃E1 x,m=some (.ok E1 x)/\F E1 x=some r)\/∃E1 c,m=some (.exc E1 c)/\r=.exc E1 c:=by
 cases m with
 |none=>cases h
 |some q=>
  cases q with
  |ok E1 x=>exact .inl ⟨E1,x,rfl,h⟩
  |exc E1 c=>exact .inr ⟨E1,c,rfl,(oq9 h).symm⟩
theorem VX{F:En->Sd->Option (Res α)}{r:Res α}{G:VK}(m:Mt E σ L)(w:World Z.K H L)(h:bnd (a E) F=some r)(xc:Xc Z σ H L r)
  (k:∀E1 s,F E1 s=some r->∀(x:Sl) L1 H1,x.o=s.1->x.d=s.2->Mt E1 σ L1->World Z.K H1 (some x::L1)->Step H L H1 (some x::L1)->(q=true->kJ H H1/\∀b∈x.own,H b=none)->G x.v H1):tQ Z q a σ H G:=by
 rcases z4 h with⟨E1,s,h1,h2⟩|⟨E1,c,h1,h2⟩
 ·exact⟨E,L,_,m,w,h1,(λ_ _ z=>by cases z),λE' s' z x L' H' e1 e2 m' w' st sm=>by
   injection z with z1 z2;subst z1 z2;exact k _ _ h2 x L' H' e1 e2 m' w' st sm⟩
 ·exact⟨E,L,_,m,w,h1,xc.map h2,λE' s' z=>by cases z⟩
theorem x9{F:En->Sd->Option (Res α)}{r:Res α}{G:VK}(m:Mt E σ L)(w:World Z.K H L)(h:bnd (a E) F=some r)(xc:Xc Z σ H L r)
  (k:∀E1 s,F E1 s=some r->∀(x:Sl) L1 H1,x.o=s.1->x.d=s.2->Mt E1 σ L1->World Z.K H1 L1->x.ok Z.K H1->(∀b∈x.frz,b∉jq L1)->Src H L x.as->Step H L H1 L1->(q=true->kJ H H1)->G x.v H1):tV Z q a σ H G:=by
 rcases z4 h with⟨E1,s,h1,h2⟩|⟨E1,c,h1,h2⟩
 ·exact⟨E,L,_,m,w,h1,(λ_ _ z=>by cases z),λE' s' z x L' H' e1 e2 m' w' ok fr sr st sm=>by
   injection z with z1 z2;subst z1 z2;exact k _ _ h2 x L' H' e1 e2 m' w' ok fr sr st sm⟩
 ·exact⟨E,L,_,m,w,h1,xc.map h2,λE' s' z=>by cases z⟩
theorem ZX{x:Sl}{K:PySem.W.Frag}{H1 H2:Hp}{L1 L2':Ls}(ok:x.ok K H1)(fr:∀b∈x.frz,b∉jq L1)(st:Step H1 L1 H2 L2')(sm:kJ H1 H2):x.ok K H2/\∀b∈x.frz,b∉jq L2':=
 ⟨RepO.kp ok (Kp.of_same sm),λb hb ho=>(st.own b ho).elim (fr b hb) λz=>ok.some (Sl.frz_as hb) z⟩
theorem K6{x:Option α}{r:Res α}(h:val E x=some r):∃y,x=some y/\r=.ok E y:=by
 cases x with
 |none=>cases h
 |some y=>exact⟨y,rfl,(oq9 h).symm⟩
theorem QE.weak(h:QE X Z true c e):QE X Z q c e:=vx h fun σ H Q ai=>ex8 ai λE L r m w hc xc k=>⟨E,L,r,m,w,hc,xc,λE' s z x L' H' e1 e2 m' w' st sm=>k E' s z x L' H' e1 e2 m' w' st λ_=>sm rfl⟩
theorem jz7{x:Sl}{H1:Hp}{L1:Ls}(st:Step H L H1 (some x::L1)):Src H L x.as:=λb hb=>by
 rcases Sl.as_of hb with z|z
 ·exact .inr (st.own b (by rw[qk];exact ll9 _ z))
 ·exact st.frz b (by rw[wJ];exact ll9 _ z)
theorem j4(h:QE X Z q c e):QV X Z q (vE c) e:=vx h fun σ H Q ai=>ex8 ai λE L r m w hc xc k=>
 VX m w hc xc λE1 s h1 x L1 H1 e1 e2 m1 w1 st sm=>by
  cases oq9 h1;exact k _ _ rfl x.let L1 H1 rfl e2 m1 w1.tail (Kv w1.head) (λb hb=>w1.apart b hb) (jz7 (x:=x) st) (st.trans Step.drop) λhq=>(sm hq).1
theorem V2{x:Sl}{H1:Hp}{L1:Ls}(st:Step H L H1 L1)(sr:Src H L x.as)(ho:x.own=[]):Step H L H1 (some x::L1) where
 keep:=st.keep
 own:=λb hb=>by rw[qk,ho]at hb;exact st.own b hb
 frz:=λb hb=>by
  rw[wJ]at hb;rcases List.mem_append.mp hb with z|z
  ·exact sr b (Sl.frz_as z)
  ·exact st.frz b z
theorem qxb{x:Sl}(h:x.o=.no):x.own=[]:=by unfold Sl.own;rw[h]
theorem kz8{x:Sl}(h:x.o=.no):x.frz=x.as:=by unfold Sl.frz;rw[h]
theorem vx9{x:Sl}(h:x.as=[]):x.own=[]:=List.eq_nil_iff_forall_not_mem.mpr λa ha=>by have:=Sl.own_as ha;rw[h]at this;exact nomatch this
theorem jW(h:QV X Z q c e):QE X Z q (cH c) e:=vx h fun σ H Q ai=>ex8 ai λE L r m w hc xc k=>
 x9 m w hc xc λE1 s h1 x L1 H1 e1 e2 m1 w1 ok fr sr st sm=>by
  by_cases ho:s.1=.no
  ·rw[X9 ho]at h1;cases oq9 h1;have eo:x.o=.no:=e1.trans ho;exact k _ _ rfl x L1 H1 eo e2 m1 (w1.consNo ok eo λb hb=>fr b (by rw[kz8 eo];exact hb)) (V2 st sr (qxb eo)) λhq=>⟨sm hq,by rw[qxb eo];exact λ_ z=>(nomatch z)⟩
  ·rw[Xd ho]at h1
   by_cases hp:s.2.pure=true
   ·rw[X9 hp]at h1;cases oq9 h1;obtain⟨z,rp⟩:=RepL.pu (g':=false) (RepO.wk ok) (by rw[e2];exact hp);exact k _ _ rfl ⟨.dp,x.d,x.v,[]⟩ L1 H1 rfl e2 m1 (w1.consPu rp rfl) (V2 (x:=⟨.dp,x.d,x.v,[]⟩) st (λb hb=>nomatch hb) rfl) λhq=>⟨sm hq,λ_ z=>(nomatch z)⟩
   ·rw[Xd hp]at h1;cases h1
theorem q_C{d:D}{v:V}(h:PE X e (tC v))(hr:∀H,RepL Z.K H false d v []):QE X Z true (cC d) e:=vx h fun σ H Q ai=>ex8 ai λE L r m w hc xc k=>by
 cases oq9 hc;exact k _ _ rfl ⟨.dp,d,v,[]⟩ L H rfl rfl m (w.consPu (hr H) rfl) (V2 (x:=⟨.dp,d,v,[]⟩) Step.refl (λb hb=>nomatch hb) rfl) λ_=>⟨λ_ _ z=>z,λ_ z=>(nomatch z)⟩
theorem q_V{i:Nat}(h:PE X e (Kx i)):QE X Z true (cV i) e:=vx h fun σ H Q ai=>ex8 ai λE L r m w hc xc k=>by
 unfold cV at hc
 split at hc
 ·rename_i o d hE;cases oq9 hc;obtain⟨x,h1,h2,h3,h4⟩:=m.get hE;refine⟨x.v,h4,k _ _ rfl x.let _ H rfl h3 ?_ (w.read h1) (Step.read h1) λ_=>⟨λ_ _ z=>z,λ_ z=>(nomatch z)⟩⟩;have:=m.let h1
  rwa [h3]at this
 ·cases hc
theorem qxq:∀{E:En} {σ:L2.St} {L:Ls} (j:Nat),Mt E σ L->Mt (E.set j none) σ (L.set j none):=by
 intro E σ L j m
 induction m generalizing j with
 |nil=>exact .nil
 |un m ih=>cases j with
  |zero=>exact .un m
  |succ j=>exact .un (ih j)
 |cons m ih=>cases j with
  |zero=>exact .un m
  |succ j=>exact .cons (ih j)
theorem jzc{x:Sl}:∀{L:Ls} {i:Nat},L[i]?=some (some x)->(none::L).Perm (some x::L.set i none)
 |[],_,h=>by simp at h
 |q::L,0,h=>by
  have e:q=some x:=by simpa using h
  subst e;exact List.Perm.swap ..
 |q::L,i+1,h=>by
  have:=jzc (L:=L) (i:=i) (by simpa using h);rw[List.set_cons_succ];exact(List.Perm.swap ..).trans ((this.cons q).trans (List.Perm.swap ..))
theorem XY{i:Nat}(h:PE X e (Kx i)):QE X Z false (cMv i) e:=vx h fun σ H Q ai=>ex8 ai λE L r m w hc xc k=>by
 unfold cMv at hc
 split at hc
 ·rename_i s hE;cases oq9 hc;obtain⟨o,d⟩:=s;obtain⟨x,h1,h2,h3,h4⟩:=m.get hE;have wn:World Z.K H (none::L):=⟨λy hy=>w.ok y (by simpa using hy),by simpa using w.nd,by simpa using w.ds⟩;have sn:Step H L H (none::L):=⟨λ_ _ z _=>z,λa z=>.inl (by simpa using z),λa z=>.inl (by simpa using z)⟩;exact⟨x.v,h4,k _ _ rfl x _ H h2 h3 (qxq i m) (wn.perm (jzc h1)) (sn.trans (Step.refl.perm (List.Perm.refl _) (jzc h1))) λz=>(nomatch z)⟩
 ·cases hc
theorem q_vV{i:Nat}(h:PE X e (Kx i)):QV X Z true (vV i) e:=vx h fun σ H Q ai=>ex8 ai λE L r m w hc xc k=>by
 unfold vV at hc
 split at hc
 ·rename_i s hE;cases oq9 hc;obtain⟨o,d⟩:=s;obtain⟨x,h1,h2,h3,h4⟩:=m.get hE;have hx:=xq h1;refine⟨x.v,h4,k _ _ rfl x L H h2 h3 m w (w.ok x hx) (λb hb ho=>w.ds b ho (mem_frozen.mpr ⟨x,hx,hb⟩)) (λb hb=>?_) Step.refl λ_=>λ_ _ z=>z⟩;rcases Sl.as_of hb with z|z
  ·exact .inr (.inl (mem_owned.mpr ⟨x,hx,z⟩))
  ·exact .inl (mem_frozen.mpr ⟨x,hx,z⟩)
 ·cases hc
structure Out (K:PySem.W.Frag)(H H':Hp)(z:Sl)(fr:List Addr):Prop where
 same:kJ H H'
 ok:z.ok K H'
 new:∀b∈z.own,H b=none
 nd:z.own.Nodup
 fr:∀b∈z.frz,b∈fr
noncomputable def Ad1(K:PySem.W.Frag)(r:V->Hp->VK->Prop)(f:Sd->Option Sd):Prop:=∀(H:Hp) (x:Sl) (s:Sd) (Q:VK),x.ok K H->f (x.o,x.d)=some s->(∀(z:Sl) H',z.o=s.1->z.d=s.2->Out K H H' z x.frz->Q z.v H')->r x.v H Q
noncomputable def Ad2(K:PySem.W.Frag)(r:R2)(f:Sd->Sd->Option Sd):Prop:=∀(H:Hp) (x y:Sl) (s:Sd) (Q:VK),x.ok K H->y.ok K H->f (x.o,x.d) (y.o,y.d)=some s->(∀(z:Sl) H',z.o=s.1->z.d=s.2->Out K H H' z (x.frz++y.frz)->Q z.v H')->r x.v y.v H Q
theorem kjv{K:PySem.W.Frag}{H H':Hp}{d:D}{v:V}{fr:List Addr}(s:kJ H H')(r:RepL K H' false d v []):Out K H H' ⟨.dp,d,v,[]⟩ fr:=⟨s,r,λ_ h=>(nomatch h),Xx,λ_ h=>(nomatch h)⟩
theorem zQ{H:Hp}:kJ H H:=λ_ _ z=>z
theorem v8{H H1 H2:Hp}(a:kJ H H1)(b:kJ H1 H2):kJ H H2:=λc ob h=>b c ob (a c ob h)
theorem Vj{z:Sl}{fr:List Addr}{H1 H2:Hp}{L1:Ls}(w:World Z.K H1 L1)(st:Step H L H1 L1)(o:Out Z.K H1 H2 z fr)(ap:∀b∈fr,b∉jq L1)(al:∀b∈fr,H1 b≠none)(sr:Src H L fr):
  World Z.K H2 (some z::L1)/\Step H L H2 (some z::L1):=by
 have w2:World Z.K H2 L1:=⟨λx hx=>RepO.kp (w.ok x hx) (Kp.of_same o.same),w.nd,w.ds⟩;refine⟨w2.cons o.ok o.nd (λb hb ho=>w.own_some ho (o.new b hb)) (λb hb hf=>w.frz_some hf (o.new b hb)) (λb hb=>ap b (o.fr b hb)) (λb hb hf=>al b (o.fr b hf) (o.new b hb)),?_⟩;refine⟨λb ob h hn=>o.same b ob (st.keep b ob h hn),λb hb=>?_,λb hb=>?_⟩
 ·rw[qk]at hb;rcases List.mem_append.mp hb with z|z
  ·by_cases ho:b∈jq L
   ·exact .inl ho
   ·refine .inr ?_;cases e:H b with
    |none=>rfl
    |some ob=>have:=o.new b z;rw[st.keep b ob e ho]at this;cases this
  ·exact st.own b z
 ·rw[wJ]at hb;rcases List.mem_append.mp hb with z|z
  ·exact sr b (o.fr b z)
  ·exact st.frz b z
theorem jz6{as bs:List Addr}(h:Src H L as)(hb:∀b∈bs,b∈as):Src H L bs:=λb z=>h b (hb b z)
theorem vw8{as bs:List Addr}(h:Src H L as)(h':Src H L bs):Src H L (as++bs):=λb z=>(List.mem_append.mp z).elim (h b) (h' b)
theorem zZ{H H1:Hp}{b:Addr}(s:kJ H H1)(h:H1 b=none):H b=none:=by
 cases e:H b with
 |none=>rfl
 |some ob=>rw[s b ob e]at h;cases h
theorem kk5{r:V->Hp->VK->Prop}{f:Sd->Option Sd}(ad:Ad1 Z.K r f){Q:VK}(h:tQ Z q (cF1 f a) σ H Q):tUn r (tV Z q a) σ H Q:=by
 obtain⟨E,L,R,m,w,hc,xc,k⟩:=h;refine x9 m w hc xc λE1 s h1 x L1 H1 e1 e2 m1 w1 ok fr sr st sm=>?_
 obtain⟨z,hz,rfl⟩:=K6 h1;refine ad H1 x z Q ok (by rw[e1,e2];exact hz) λy H' ho hd o=>?_
 obtain⟨w3,cw⟩:=Vj w1 st o fr (λb hb=>ok.some (Sl.frz_as hb)) (jz6 sr λb hb=>Sl.frz_as hb);exact k _ _ rfl y L1 H' ho hd m1 w3 cw λhq=>⟨v8 (sm hq) o.same,λb hb=>zZ (sm hq) (o.new b hb)⟩
theorem kk4{r:R2}{f:Sd->Sd->Option Sd}(ad:Ad2 Z.K r f){Q:VK}(h:tQ Z qa (cF2 f a b) σ H Q):tOp r (tV Z qa a) (tV Z true b) σ H Q:=by
 obtain⟨E,L,R,m,w,hc,xc,k⟩:=h;refine x9 m w hc xc λE1 s h1 x L1 H1 e1 e2 m1 w1 ok fr sr st sm=>?_
 refine x9 m1 w1 h1 (xc.step st) λE2 s2 h2 y L2 H2 e3 e4 m2 w2 jm sv sy b7 fj=>?_
 obtain⟨z,hz,rfl⟩:=K6 h2;have kx:=ZX ok fr b7 (fj rfl);refine ad H2 x y z Q kx.1 jm (by rw[e1,e2,e3,e4];exact hz) λy' H' ho hd o=>?_
 obtain⟨w3,cw⟩:=Vj w2 (st.trans b7) o (λb hb=>(List.mem_append.mp hb).elim (kx.2 b) (sv b)) (λb hb=>(List.mem_append.mp hb).elim (λz=>kx.1.some (Sl.frz_as z)) λz=>jm.some (Sl.frz_as z))
  (vw8 (jz6 sr λb hb=>Sl.frz_as hb) (jz6 (sy.back st) λb hb=>Sl.frz_as hb))
 exact k _ _ rfl y' L2 H' ho hd m2 w3 cw λhq=>⟨v8 (sm hq) (v8 (fj rfl) o.same),λb hb=>zZ (v8 (sm hq) (fj rfl)) (o.new b hb)⟩
theorem xk{op:Operator}{r:R2}{f:Sd->Sd->Option Sd}(ho:OpR X (binaryOp op) r)(ad:Ad2 Z.K r f)(ha:QV X Z qa a ea)(hb:QV X Z true b eb):QE X Z qa (cF2 f a b) (.BinOp ea op eb pos):=
 vx (wwm ho ha hb) fun σ H Q h=>kk4 ad h
theorem x8{op:CmpOp}{r:R2}{f:Sd->Sd->Option Sd}(ho:OpR X (compareOp op) r)(ad:Ad2 Z.K r f)(ha:QV X Z qa a ea)(hb:QV X Z true b eb)(hm:behindInMarks op eb=false):QE X Z qa (cF2 f a b) (.Compare ea [op] [eb] pos):=
 vx (vx5 ho ha hb hm) fun σ H Q h=>kk4 ad h
theorem vzz{op:UnaryOp}{r:V->Hp->VK->Prop}{f:Sd->Option Sd}(ho:UnR X (unaryOp op) r)(ad:Ad1 Z.K r f)(ha:QV X Z q a ea):QE X Z q (cF1 f a) (.UnaryOp op ea pos):=
 vx (wwk ho ha) fun σ H Q h=>kk5 ad h
theorem RepA.get{K:PySem.W.Frag}{H:Hp}{g:Bool}:∀{ds:List D} {xs:List V} {as:List Addr} {i:Nat} {d:D},RepA K H g ds xs as->ds[i]?=some d->∃v bs,xs[i]?=some v/\RepL K H g d v bs/\∀b∈bs,b∈as
 | [],_,_,_,_,_,e=>by simp at e
 | d::ds,_,_,i,d',h,e=>by
  unfold RepA at h;obtain⟨x,r,bs,cs,rfl,rfl,h1,h2⟩:=h;cases i with
  |zero=>
   have e:d=d':=by simpa using e
   subst e;exact⟨x,bs,by simp,h1,λb hb=>ll9 _ hb⟩
  |succ i=>
   obtain⟨v,db,e1,e2,e3⟩:=RepA.get (i:=i) h2 (by simpa using e);exact⟨v,db,by simpa using e1,e2,λb hb=>lr9 _ (e3 b hb)⟩
theorem RepA.len{K:PySem.W.Frag}{H:Hp}{g:Bool}:∀{ds:List D} {xs:List V} {as:List Addr},RepA K H g ds xs as->ds.length=xs.length
 |[],_,_,h=>by unfold RepA at h;rw[h.1];rfl
 |d::ds,_,_,h=>by
  unfold RepA at h;obtain⟨x,r,bs,cs,rfl,rfl,h1,h2⟩:=h;simp[RepA.len h2]
theorem items{K:PySem.W.Frag}{H:Hp}{x:Sl}{ds:List D}(ok:x.ok K H)(h:x.d=.lst ds\/x.d=.tup ds):∃a xs bs,x.v=.ref a/\((x.d=.lst ds/\LsR K H a xs)\/(x.d=.tup ds/\SqT K H a xs))/\RepA K H (x.o != .dp) ds xs bs/\(∀b∈bs,b∈x.as)/\(x.o≠.dp->∀b∈bs,b∈x.frz):=by
 obtain⟨o,d,v,as⟩:=x;dsimp only at h;rcases h with rfl|rfl
 ·cases o with
  |no=>
   have ok:RepL K H true (.lst ds) v as:=ok;unfold RepL at ok;obtain⟨a,xs,bs,rfl,r,q⟩:=ok;rcases q with⟨q,rfl⟩|⟨_,q,rfl⟩
   ·exact⟨a,xs,bs,rfl,.inl ⟨rfl,.inl (.inl q)⟩,r,λb hb=>lc9 _ hb,λ_ b hb=>lc9 _ hb⟩
   ·exact⟨a,xs,as,rfl,.inl ⟨rfl,.of q⟩,r,λb hb=>hb,λ_ b hb=>hb⟩
  |rt=>
   obtain⟨a,xs,bs,rfl,r,q,rfl⟩:=(show RepR K H (.lst ds) v as from ok);exact⟨a,xs,bs,rfl,.inl ⟨rfl,.inl (.inl q)⟩,r,λb hb=>lc9 _ hb,λ_ b hb=>by simpa [Sl.frz]using hb⟩
  |dp=>
   have ok:RepL K H false (.lst ds) v as:=ok;unfold RepL at ok;obtain⟨a,xs,bs,rfl,r,q⟩:=ok;rcases q with⟨q,rfl⟩|⟨z,_⟩
   ·exact⟨a,xs,bs,rfl,.inl ⟨rfl,.inl (.inl q)⟩,r,λb hb=>lc9 _ hb,λz=>absurd rfl z⟩
   ·cases z
 ·cases o with
  |no=>
   have ok:RepL K H true (.tup ds) v as:=ok;unfold RepL at ok;obtain⟨a,xs,rfl,q,r⟩:=ok;exact⟨a,xs,as,rfl,.inr ⟨rfl,q⟩,r,λb hb=>hb,λ_ b hb=>hb⟩
  |rt=>exact(show RepR K H (.tup ds) v as from ok).elim
  |dp=>
   have ok:RepL K H false (.tup ds) v as:=ok;unfold RepL at ok;obtain⟨a,xs,rfl,q,r⟩:=ok;exact⟨a,xs,as,rfl,.inr ⟨rfl,q⟩,r,λb hb=>hb,λz=>absurd rfl z⟩
theorem J4{K:PySem.W.Frag}{H:Hp}{x:Sl}{ds:List D}(ok:x.ok K H)(h:x.d=.lst ds\/x.d=.tup ds)(hl:v5 (x.o,x.d)=true):∃a xs bs,x.v=.ref a/\((x.d=.lst ds/\LsR K H a xs)\/(x.d=.tup ds/\SqT K H a xs))/\RepA K H true ds xs bs/\(∀b∈bs,b∈x.frz):=by
 obtain⟨a,xs,bs,e,q,r,h1,h2⟩:=items ok h
 by_cases ho:x.o=.dp
 ·have hp:D.pures ds=true:=by
   unfold v5 at hl;rw[show(x.o,x.d).1=Own.dp from ho]at hl;have:wze x.d=ds:=by rcases h with h|h<;>rw[h]<;>rfl
   simpa [this]using hl
  obtain⟨rfl,r'⟩:=RepA.pu (g':=true) r hp;exact⟨a,xs,[],e,q,r',λ_ z=>nomatch z⟩
 ·have:(x.o != Own.dp)=true:=by simpa using ho
  rw[this]at r;exact⟨a,xs,bs,e,q,r,h2 ho⟩
end
section
variable {K:PySem.W.Frag}{H:Hp}{x y:Sl}
theorem vw{i:Int}(ok:x.ok K H)(h:x.d=.int i):x.v=.int i:=by
 have:=RepO.wk ok;rw[h]at this;unfold RepL at this;exact this.1
theorem Wj{i:Bool}(ok:x.ok K H)(h:x.d=.bl i):x.v=.bl i:=by
 have:=RepO.wk ok;rw[h]at this;unfold RepL at this;exact this.1
theorem vvl(ok:x.ok K H)(h:x.d=.non):x.v=.non:=by
 have:=RepO.wk ok;rw[h]at this;unfold RepL at this;exact this.1
theorem z9{z:Str}(ok:x.ok K H)(h:x.d=.str z):x.v=.str z/\z.length<=sizeLine:=by
 have:=RepO.wk ok;rw[h]at this;unfold RepL at this;exact⟨this.1,this.2.2⟩
theorem V1{i:Int}{g:Bool}:RepL K H g (.int i) (.int i) []:=by unfold RepL;exact⟨rfl,rfl⟩
theorem Vw{i:Bool}{g:Bool}:RepL K H g (.bl i) (.bl i) []:=by unfold RepL;exact⟨rfl,rfl⟩
theorem qj9{g:Bool}:RepL K H g .non .non []:=by unfold RepL;exact⟨rfl,rfl⟩
theorem kkh{z:Str}{g:Bool}(h:z.length<=sizeLine):RepL K H g (.str z) (.str z) []:=by unfold RepL;exact⟨rfl,rfl,h⟩
theorem Kk{i:Int}{fr:List Addr}:Out K H H ⟨.dp,.int i,.int i,[]⟩ fr:=kjv zQ V1
theorem xY{i:Bool}{fr:List Addr}:Out K H H ⟨.dp,.bl i,.bl i,[]⟩ fr:=kjv zQ Vw
theorem wwq{z:Str}{fr:List Addr}(h:z.length<=sizeLine):Out K H H ⟨.dp,.str z,.str z,[]⟩ fr:=kjv zQ (kkh h)
theorem vzw{C:Int->Int->Prop}{g:Int->Int->Int}{f:Int->Int->Option Int}(h:∀i j k,f i j=some k->C i j/\k=g i j):Ad2 K (rI C λi j=>.int (g i j)) (pu2 (i2 f)):=by
 intro H x y s Q ox oy hf k;unfold pu2 i2 at hf;dsimp only at hf
 split at hf
 ·rename_i i j e1 e2;cases hk:f i j with
  |none=>rw[hk]at hf;cases hf
  |some n=>
   rw[hk]at hf;cases oq9 hf;obtain⟨hc,rfl⟩:=h i j n hk;exact⟨i,j,vw ox e1,vw oy e2,hc,k ⟨.dp,.int (g i j),.int (g i j),[]⟩ H rfl rfl Kk⟩
 ·cases hf
theorem wxl{g:Int->Int->Int}{f:Int->Int->Option Int}(h:∀i j,f i j=some (g i j)):Ad2 K (rI0 λi j=>.int (g i j)) (pu2 (i2 f)):=by
 intro H x y s Q ox oy hf k;unfold pu2 i2 at hf;dsimp only at hf
 split at hf
 ·rename_i i j e1 e2;rw[h]at hf;cases oq9 hf;exact⟨i,j,vw ox e1,vw oy e2,k ⟨.dp,.int (g i j),.int (g i j),[]⟩ H rfl rfl Kk⟩
 ·cases hf
theorem Qz{g:Int->Int->Bool}:Ad2 K (rI0 λi j=>.bl (g i j)) (pu2 (c2 g)):=by
 intro H x y s Q ox oy hf k;unfold pu2 c2 at hf;dsimp only at hf
 split at hf
 ·rename_i i j e1 e2;cases oq9 hf;exact⟨i,j,vw ox e1,vw oy e2,k ⟨.dp,.bl (g i j),.bl (g i j),[]⟩ H rfl rfl xY⟩
 ·cases hf
theorem qqn:Ad2 K (rI0 λi j=>.int (i - j)) (pu2 V5):=wxl λ_ _=>rfl
theorem YW:Ad2 K (rI wve λi j=>.int (i / j)) (pu2 wZ):=vzw λi j k h=>by
 split at h
 ·rename_i c;exact⟨c,(oq9 h).symm⟩
 ·cases h
theorem wv8:Ad2 K (rI (λ_ j=>0<j) λi j=>.int (i % j)) (pu2 jY):=vzw λi j k h=>by
 split at h
 ·rename_i c;exact⟨c,(oq9 h).symm⟩
 ·cases h
theorem kzu:Ad2 K (rI wzk λi j=>.int (i ^ j.toNat)) (pu2 zW):=vzw λi j k h=>by
 split at h
 ·rename_i c;exact⟨c,(oq9 h).symm⟩
 ·cases h
end
noncomputable def wjv(K:PySem.W.Frag):R2:=λx y H Q=>∃l b xs zs,x=.ref l/\y=.ref b/\LsR K H l xs/\LsR K H b zs/\xs.length+zs.length<=sizeLine/\∀p,H p=none->Q (.ref p) (upd H p (.lst (xs++zs)))
theorem op_catL{X:Cx}:OpR X (binaryOp .Add) (wjv X.K):=by
 intro pins s σ H x y v u Q I rx ry h;obtain⟨l,b,xs,zs,rfl,rfl,hH,hB,hz,q⟩:=h;cases rx;cases ry;obtain⟨z,aa,n,r,e⟩:=hH.is I;obtain⟨z2,gf,n2,r2,e2⟩:=hB.is I;have hl:=r.length;have tq:=r2.length;refine PySem.P.add_list e e2 ?_ (by rw[X7,X7];omega);have ea:aa.toArray++gf.toArray=(aa++gf).toArray:=by simp
 rw[ea];exact⟨.ref _,_,I.lnew (t':=s.toks) (r.append r2) (by rw[Xi];omega),rfl,q _ I.fresh⟩
noncomputable def wjw(K:PySem.W.Frag):R2:=λx y H Q=>∃a b ys,x=.ref a/\y=.ref b/\SqT K H a []/\SqT K H b ys/\Q (.ref b) H
theorem op_catE{X:Cx}:OpR X (binaryOp .Add) (wjw X.K):=by
 intro pins s σ H x y v u Q I rx ry h;obtain⟨a,b,ys,rfl,rfl,ha,hb,q⟩:=h;cases rx;cases ry;obtain⟨aa,r1,p1,_⟩:=I.tuple ha;obtain⟨gf,r2,p2,_⟩:=I.tuple hb;obtain⟨⟨cls,dd,data,sl⟩,ho,hc,n,hd⟩:=id p1;obtain⟨⟨cls2,dd2,data2,nq⟩,ho2,hc2,n2,pi⟩:=id p2;simp only at hc hd hc2 pi;subst hc hd hc2 pi;have e:aa=[]:=r1.nil_iff.mpr rfl;subst e;exact concat_meets ⟨_,ho,rfl⟩ ⟨_,ho2,rfl⟩ noFill_tuple_add seq_tuple_add PySem.F.slot_tuple_add PySem.F.entry_tuple_add (PySem.F.args_tuple_add_2 _ _)
   (tuple_addW0 a b [].toArray gf.toArray n n2 dd dd2 sl nq (by simp)) ⟨ho,ho2,⟨.ref b,H,I,rfl,q⟩⟩
noncomputable def wjx(K:PySem.W.Frag):R2:=λx y H Q=>rI0 (λi j=>.int (i+j)) x y H Q\/(∃i j,x=.str i/\y=.str j/\i.length+j.length<=sizeLine/\Q (.str (i++j)) H)\/wjv K x y H Q\/wjw K x y H Q\/wju K x y H Q
theorem wky{X:Cx}{K:PySem.W.Frag}(hK:X.K=K):OpR X (binaryOp .Add) (wjx K):=by subst hK;exact op_add.or (op_add_str.or (op_catL.or (op_catE.or vxd)))
theorem RepA.app{K:PySem.W.Frag}{H:Hp}{g:Bool}{ds':List D}{xs':List V}{db:List Addr}(h':RepA K H g ds' xs' db):∀{ds:List D} {xs:List V} {as:List Addr},RepA K H g ds xs as->RepA K H g (ds++ds') (xs++xs') (as++db)
 |[],_,_,h=>by unfold RepA at h;rw[h.1,h.2];exact h'
 |d::ds,_,_,h=>by
  unfold RepA at h;obtain⟨x,r,bs,cs,rfl,rfl,h1,h2⟩:=h;rw[List.cons_append];unfold RepA;exact⟨x,r++xs',bs,cs++db,rfl,by rw[Xz],h1,RepA.app h' h2⟩
theorem wY{H:Hp}{p:Addr}{o:HO}(h:H p=none):kJ H (upd H p o):=λb u q=>by rw[v4 (JY q h)];exact q
theorem Q4{K:PySem.W.Frag}{H:Hp}{p:Addr}{ds:List D}{xs:List V}{bs fr:List Addr}(hp:H p=none)(r:RepA K H true ds xs bs)(hb:∀b∈bs,b∈fr):Out K H (upd H p (.lst xs)) ⟨.rt,.lst ds,.ref p,p::bs⟩ fr:=by
 refine⟨wY hp,⟨p,xs,bs,rfl,r.kp (Kp.of_same (wY hp)),xJ,rfl⟩,λb hb=>?_,?_,λb f7=>hb b (by simpa [Sl.frz]using f7)⟩
 ·have:b=p:=by simpa [Sl.own]using hb
  rw[this];exact hp
 ·simp[Sl.own]
theorem kkl{K:PySem.W.Frag}{H:Hp}{p:Addr}{ds:List D}{xs:List V}{bs fr:List Addr}(hp:H p=none)(r:RepA K H true ds xs bs)(hb:∀b∈bs,b∈fr):Out K H (upd H p (.tup xs)) ⟨.no,.tup ds,.ref p,bs⟩ fr:=by
 refine⟨wY hp,?_,λb hb=>(nomatch hb),Xx,λb f7=>hb b f7⟩;show RepL K _ true (.tup ds) (.ref p) bs;unfold RepL;exact⟨p,xs,rfl,SqT.of xJ,r.kp (Kp.of_same (wY hp))⟩
theorem wvc{K:PySem.W.Frag}:Ad2 K (wjx K) jx:=by
 intro H x y s Q ox oy hf k;unfold jx at hf;dsimp only at hf
 split at hf
 ·rename_i i j e1 e2;cases oq9 hf;exact .inl ⟨i,j,vw ox e1,vw oy e2,k ⟨.dp,.int _,.int _,[]⟩ H rfl rfl Kk⟩
 ·rename_i i j e1 e2
  split at hf
  ·rename_i hl;cases oq9 hf;have hl':(i++j).length<=sizeLine:=by rw[strLen_append];exact hl
   exact .inr (.inl ⟨i,j,(z9 ox e1).1,(z9 oy e2).1,hl,k ⟨.dp,.str _,.str _,[]⟩ H rfl rfl (wwq hl')⟩)
  ·cases hf
 ·rename_i i j e1 e2
  split at hf
  ·rename_i hl;cases oq9 hf;obtain⟨a,xs,bs,e3,q3,r3,h3⟩:=J4 ox (.inl e1) hl.2.1;obtain⟨b,ys,cs,e4,q4,r4,h4⟩:=J4 oy (.inl e2) hl.2.2;have q3:LsR K H a xs:=by rcases q3 with⟨_,z⟩|⟨z,_⟩;exact z;rw[e1]at z;cases z
   have q4:LsR K H b ys:=by rcases q4 with⟨_,z⟩|⟨z,_⟩;exact z;rw[e2]at z;cases z
   refine .inr (.inr (.inl ⟨a,b,xs,ys,e3,e4,q3,q4,by rw[<-r3.len,<-r4.len];exact hl.1,λp hp=>?_⟩));exact k ⟨.rt,.lst (i++j),.ref p,p::(bs++cs)⟩ _ rfl rfl (Q4 hp (r4.app r3) λb hb=>(List.mem_append.mp hb).elim (λz=>ll9 _ (h3 b z)) λz=>lr9 _ (h4 b z))
  ·cases hf
 ·rename_i i j e1 e2
  split at hf
  ·rename_i hl;cases oq9 hf;obtain⟨a,xs,bs,e3,q3,r3,h3⟩:=J4 ox (.inr e1) hl.2.1;obtain⟨b,ys,cs,e4,q4,r4,h4⟩:=J4 oy (.inr e2) hl.2.2;have q3:SqT K H a xs:=by rcases q3 with⟨z,_⟩|⟨_,z⟩;rw[e1]at z;cases z;exact z
   have q4:SqT K H b ys:=by rcases q4 with⟨z,_⟩|⟨_,z⟩;rw[e2]at z;cases z;exact z
   have ap:=r4.app r3;have t9:∀b∈bs++cs,b∈x.frz++y.frz:=λb hb=>(List.mem_append.mp hb).elim (λz=>ll9 _ (h3 b z)) λz=>lr9 _ (h4 b z)
   have same:∀c zs,zs=xs++ys->SqT K H c zs->Q (.ref c) H:=λc zs e hq=>by
    refine k ⟨.no,.tup (i++j),.ref c,bs++cs⟩ H rfl rfl ⟨zQ,?_,λb hb=>(nomatch hb),Xx,t9⟩;show RepL K H true (.tup (i++j)) (.ref c) (bs++cs);unfold RepL;exact⟨c,zs,rfl,hq,by rw[e];exact ap⟩
   by_cases hx:xs=[]
   ·subst hx;exact .inr (.inr (.inr (.inl ⟨a,b,ys,e3,e4,q3,q4,same b ys rfl q4⟩)))
   ·refine .inr (.inr (.inr (.inr ⟨a,b,xs,ys,e3,e4,q3,q4,hx,by rw[<-r3.len,<-r4.len];exact hl.1,λhy=>?_,λhy p hp=>?_⟩)))
    ·exact same a xs (by rw[hy,Xv]) q3
    ·exact k ⟨.no,.tup (i++j),.ref p,bs++cs⟩ _ rfl rfl (kkl hp ap t9)
  ·cases hf
 ·cases hf
noncomputable def tT(Z:Fx0)(q:Bool)(c:Ts):TT:=fun σ H Q=>∃E L r,Mt E σ L/\World Z.K H L/\c E=some r/\Xc Z σ H L r /\
 ∀E' k,r=.ok E' k->∀L' H',Mt E' σ L'->World Z.K H' L'->Step H L H' L'->(q=true->kJ H H')->Q k H'
noncomputable def QT(X:Cx)(Z:Fx0)(q:Bool)(c:Ts)(e:Expr):Prop:=PT X e (tT Z q c)
noncomputable def QW(X:Cx)(Z:Fx0)(q:Bool)(c:Ts)(e:Expr):Prop:=PW X e (tT Z q c)
section
variable {X:Cx}{Z:Fx0}{q qa qb:Bool}{a b c:Ex}{u v:Ts}{e ea eb:Expr}{es:List Expr}{pos:Pos}{α β:Type}{σ:L2.St}{H:Hp}{L:Ls}{E:En}
theorem vve{e:Expr}{t t':TT}(h:PW X e t)(w:∀ σ H Q,t' σ H Q->t σ H Q):PW X e t':=λwh pins s σ H Q I q=>h wh pins s σ H Q I (w σ H Q q)
theorem vkb{F:En->Bool->Option (Res α)}{r:Res α}{G:Bool->Hp->Prop}(m:Mt E σ L)(w:World Z.K H L)(h:bnd (u E) F=some r)(xc:Xc Z σ H L r)
  (k:∀E1 s,F E1 s=some r->∀L1 H1,Mt E1 σ L1->World Z.K H1 L1->Step H L H1 L1->(q=true->kJ H H1)->G s H1):tT Z q u σ H G:=by
 rcases z4 h with⟨E1,s,h1,h2⟩|⟨E1,c,h1,h2⟩
 ·exact⟨E,L,_,m,w,h1,(λ_ _ z=>by cases z),λE' s' z L' H' m' w' st sm=>by
   injection z with z1 z2;subst z1 z2;exact k _ _ h2 L' H' m' w' st sm⟩
 ·exact⟨E,L,_,m,w,h1,xc.map h2,λE' s' z=>by cases z⟩
theorem J9(ha:QT X Z q u ea):QW X Z q u (.BoolOp .And [ea] pos):=vwn ha
theorem YV(ha:QT X Z q u ea):QW X Z q u (.BoolOp .Or [ea] pos):=wk6 ha
theorem Jq(ha:QT X Z q u ea)(hb:QW X Z q v (.BoolOp .And (eb::es) pos)):QW X Z q (Q.tAnd u v) (.BoolOp .And (ea::eb::es) pos):=
 vve (wk7 ha hb) fun σ H Q ai=>ex8 ai λE L r m w hc xc k=>vkb m w hc xc λE1 s h1 L1 H1 m1 w1 st sm=>by
  cases s with
  |true=>
   rw[X9 rfl]at h1 ⊢;exact⟨E1,L1,r,m1,w1,h1,xc.step st,λE' k' z L' H' m' w' cz gq=>k E' k' z L' H' m' w' (st.trans cz) λhq=>v8 (sm hq) (gq hq)⟩
  |false=>
   rw[Xd (by decide)]at h1 ⊢;cases oq9 h1;exact k _ _ rfl L1 H1 m1 w1 st sm
theorem Q7(ha:QT X Z q u ea)(hb:QW X Z q v (.BoolOp .Or (eb::es) pos)):QW X Z q (Q.tOr u v) (.BoolOp .Or (ea::eb::es) pos):=
 vve (wwf ha hb) fun σ H Q ai=>ex8 ai λE L r m w hc xc k=>vkb m w hc xc λE1 s h1 L1 H1 m1 w1 st sm=>by
  cases s with
  |false=>
   rw[Xd (by decide)]at h1 ⊢;exact⟨E1,L1,r,m1,w1,h1,xc.step st,λE' k' z L' H' m' w' cz gq=>k E' k' z L' H' m' w' (st.trans cz) λhq=>v8 (sm hq) (gq hq)⟩
  |true=>
   rw[X9 rfl]at h1 ⊢;cases oq9 h1;exact k _ _ rfl L1 H1 m1 w1 st sm
theorem QW.pt(h:QW X Z q u e):QT X Z q u e:=PW.pt h
theorem kxh(ha:QT X Z q u ea):QT X Z q (Q.tNot u) (.UnaryOp .Not ea pos):=
 qwz (wk8 ha) fun σ H Q ai=>ex8 ai λE L r m w hc xc k=>vkb m w hc xc λE1 s h1 L1 H1 m1 w1 st sm=>by
  cases oq9 h1;exact k _ _ rfl L1 H1 m1 w1 st sm
theorem k5{op:CmpOp}{r:R2}{f:Sd->Sd->Option Sd}(ho:OpR X (compareOp op) r)(ad:Ad2 Z.K r f)(ha:QV X Z qa a ea)(hb:QV X Z true b eb)(hm:behindInMarks op eb=false)(hf:∀x y s,f x y=some s->∃k,s.2=.bl k):QT X Z qa (Q.tE (cF2 f a b)) (.Compare ea [op] [eb] pos):=
 qwz (vws ho ha hb hm) fun σ H Q ai=>ex8 ai λE L r m w hc xc k=>by
  refine kk4 ad ?_;have ja:bnd (cF2 f a b E) (λE x=>val E (truth x.2))=some r:=hc;rcases z4 ja with⟨E1,s,h1,h2⟩|⟨E1,c,h1,h2⟩
  ·refine⟨E,L,_,m,w,h1,(λ_ _ z=>by cases z),λE' s' z x L' H' e1 e2 m' w' st sm=>?_⟩;injection z with z1 z2;subst z1 z2;obtain⟨kk,hk⟩:∃k,s.2=.bl k:=by
    unfold cF2 at h1;rcases z4 h1 with⟨E2,s2,h3,h4⟩|⟨_,_,_,z⟩
    ·rcases z4 h4 with⟨E3,s3,h5,h6⟩|⟨_,_,_,z⟩
     ·obtain⟨y,hy,z⟩:=K6 h6;cases z;exact hf _ _ _ hy
     ·cases z
    ·cases z
   rw[hk]at h2;cases oq9 h2;exact⟨kk,Wj w'.head (e2.trans hk),k _ _ rfl L' H' m' w'.tail (st.trans Step.drop) λhq=>(sm hq).1⟩
  ·exact⟨E,L,_,m,w,h1,xc.map h2,λE' s' z=>by cases z⟩
end
noncomputable def Pn(pn:List Nat)(σ σ':L2.St):Prop:=∀p∈pn,σ'[p]?=σ[p]?
theorem Pn.refl{pn:List Nat}{σ:L2.St}:Pn pn σ σ:=λ_ _=>rfl
theorem Pn.trans{pn:List Nat}{σ σ1 σ2:L2.St}(a:Pn pn σ σ1)(b:Pn pn σ1 σ2):Pn pn σ σ2:=λp hp=>(b p hp).trans (a p hp)
theorem Pn.set{pn:List Nat}{σ σ1:L2.St}{i:Nat}{y:Option V}(a:Pn pn σ σ1)(h:i∉pn):Pn pn σ (σ1.set i y):=λp hp=>by
 have:i≠p:=λe=>h (e▸hp)
 rw[Ys this];exact a p hp
noncomputable def FlP(Z:Fx0)(pn:List Nat)(D:Ends)(σ:L2.St)(H:Hp)(L:Ls):Fl->Prop
 |.nx E'=>∀ σ' L' H',Pn pn σ σ'->Mt E' σ' L'->World Z.K H' L'->Step H L H' L'->D.nx σ' H'
 |.ct E'=>∀ σ' L' H',Pn pn σ σ'->Mt E' σ' L'->World Z.K H' L'->Step H L H' L'->D.ct σ' H'
 |.bk E'=>∀ σ' L' H',Pn pn σ σ'->Mt E' σ' L'->World Z.K H' L'->Step H L H' L'->D.bk σ' H'
 |.rt E' a=>∀(x:Sl) σ' L' H',x.o=a.1->x.d=a.2->Pn pn σ σ'->Mt E' σ' L'->World Z.K H' (some x::L')->Step H L H' (some x::L')->D.rt x.v H'
 |.xc E' c=>∀C σ' L' H',Z.mg c=some (.ref C)->Pn pn σ σ'->Mt E' σ' L'->World Z.K H' L'->Step H L H' L'->Z.EX (.ref C) none H'
theorem FlP.step{Z:Fx0}{pn:List Nat}{D:Ends}{σ σ1:L2.St}{H H1:Hp}{L L1:Ls}{r:Fl}(k:FlP Z pn D σ H L r)(s:Step H L H1 L1)(p:Pn pn σ σ1):FlP Z pn D σ1 H1 L1 r:=by
 cases r with
 |nx E'=>exact fun σ' L' H' p' m w s'=>k σ' L' H' (p.trans p') m w (s.trans s')
 |ct E'=>exact fun σ' L' H' p' m w s'=>k σ' L' H' (p.trans p') m w (s.trans s')
 |bk E'=>exact fun σ' L' H' p' m w s'=>k σ' L' H' (p.trans p') m w (s.trans s')
 |rt E' a=>exact λx σ' L' H' e1 e2 p' m w s'=>k x σ' L' H' e1 e2 (p.trans p') m w (s.trans s')
 |xc E' c=>exact λC σ' L' H' hm p' m w s'=>k C σ' L' H' hm (p.trans p') m w (s.trans s')
theorem FlP.xc{α:Type}{Z:Fx0}{pn:List Nat}{D:Ends}{σ:L2.St}{H:Hp}{L:Ls}{E':En}{c:Str}(k:FlP Z pn D σ H L (.xc E' c)):Xc Z σ H L (.exc E' c:Res α):=λE1 c1 e C L' H' hm m w s=>by
 injection e with h1 h2;subst h1 h2;exact k C σ L' H' hm Pn.refl m w s
noncomputable def tS(Z:Fx0)(pn:List Nat)(c:Sm):TS:=λD σ H=>∃E L r,Mt E σ L/\World Z.K H L/\c E=some r/\FlP Z pn D σ H L r
noncomputable def QS(X:Cx)(Z:Fx0)(pn:List Nat)(c:Sm)(st:Stmt):Prop:=PS X st (tS Z pn c)
noncomputable def QSs(X:Cx)(Z:Fx0)(pn:List Nat)(c:Sm)(st:List Stmt):Prop:=PSs X st (tS Z pn c)
section
variable {X:Cx}{Z:Fx0}{pn:List Nat}{q qa qb:Bool}{a b c:Ex}{u v:Ts}{A B:Sm}{e ea eb:Expr}{st:Stmt}{ss tt:List Stmt}{pos:Pos}{α:Type}{σ:L2.St}{H:Hp}{L:Ls}{E:En}{D:Ends}
theorem jzd{m:Option (Res α)}{F:En->α->Option Fl}{r:Fl}(h:ofE m F=some r):(∃E1 x,m=some (.ok E1 x)/\F E1 x=some r)\/∃E1 c,m=some (.exc E1 c)/\r=.xc E1 c:=by
 cases m with
 |none=>cases h
 |some q=>
  cases q with
  |ok E1 x=>exact .inl ⟨E1,x,rfl,h⟩
  |exc E1 c=>exact .inr ⟨E1,c,rfl,(oq9 h).symm⟩
theorem YZ{F:En->Sd->Option Fl}{r:Fl}{G:VK}(m:Mt E σ L)(w:World Z.K H L)(h:ofE (a E) F=some r)(k:FlP Z pn D σ H L r)
  (g:∀E1 s,F E1 s=some r->∀(x:Sl) L1 H1,x.o=s.1->x.d=s.2->Mt E1 σ L1->World Z.K H1 (some x::L1)->Step H L H1 (some x::L1)->(q=true->kJ H H1/\∀b∈x.own,H b=none)->G x.v H1):tQ Z q a σ H G:=by
 rcases jzd h with⟨E1,s,h1,h2⟩|⟨E1,c,h1,rfl⟩
 ·exact⟨E,L,_,m,w,h1,(λ_ _ z=>by cases z),λE' s' z x L' H' e1 e2 m' w' st sm=>by
   injection z with z1 z2;subst z1 z2;exact g _ _ h2 x L' H' e1 e2 m' w' st sm⟩
 ·exact⟨E,L,_,m,w,h1,k.xc,λE' s' z=>by cases z⟩
theorem wje{F:En->Bool->Option Fl}{r:Fl}{G:Bool->Hp->Prop}(m:Mt E σ L)(w:World Z.K H L)(h:ofE (u E) F=some r)(k:FlP Z pn D σ H L r)
  (g:∀E1 s,F E1 s=some r->∀L1 H1,Mt E1 σ L1->World Z.K H1 L1->Step H L H1 L1->G s H1):tT Z q u σ H G:=by
 rcases jzd h with⟨E1,s,h1,h2⟩|⟨E1,c,h1,rfl⟩
 ·exact⟨E,L,_,m,w,h1,(λ_ _ z=>by cases z),λE' s' z L' H' m' w' st sm=>by
   injection z with z1 z2;subst z1 z2;exact g _ _ h2 L' H' m' w' st⟩
 ·exact⟨E,L,_,m,w,h1,k.xc,λE' s' z=>by cases z⟩
theorem qW:QSs X Z pn k9 []:=qx0 vwu λD σ H ai=>ex7 ai λE L r m w hc k=>by
 cases oq9 hc;exact k σ L H Pn.refl m w Step.refl
theorem j9(h1:QS X Z pn A st)(h2:QSs X Z pn B ss):QSs X Z pn (j5 A B) (st::ss):=qx0 (vkt h1 h2) λD σ H ai=>ex7 ai λE L r m w hc k=>by
 unfold j5 at hc;cases ha:A E with
 |none=>rw[ha]at hc;cases hc
 |some f=>
  rw[ha]at hc;cases f with
  |nx E1=>exact⟨E,L,_,m,w,ha,fun σ' L' H' p m' w' s=>⟨E1,L',r,m',w',hc,k.step s p⟩⟩
  |ct E1=>cases oq9 hc;exact⟨E,L,_,m,w,ha,k⟩
  |bk E1=>cases oq9 hc;exact⟨E,L,_,m,w,ha,k⟩
  |rt E1 x=>cases oq9 hc;exact⟨E,L,_,m,w,ha,k⟩
  |xc E1 x=>cases oq9 hc;exact⟨E,L,_,m,w,ha,k⟩
theorem jv(h1:QS X Z pn A st):QSs X Z pn A [st]:=vwt h1
theorem k3(h:QE X Z q a ea):QS X Z pn (jz a) (.Return (some ea) pos):=Kz (wka h) λD σ H ai=>ex7 ai λE L r m w hc k=>
 YZ m w hc k λE1 s h1 x L1 H1 e1 e2 m1 w1 st _=>by
  cases oq9 h1;exact k x σ L1 H1 e1 e2 Pn.refl m1 w1 st
theorem qV(hc:QT X Z q u e)(ha:QSs X Z pn A ss)(hb:QSs X Z pn B tt):QS X Z pn (sIf u A B) (.If e ss tt pos):=Kz (wwg hc ha hb) λD σ H ai=>ex7 ai λE L r m w hc k=>
 wje m w hc k λE1 s h1 L1 H1 m1 w1 st=>by
  cases s with
  |true=>rw[X9 rfl]at h1 ⊢;exact⟨E1,L1,r,m1,w1,h1,k.step st Pn.refl⟩
  |false=>rw[Xd (by decide)]at h1 ⊢;exact⟨E1,L1,r,m1,w1,h1,k.step st Pn.refl⟩
theorem kz0{x:Sl}{i:Nat}{s:Sd}(m:Mt E σ L)(e1:x.o=s.1)(e2:x.d=s.2):Mt (E.set i (some s)) (σ.set i (some x.v)) (L.set i (some x)):=by
 have:=m.set (x:=x) i;rw[e1,e2]at this;exact this
theorem wwc{i:Nat}{y:Str}{cf:Pos}(hN:X.N.Nodup)(hi:X.N[i]?=some y)(hx:Loc X.env.scope y)(h:QE X Z q a ea)(hp:autoParam (i∉pn) ŕ)(hs:autoParam (swapsWith ea (some (.Name y cf)) pos.line X.env=pure false) Ŕ)(hf:autoParam (X.fn y=true\/X.env.scope.names.lookup y=some .local) Ř):
  QS X Z pn (jk i a) (.Assign [.Name y cf] ea pos):=Kz (wk9 hN hi hx h hs hf) λD σ H ai=>ex7 ai λE L r m w hc k=>
 YZ m w hc k λE1 s h1 x L1 H1 e1 e2 m1 w1 st _=>by
  cases oq9 h1;exact k (σ.set i (some x.v)) (L1.set i (some x)) H1 (Pn.refl.set hp) (kz0 m1 e1 e2) w1.set (st.trans Step.set)
theorem wk5{i:Nat}{y:Str}{cf:Pos}(hp:i∉pn)(h:PS X (.Assign [.Name y cf] ea pos) (λD σ H=>tQ Z q a σ H λv H1=>D.nx (σ.set i (some v)) H1)):
  QS X Z pn (jk i a) (.Assign [.Name y cf] ea pos):=Kz h λD σ H ai=>ex7 ai λE L r m w hc k=>
 YZ m w hc k λE1 s h1 x L1 H1 e1 e2 m1 w1 st _=>by
  cases oq9 h1;exact k (σ.set i (some x.v)) (L1.set i (some x)) H1 (Pn.refl.set hp) (kz0 m1 e1 e2) w1.set (st.trans Step.set)
theorem qwu(hp:PassesOwn (model X.prog X.w) X.A X.env X.xe)(hc:QT X Z q u e)(hb:QSs X Z pn B ss):QS X Z pn (sWhile u B) (.While e ss [] pos):=Kz (vku hp hc hb) λD σ H ai=>ex7 ai λE L r m w hr k=>by
 obtain⟨n0,hn⟩:=vw3 hr;refine⟨λn σ1 H1=>∃E1 L1,Mt E1 σ1 L1/\World Z.K H1 L1/\whN u B n E1=some r/\Step H L H1 L1/\Pn pn σ σ1,⟨n0,E,L,m,w,hn,Step.refl,Pn.refl⟩,?_⟩;rintro n σ1 H1 ⟨E1,L1,m1,w1,h1,js,p1⟩;cases n with
 | zero=>cases h1
 | succ n=>
  have k1:=k.step js p1;unfold whN at h1;cases ht:u E1 with
  | none=>rw[ht]at h1;cases h1
  | some f=>
   rw [ht]at h1;cases f with
   | exc E2 c=>
    cases oq9 h1;exact⟨E1,L1,_,m1,w1,ht,k1.xc,λE' s' z=>by cases z⟩
   | ok E2 kk=>
    refine⟨E1,L1,_,m1,w1,ht,(λ_ _ z=>by cases z),λE' s' z L' H' m' w' st sm=>?_⟩;injection z with z1 z2;subst z1 z2;cases kk with
    | false=>
     rw[Xd (by decide)];cases oq9 h1;exact k1 σ1 L' H' Pn.refl m' w' st
    | true=>
     rw[X9 rfl];dsimp only at h1;refine⟨fun σ2 H2=>∃E2 L2,Mt E2 σ2 L2/\World Z.K H2 L2/\whN u B n E2=some r/\Step H L H2 L2/\Pn pn σ σ2,fun σ2 H2 h2=>⟨n,by omega,h2⟩,?_⟩;cases hB:B E2 with
     |none=>rw[hB]at h1;cases h1
     |some g=>
      rw[hB]at h1;have k2:=k1.step st Pn.refl;refine⟨E2,L',g,m',w',hB,?_⟩;cases g with
      |nx E3=>exact fun σ3 L3 H3 p3 m3 w3 s3=>⟨E3,L3,m3,w3,h1,js.trans (st.trans s3),p1.trans p3⟩
      |ct E3=>exact fun σ3 L3 H3 p3 m3 w3 s3=>⟨E3,L3,m3,w3,h1,js.trans (st.trans s3),p1.trans p3⟩
      |bk E3=>cases oq9 h1;exact k2
      |rt E3 x=>cases oq9 h1;exact k2
      |xc E3 c=>cases oq9 h1;exact k2
end
structure Walks (K:PySem.W.Frag)(J:It)(T:List Sl)(ds:List D):Prop where
 no:∀t∈T,t.o=.no
 go:∀i H,(∀t∈T,t.ok K H)->i<ds.length->J.go i H
 stop:∀H,(∀t∈T,t.ok K H)->J.stop ds.length H
 yld:∀i H v H' d,(∀t∈T,t.ok K H)->J.yld i H v H'->ds[i]?=some d->∃z:Sl,z.o=.no/\z.d=d/\z.v=v/\kJ H H'/\z.ok K H'/\∀b∈z.as,∃t∈T,b∈t.as
noncomputable def tI(Z:Fx0)(q:Bool)(it:Ev (List D)):TI:=fun σ H R=>∃E L r,Mt E σ L/\World Z.K H L/\it E=some r/\Xc Z σ H L r /\
 ∀E' ds,r=.ok E' ds->∀J T L' H',Mt E' σ L'->World Z.K H' (L'++T.map some)->Step H L H' (L'++T.map some)->ds.length<=sizeLine->(q=true->kJ H H')->Walks Z.K J T ds->R J H'
noncomputable def QI(X:Cx)(Z:Fx0)(q:Bool)(tg:Expr)(it:Ev (List D))(e:Expr):Prop:=PI X tg e (tI Z q it)
noncomputable def wvt(K:PySem.W.Frag)(H0:Hp)(T:List Sl)(H:Hp):Prop:=(∀t∈T,t.ok K H)/\∀t∈T,Kp H0 H t.as
structure WalksD (K:PySem.W.Frag)(H0:Hp)(J:It)(T:List Sl)(ds:List D):Prop where
 no:∀t∈T,t.o=.no
 go:∀i H,wvt K H0 T H->i<ds.length->J.go i H
 stop:∀H,wvt K H0 T H->J.stop ds.length H
 yld:∀i H v H' d,wvt K H0 T H->J.yld i H v H'->ds[i]?=some d->∃z:Sl,z.o=.no/\z.d=d/\z.v=v/\kJ H H'/\z.ok K H'/\∀b∈z.as,∃t∈T,b∈t.as
theorem Walks.D{K:PySem.W.Frag}{H0:Hp}{J:It}{T:List Sl}{ds:List D}(h:Walks K J T ds):WalksD K H0 J T ds:=⟨h.no,λi H o=>h.go i H o.1,λH o=>h.stop H o.1,λi H v H' d o=>h.yld i H v H' d o.1⟩
noncomputable def tID(Z:Fx0)(q:Bool)(it:Ev (List D)):TI:=fun σ H R=>∃E L r,Mt E σ L/\World Z.K H L/\it E=some r/\Xc Z σ H L r /\
 ∀E' ds,r=.ok E' ds->∀J T L' H',Mt E' σ L'->World Z.K H' (L'++T.map some)->Step H L H' (L'++T.map some)->ds.length<=sizeLine->(q=true->kJ H H')->WalksD Z.K H' J T ds->R J H'
noncomputable def QID(X:Cx)(Z:Fx0)(q:Bool)(tg:Expr)(it:Ev (List D))(e:Expr):Prop:=PI X tg e (tID Z q it)
theorem QI.D{X:Cx}{Z:Fx0}{q:Bool}{tg:Expr}{it:Ev (List D)}{e:Expr}(h:QI X Z q tg it e):QID X Z q tg it e:=λpins s σ H R I hz=>h pins s σ H R I (by
 obtain⟨E,L,r,m,w,e,x,k⟩:=hz;exact⟨E,L,r,m,w,e,x,λE' ds z J T L' H' m' w' st hl sm wk=>k E' ds z J T L' H' m' w' st hl sm wk.D⟩)
structure WalksS (K:PySem.W.Frag)(q:Bool)(H0:Hp)(J:It)(T:List Sl)(ds:List D):Prop where
 no:∀t∈T,t.o=.no
 go:∀i H,(∀t∈T,t.ok K H)->(q=true->kJ H0 H)->i<ds.length->J.go i H
 stop:∀H,(∀t∈T,t.ok K H)->(q=true->kJ H0 H)->J.stop ds.length H
 yld:∀i H v H' d,(∀t∈T,t.ok K H)->(q=true->kJ H0 H)->J.yld i H v H'->ds[i]?=some d->∃z:Sl,z.o=.no/\z.d=d/\z.v=v/\kJ H H'/\z.ok K H'/\∀b∈z.as,∃t∈T,b∈t.as
theorem vw4{K:PySem.W.Frag}{q:Bool}{H0:Hp}{J:It}{T:List Sl}{ds:List D}(h:Walks K J T ds):WalksS K q H0 J T ds:=⟨h.no,λi H o _=>h.go i H o,λH o _=>h.stop H o,λi H v H' d o _=>h.yld i H v H' d o⟩
noncomputable def tIS(Z:Fx0)(q:Bool)(it:Ev (List D)):TI:=fun σ H R=>∃E L r,Mt E σ L/\World Z.K H L/\it E=some r/\Xc Z σ H L r /\
 ∀E' ds,r=.ok E' ds->∀J T L' H',Mt E' σ L'->World Z.K H' (L'++T.map some)->Step H L H' (L'++T.map some)->ds.length<=sizeLine->(q=true->kJ H H')->WalksS Z.K q H J T ds->R J H'
noncomputable def QIS(X:Cx)(Z:Fx0)(q:Bool)(tg:Expr)(it:Ev (List D))(e:Expr):Prop:=PI X tg e (tIS Z q it)
theorem wz2{X:Cx}{Z:Fx0}{q:Bool}{tg:Expr}{it:Ev (List D)}{e:Expr}(h:QI X Z q tg it e):QIS X Z q tg it e:=λpins s σ H R I hz=>h pins s σ H R I (by
 obtain⟨E,L,r,m,w,e,x,k⟩:=hz;exact⟨E,L,r,m,w,e,x,λE' ds z J T L' H' m' w' st hl sm wk=>k E' ds z J T L' H' m' w' st hl sm (vw4 wk)⟩)
noncomputable def tG(Z:Fx0)(pn:List Nat)(tg:Tg):TG:=λv σ H Q=>∃(E:En) (L:Ls) (z:Sl) (E':En),Mt E σ L/\World Z.K H (some z::L)/\z.o=.no/\z.v=v/\tg.put z.d E=some E' /\
 ∀ σ' L',Pn pn σ σ'->Mt E' σ' L'->World Z.K H L'->Step H (some z::L) H L'->Q σ' H
noncomputable def QG(X:Cx)(Z:Fx0)(pn:List Nat)(tg:Tg)(e:Expr):Prop:=PG X e (tG Z pn tg)
section
variable {X:Cx}{Z:Fx0}{pn:List Nat}{e:Expr}{σ:L2.St}{H:Hp}{L:Ls}{E:En}
theorem vvh{t t':TG}(h:PG X e t)(w:∀v σ H Q,t' v σ H Q->t v σ H Q):PG X e t':=λpins s σ H x v Q I r q=>h pins s σ H x v Q I r (w x σ H Q q)
theorem YJ{i:Nat}(h:PG X e (qzq i))(hp:autoParam (i∉pn) ŕ):QG X Z pn (.n i) e:=vvh h λv σ H Q ⟨E,L,z,E',m,w,ho,hv,bn,k⟩=>by
 cases oq9 bn;rw[<-hv];exact k (σ.set i (some z.v)) (L.set i (some z)) (Pn.refl.set hp) (kz0 m ho rfl) w.set Step.set
noncomputable def gNs:List Nat->TGs
 |[]=>wzg
 |i::is=>wqu (qzq i) (gNs is)
theorem qzp{Q:L2.St->Hp->Prop}{M:Ls}{σ0:L2.St}:∀{is:List Nat} {ds:List D} {xs:List V} {bs:List Addr} {E:En} {L:Ls} {σ:L2.St} {E':En},Mt E σ L->World Z.K H L->RepA Z.K H true ds xs bs->(∀b∈bs,b∉jq L)->(∀b∈bs,b∈kj M)->Step H M H L->Pn pn σ0 σ ->
  setAll is ds E=some E'->(∀i∈is,i∉pn)->(∀ σ' L',Pn pn σ0 σ'->Mt E' σ' L'->World Z.K H L'->Step H M H L'->Q σ' H)->gNs is xs σ H Q
 | [],[],xs,bs,E,L,σ,E',m,w,r,_,_,st,p,e,_,k=>by
  cases oq9 e;unfold RepA at r;exact⟨r.1,k σ L p m w st⟩
 | [],_::_,_,_,_,_,_,_,_,_,_,_,_,_,_,e,_,_=>by cases e
 | _::_,[],_,_,_,_,_,_,_,_,_,_,_,_,_,e,_,_=>by cases e
 | i::is,d::ds,xs,bs,E,L,σ,E',m,w,r,hb,hf,st,p,e,hi,k=>by
  unfold RepA at r;obtain⟨x,rr,cs,es,rfl,rfl,h1,h2⟩:=r;have w1:World Z.K H (some ⟨.no,d,x,cs⟩::L):=w.consNo (x:=⟨.no,d,x,cs⟩) h1 rfl λb f7=>hb b (ll9 _ f7)
  have s1:Step H M H (L.set i (some ⟨.no,d,x,cs⟩)):=by
   refine⟨λ_ _ h _=>h,λa ha=>?_,λa ha=>?_⟩
   ·rcases jks ha with z|z
    ·exact nomatch z
    ·exact st.own a z
   ·rcases jq1 ha with z|z
    ·exact .inl (hf a (ll9 _ z))
    ·exact st.frz a z
  exact⟨x,rr,rfl,qzp (is:=is) (kz0 (x:=⟨.no,d,x,cs⟩) (s:=(.no,d)) m rfl rfl) w1.set h2 (λb f7 ho=>by
   rcases jks ho with z|z
   ·exact nomatch z
   ·exact hb b (lr9 _ f7) z) (λb f7=>hf b (lr9 _ f7)) s1 (p.set (hi i X3)) e (λj hj=>hi j (lc9 _ hj)) k⟩
theorem kv5:∀{is:List Nat} {ds:List D} {E E':En},setAll is ds E=some E'->is.length=ds.length
 |[],[],_,_,_=>rfl
 |[],_::_,_,_,e=>by cases e
 |_::_,[],_,_,e=>by cases e
 |i::is,d::ds,E,E',e=>by rw[Xr,Xr,kv5 (E:=E.set i (some (.no,d))) e]
noncomputable def wx8(K:PySem.W.Frag)(n:Nat)(t:TGs):TG:=λv σ H Q=>∃a xs,v=.ref a/\(SqT K H a xs\/SqL K H a xs)/\xs.length=n/\t xs σ H Q
section
variable {prog:Program}{w:PySem.World}{A:Around}{E':Value->Shared->Prop}
theorem kze{it t:Addr}{items:Array Value}(c9:t≠it):∀(n i:Nat) (s:Shared) (Q:List Value->Shared->Prop),s.heap.IsListIter it t i->s.heap.IsList t items->i+n<=items.size ->
  (∀h',h'.IsListIter it t (i+n)->Heap.SameBut it s.heap h'->Q ((items.toList.drop i).take n) { s with heap:=h' })->wpAny (model prog w) A (draw (.ref it) n) Q E' s
 | 0,i,s,Q,rm,_,_,hQ=>by
  show wpAny _ _ (pure []) Q E' s;exact X5 (by simpa using hQ s.heap rm (Heap.SameBut.refl ..))
 | n+1,i,s,Q,rm,ht,dy,hQ=>by
  have b8:i<items.size:=by omega
  show wpAny _ _ (pyNext (.ref it) >>= _) Q E' s;refine X0 (wpAny_pyNext_list_item rm ht (x:=items[i]) (by simp[b8]) λh₁ qe so=>?_);have ht₁:h₁.IsList t items:=by
   obtain⟨o,ho,r⟩:=ht;exact⟨o,(so.2 t c9).trans ho,r⟩
  refine X0 (Yr (kze c9 n (i+1) _ _ qe ht₁ (by omega) λh₂ hit₂ hs₂=>X5 ?_));have hd:items.toList.drop i=items[i]::items.toList.drop (i+1):=by simp[Ym,b8]
  have:=hQ h₂ (by rw[show i+(n+1)=i+1+n by omega];exact hit₂) (so.trans hs₂);rw[hd,List.take_succ_cons]at this;exact this
theorem kjl{s:Shared}{t:Addr}{items:Array Value}{Q:List Value->Shared->Prop}(hh:A.handled=none)(ht:s.heap.IsList t items)
  (hQ:∀h',Heap.ExtBut s.heap.objs.size s.heap h'->Q items.toList { s with heap:=h' }):wpAny (model prog w) A (unpackItems (.ref t) items.size none) Q E' s:=by
 have b8:t≠s.heap.objs.size:=by obtain⟨o,ho,_⟩:=ht;exact Y1 (Xl ho)
 unfold unpackItems;refine X0 ?_;unfold notIterableAtAll;refine X0 (wpAny_specialOf ht.typeIs slot_list_iter.lookup ?_);refine X5 ?_;simp only[Bool.false_eq_true,if_false];refine X0 (Yr (wpAny_pyIter_list ht ?_));have qs:∀o:Obj,(s.heap.push o).IsList t items:=λo=>by
  obtain⟨ob,ho,r⟩:=ht;exact⟨ob,X6 _ ho,r⟩
 refine X0 (Yr (kze b8 items.size 0 _ _ ⟨_,Xj _ rfl,rfl,rfl⟩ (qs _) (by omega) λh₁ qe so=>?_));have ou:List.take items.size (List.drop 0 items.toList)=items.toList:=by
  rw[List.drop_zero];exact List.take_of_length_le (by simp)
 rw[ou];rw[Xd (by simp)];have ht₁:h₁.IsList t items:=by
  obtain⟨o,ho,r⟩:=qs _;exact⟨o,(so.2 t b8).trans ho,r⟩
 refine X0 (Yr (wpAny_pyNext_list_end hh qe ht₁ (by simp) λh₂ he₂=>?_));simp only[Option.isSome_none,Bool.false_eq_true,if_false];exact X5 (hQ h₂ λb o hb e=>he₂ b o hb (so.extBut b o hb (X6 _ e)))
theorem kj7{s:Shared}{env:Env}{df:List Expr}{x1}{pos:Pos}{t:Addr}{items:Array Value}{Q:Unit->Shared->Prop}(hh:A.handled=none)(ht:s.heap.IsList t items)
  (hn:(assignEach df env).length=items.size) (ud:(assignEach df env).findIdx? (·.1)=none)
  (h:∀h',Heap.ExtBut s.heap.objs.size s.heap h'->wpAny (model prog w) A (assignInOrder ((assignEach df env).map (·.2)) items.toList) Q E' { s with heap:=h' }):
  wpAny (model prog w) A (assign (.Tuple df x1 pos) env (.ref t)) Q E' s:=by
 rw[assign_Tuple];refine X0 (wpAny_standAt ?_);unfold unpack;rw[hn,ud];exact X0 (Yr (kjl hh ht h))
end
theorem z6(K:PySem.W.Frag){es:List Expr}{k:Nat}{t:TGs}{n:Nat}{pos:Pos}(h:PGs X es t)(hc:autoParam (X.calm=true) Ŕ)(hK:autoParam (X.K=K) Ŕ)
  (hn:autoParam ((assignEach es X.env).length=n) Ŕ) (ao:autoParam ((assignEach es X.env).findIdx? (·.1)=none) Ŕ):PG X (.Tuple es k pos) (wx8 K n t):=by
 subst hK;intro pins s σ H v u Q I r hw;obtain⟨a,xs,e1,hq,hl,hw⟩:=hw;subst e1;cases r;rcases hq with hq|hq
 ·obtain⟨aa,rv,ht,hz⟩:=I.tuple hq;refine assign_Tuple_tuple (I.ok.hd hc) ht (by simp[hn,<-hl,rv.length]) ao λh' hx=>?_
  have I1:L2.Inv X pins σ H { s with heap:=h' }:=I.kept (t':=s.toks) λb o e=>hx b o (Y1 (Xl e)) e
  exact h pins _ σ H xs _ Q I1 (by simpa using rv) hw
 ·obtain⟨aa,rv,ht,hz⟩:=I.list hq;refine kj7 (I.ok.hd hc) ht.isList (by simp[hn,<-hl,rv.length]) ao λh' hx=>?_
  have I1:L2.Inv X pins σ H { s with heap:=h' }:=I.kept (t':=s.toks) λb o e=>hx b o (Y1 (Xl e)) e
  exact h pins _ σ H xs _ Q I1 (by simpa using rv) hw
theorem z8{is:List Nat}(h:PG X e (wx8 Z.K is.length (gNs is)))(hp:autoParam (∀i∈is,i∉pn) ŕ):QG X Z pn (.t is) e:=vvh h λv σ H Q ⟨E,L,z,E',m,w,ho,hv,bn,k⟩=>by
 have fin:∀ds:List D,(z.d=.lst ds\/z.d=.tup ds)->setAll is ds E=some E'->wx8 Z.K is.length (gNs is) v σ H Q:=λds hd bn=>by
  obtain⟨a,xs,bs,e1,q1,r,h1,h2⟩:=items w.head hd;rw[ho]at r;refine⟨a,xs,hv.symm.trans e1,?_,by rw[kv5 bn,r.len],qzp (M:=some z::L) m w.tail r (λb hb=>w.apart b (h1 b hb)) (λb hb=>?_) Step.drop Pn.refl bn hp k⟩
  ·rcases q1 with⟨_,z'⟩|⟨_,z'⟩
   ·exact .inr z'.sq
   ·exact .inl z'
  ·rw[wJ,kz8 ho];exact ll9 _ (h1 b hb)
 cases hd:z.d with
 |tup ds=>rw[hd]at bn;exact fin ds (.inr hd) bn
 |lst ds=>rw[hd]at bn;exact fin ds (.inl hd) bn
 |_=>rw[hd]at bn;cases bn
theorem Q8{is:List Nat}{q:Bool}{c:Ex}{ea tg:Expr}{pos:Pos}(h:QE X Z q c ea)(hg:QG X Z pn (.t is) tg)(hs:autoParam (swapsWithSole [tg] ea pos.line X.env=pure false) Ŕ)(hw:autoParam (swappedStores [tg] ea X.env=pure none) Ŕ)(h1:autoParam ((assignEach [tg] X.env).map (·.2)=[assign tg X.env]) Ŕ):
  QS X Z pn (zJ is c) (.Assign [tg] ea pos):=Kz (wkc h hg hs hw h1) λD σ H ai=>ex7 ai λE L r m w hc k=>
 YZ m w (show ofE (c E) _=some r from hc) k λE1 s h1 x L1 H1 e1 e2 m1 w1 st _=>by
  cases hp:Tg.put (.t is) s.2 E1 with
  |none=>rw[hp]at h1;cases h1
  |some E2=>
   rw[hp]at h1;cases oq9 h1;have w2:World Z.K H1 (some x.let::L1):=w1.tail.consNo (Kv w1.head) rfl λb hb=>w1.apart b hb
   have s2:Step H L H1 (some x.let::L1):=V2 (x:=x.let) (st.trans Step.drop) (jz7 (x:=x) st) rfl;exact⟨E1,L1,x.let,E2,m1,w2,rfl,rfl,by rw[show x.let.d=s.2 from e2];exact hp,fun σ' L' p m' w' s'=>k σ' L' H1 p m' w' (s2.trans s')⟩
end
section
variable {X:Cx}{Z:Fx0}{pn:List Nat}{q:Bool}{tg iter:Expr}{it:Ev (List D)}{t:Tg}{B:Sm}{ss:List Stmt}{pos:Pos}{σ:L2.St}{H:Hp}{L:Ls}{E:En}
theorem kvb{K:PySem.W.Frag}{T:List Sl}{H1 H2:Hp}{L1:Ls}{z:Sl}(w:World K H1 (L1++T.map some))(hT:∀t∈T,t.o=.no)(sm:kJ H1 H2)(ok:z.ok K H2)(ho:z.o=.no)(hz:∀b∈z.as,∃t∈T,b∈t.as):
  World K H2 ((some z::L1)++T.map some)/\Step H1 (L1++T.map some) H2 ((some z::L1)++T.map some):=by
 have w2:World K H2 (L1++T.map some):=⟨λx hx=>RepO.kp (w.ok x hx) (Kp.of_same sm),w.nd,w.ds⟩;have hf:∀b∈z.as,b∈kj (L1++T.map some):=λb hb=>by
  obtain⟨t,ht,hbt⟩:=hz b hb;rw[qY];exact lr9 _ (mem_frozen.mpr ⟨t,Xe ht,by rw[kz8 (hT t ht)];exact hbt⟩)
 refine⟨w2.consNo ok ho λb hb hL=>w2.ds b hL (hf b hb),λa ob h _=>sm a ob h,λa ha=>?_,λa ha=>?_⟩
 ·rw[List.cons_append,qk,qxb ho]at ha;exact .inl ha
 ·rw[List.cons_append,wJ,kz8 ho]at ha;rcases List.mem_append.mp ha with q|q
  ·exact .inl (hf a q)
  ·exact .inl q
theorem stay{K:PySem.W.Frag}{T L1 L2:Ls}{H1 H2:Hp}(w:World K H1 (L1++T))(s:Step H1 L1 H2 L2)(w2:World K H2 L2):World K H2 (L2++T)/\Step H1 (L1++T) H2 (L2++T):=⟨s.frame w w2 w.left,s.frm⟩
theorem Step.dropT{T:Ls}{H1:Hp}{L1:Ls}:Step H1 (L1++T) H1 L1:=⟨λ_ _ h _=>h,λa ha=>.inl (by rw[kq];exact ll9 _ ha),λa ha=>.inl (by rw[qY];exact ll9 _ ha)⟩
theorem Kp.trans{H H1 H2:Hp}{as:List Addr}(a:Kp H H1 as)(b:Kp H1 H2 as):Kp H H2 as:=⟨λc xs e=>b.1 c xs (a.1 c xs e),λc o u e=>b.2.1 c o u (a.2.1 c o u e),λc hc ob e=>b.2.2 c hc ob (a.2.2 c hc ob e)⟩
theorem qks{K:PySem.W.Frag}{H2 H3:Hp}{L2 L3:Ls}{T:List Sl}(w:World K H2 (L2++T.map some))(hT:∀t∈T,t.o=.no)(s:Step H2 L2 H3 L3){H0:Hp}(h:∀t∈T,Kp H0 H2 t.as):∀t∈T,Kp H0 H3 t.as:=λt ht=>
 (h t ht).trans (s.kp w.left λb hb z=>w.ds b (by rw[kq];exact ll9 _ z) (by
  rw[qY];exact lr9 _ (mem_frozen.mpr ⟨t,Xe ht,by rw[kz8 (hT t ht)];exact hb⟩)))
theorem qwv(hp:PassesOwn (model X.prog X.w) X.A X.env X.xe)(hc:X.calm=true)(hi:QID X Z q tg it iter)(hg:QG X Z pn t tg)(hb:QSs X Z pn B ss)(hs:autoParam (∀x,foldedSetIterable iter X.env x=pure x) Ŗ):QS X Z pn (qX it t B) (.For tg iter ss [] pos):=Kz (wkb hp hc hi hg hb hs) λD σ H ai=>ex7 ai λE L r m w hr k=>by
 have hr:ofE (it E) (λE ds=>KQ t B ds E)=some r:=hr;rcases jzd hr with⟨E1,ds,h1,h2⟩|⟨E1,c,h1,rfl⟩
 rotate_left
 ·exact⟨E,L,_,m,w,h1,k.xc,λE' s' z=>by cases z⟩
 refine⟨E,L,_,m,w,h1,(λ_ _ z=>by cases z),λE' ds' z J T L' H' m' w' st hz _ wk=>?_⟩;injection z with z1 z2;subst z1 z2;have kr:∀{H2:Hp} {L2:Ls},World Z.K H2 (L2++T.map some)->∀t∈T,t.ok Z.K H2:=λw2 t ht=>w2.ok t (lr9 _ (Xe ht))
 refine⟨λi n σ1 H1=>∃E1 L1,Mt E1 σ1 L1/\World Z.K H1 (L1++T.map some)/\Step H L H1 (L1++T.map some)/\Pn pn σ σ1/\KQ t B (ds.drop i) E1=some r/\i<=ds.length/\n=ds.length - i/\∀t∈T,Kp H' H1 t.as,⟨_,E1,L',m',w',st,Pn.refl,h2,Y9 _,rfl,λ_ _=>Kp.of_same zQ⟩,?_⟩;rintro i n σ1 H1 ⟨E1,L1,m1,w1,js,p1,f1,hi,rfl,pins⟩
 by_cases b8:i<ds.length
 ·have hd:ds.drop i=ds[i]::ds.drop (i+1):=Ym b8;rw [hd]at f1;unfold KQ at f1;cases bn:t.put ds[i] E1 with
  | none=>rw[bn]at f1;cases f1
  | some E2=>
   rw[bn]at f1;dsimp only at f1;refine .inr ⟨wk.go i H1 ⟨kr w1,pins⟩ b8,fun σ2 H2=>∃E2 L2,Mt E2 σ2 L2/\World Z.K H2 (L2++T.map some)/\Step H L H2 (L2++T.map some)/\Pn pn σ σ2/\KQ t B (ds.drop (i+1)) E2=some r/\∀t∈T,Kp H' H2 t.as,fun σ2 H2 ⟨E2,L2,a1,a2,a3,a4,a5,a6⟩=>⟨ds.length - (i+1),by omega,E2,L2,a1,a2,a3,a4,a5,b8,rfl,a6⟩,λv H2 hy=>?_⟩;obtain⟨z,zo,zd,zv,sm,ua,zas⟩:=wk.yld i H1 v H2 ds[i] ⟨kr w1,pins⟩ hy (X1 b8);obtain⟨wz,sz⟩:=kvb w1 wk.no sm ua zo zas;refine⟨E1,L1,z,E2,m1,wz.left,zo,zv,by rw[zd];exact bn,fun σ2 L2 p2 m2 w2 b7=>?_⟩;obtain⟨w3,cw⟩:=stay wz b7 w2;have jo:Step H L H2 (L2++T.map some):=js.trans (sz.trans cw);have nr:∀t∈T,Kp H' H2 t.as:=λt ht=>(pins t ht).trans (Kp.of_same sm)
   cases hB:B E2 with
   | none=>rw[hB]at f1;cases f1
   | some g=>
    rw[hB]at f1;refine⟨E2,L2,g,m2,w2,hB,?_⟩;have fin:∀{g:Fl},g=r->(∀ σ',D.nx σ'=D.nx σ')->FlP Z pn D σ2 H2 (L2++T.map some) g:=λe _=>e▸k.step jo (p1.trans p2)
    cases g with
    |nx E3=>
     intro σ3 L3 H3 p3 m3 w4 s3;obtain⟨w5,s5⟩:=stay w3 s3 w4;exact⟨E3,L3,m3,w5,jo.trans s5,(p1.trans p2).trans p3,f1,qks w3 wk.no s3 nr⟩
    |ct E3=>
     intro σ3 L3 H3 p3 m3 w4 s3;obtain⟨w5,s5⟩:=stay w3 s3 w4;exact⟨E3,L3,m3,w5,jo.trans s5,(p1.trans p2).trans p3,f1,qks w3 wk.no s3 nr⟩
    |bk E3=>
     have e:=oq9 f1;subst e;intro σ3 L3 H3 p3 m3 w4 s3;exact k σ3 L3 H3 ((p1.trans p2).trans p3) m3 w4 ((jo.trans Step.dropT).trans s3)
    |rt E3 x=>
     have e:=oq9 f1;subst e;intro y σ3 L3 H3 e1 e2 p3 m3 w4 s3;exact k y σ3 L3 H3 e1 e2 ((p1.trans p2).trans p3) m3 w4 ((jo.trans Step.dropT).trans s3)
    |xc E3 c=>
     have e:=oq9 f1;subst e;intro C σ3 L3 H3 hm p3 m3 w4 s3;exact k C σ3 L3 H3 hm ((p1.trans p2).trans p3) m3 w4 ((jo.trans Step.dropT).trans s3)
 ·have e:i=ds.length:=by omega
  subst e;rw[List.drop_length]at f1;cases oq9 f1;exact .inl ⟨wk.stop H1 ⟨kr w1,pins⟩,k σ1 L1 H1 p1 m1 w1.left (js.trans Step.dropT)⟩
theorem wwb(hp:PassesOwn (model X.prog X.w) X.A X.env X.xe)(hc:X.calm=true)(hi:QI X Z q tg it iter)(hg:QG X Z pn t tg)(hb:QSs X Z pn B ss)(hs:autoParam (∀x,foldedSetIterable iter X.env x=pure x) Ŗ):QS X Z pn (qX it t B) (.For tg iter ss [] pos):=qwv hp hc hi.D hg hb hs
end
mutual
noncomputable def jJ(h:Heap):D->Value->Prop
 |.non,u=>u=.none
 |.bl b,u=>u=.bool b
 |.int i,u=>∃t,u=.int i t
 |.str z,u=>∃t,u=.str z t
 |.tup ds,u=>∃a us,u=.ref a/\h.IsTuple a us.toArray/\CReps h ds us
 |.lst ds,u=>∃a us,u=.ref a/\h.IsList a us.toArray/\CReps h ds us
 |.dct _,_=>False
 |.obj _ _,_=>False
noncomputable def CReps(h:Heap):List D->List Value->Prop
 |[],us=>us=[]
 |d::ds,us=>∃u r,us=u::r/\jJ h d u/\CReps h ds r
end
theorem qq9{n:Nat}{k:List (D×D)}:D.flat n (.dct k)=false:=by cases n<;>simp[D.flat]
theorem qq8{n:Nat}{c:Str}{k:List (Str×D)}:D.flat n (.obj c k)=false:=by cases n<;>simp[D.flat]
section
variable {X:Cx}{pins:List (Addr×Obj)}{σ:L2.St}{H:Hp}{s:Shared}
mutual
theorem Vk(I:Inv X pins σ H s){g:Bool}:∀{n:Nat} {d:D} {v:V} {as:List Addr} {u:Value},RepL X.K H g d v as->d.flat n=true->RelV v u->jJ s.heap d u
 | _,.non,_,_,_,h,_,r=>by
  unfold RepL at h;rw[h.1]at r;unfold jJ;exact r
 | _,.bl _,_,_,_,h,_,r=>by
  unfold RepL at h;rw[h.1]at r;unfold jJ;exact r
 | _,.int _,_,_,_,h,_,r=>by
  unfold RepL at h;rw[h.1]at r;unfold jJ;exact r
 | _,.str _,_,_,_,h,_,r=>by
  unfold RepL at h;rw[h.1]at r;unfold jJ;exact r
 | 0,.tup ds,_,_,_,h,f,r=>by unfold D.flat at f;cases f
 | n+1,.tup ds,_,_,_,h,f,r=>by
  unfold RepL at h;unfold D.flat at f;obtain⟨a,xs,rfl,q,ra⟩:=h;cases r;obtain⟨aa,rv,p,_⟩:=I.tuple q;unfold jJ;exact⟨a,aa,rfl,p,creps_of I ra f rv⟩
 | 0,.lst ds,_,_,_,h,f,r=>by unfold D.flat at f;cases f
 | n+1,.lst ds,_,_,_,h,f,r=>by
  unfold RepL at h;unfold D.flat at f;obtain⟨a,xs,bs,rfl,ra,q⟩:=h;cases r;have q':SqL X.K H a xs:=by
   rcases q with⟨q,_⟩|⟨_,q,_⟩
   ·exact SqL.of q
   ·exact(LsR.of q).sq
  obtain⟨aa,rv,p,_⟩:=I.list q';unfold jJ;exact⟨a,aa,rfl,p.isList,creps_of I ra f rv⟩
 |_,.dct _,_,_,_,h,f,r=>by rw[qq9]at f;cases f
 |_,.obj _ _,_,_,_,h,f,r=>by rw[qq8]at f;cases f
theorem creps_of(I:Inv X pins σ H s){g:Bool}:∀{n:Nat} {ds:List D} {xs:List V} {as:List Addr} {us:List Value},RepA X.K H g ds xs as->D.flats n ds=true->Vals xs us->CReps s.heap ds us
 | _,[],_,_,_,h,_,r=>by
  unfold RepA at h;rw[h.1]at r;cases r;unfold CReps;rfl
 | n,d::ds,_,_,_,h,f,r=>by
  unfold RepA at h;unfold D.flats at f;rw[Bool.and_eq_true]at f;obtain⟨x,rr,bs,cs,rfl,rfl,h1,h2⟩:=h;cases r with
  |cons r1 r2=>
   unfold CReps;exact⟨_,_,rfl,Vk I h1 f.1 r1,creps_of I h2 f.2 r2⟩
end
end
theorem CReps.len{h:Heap}:∀{ds:List D} {us:List Value},CReps h ds us->ds.length=us.length
 |[],_,r=>by unfold CReps at r;rw[r];rfl
 |d::ds,_,r=>by
  unfold CReps at r;obtain⟨u,rr,rfl,_,h2⟩:=r;simp[CReps.len h2]
theorem CReps.get{h:Heap}:∀{ds:List D} {us:List Value} {j:Nat} {d:D},CReps h ds us->ds[j]?=some d->∃u,us[j]?=some u/\jJ h d u
 | [],_,_,_,_,e=>by simp at e
 | d::ds,_,j,d',r,e=>by
  unfold CReps at r;obtain⟨u,rr,rfl,h1,h2⟩:=r;cases j with
  |zero=>
   have e:d=d':=by simpa using e
   subst e;exact⟨u,by simp,h1⟩
  |succ j=>
   obtain⟨w,e1,e2⟩:=CReps.get (j:=j) h2 (by simpa using e);exact⟨w,by simpa using e1,e2⟩
theorem vw5{h:Heap}{a:Addr}{x y:Array Value}(p:h.IsTuple a x)(q:h.IsTuple a y):x=y:=by
 obtain⟨o,h1,_,n,h2⟩:=p;obtain⟨o',h3,_,n',h4⟩:=q;rw[h1]at h3;cases h3;rw[h2]at h4;injection h4
theorem vxm{h:Heap}{a:Addr}{x y:Array Value}(p:h.IsList a x)(q:h.IsList a y):x=y:=by
 obtain⟨o,h1,_,n,h2⟩:=p;obtain⟨o',h3,_,n',h4⟩:=q;rw[h1]at h3;cases h3;rw[h2]at h4;injection h4
theorem qxv{h:Heap}{a:Addr}{x y:Array Value}(p:h.IsList a x)(q:h.IsTuple a y):False:=by
 obtain⟨o,h1,h2,_⟩:=p;obtain⟨o',h3,h4,_⟩:=q;rw[h1]at h3;cases h3;rw[h2]at h4;exact absurd (Value.type.inj h4) (by decide)
mutual
theorem kk2{h:Heap}:∀{d d':D} {u:Value},jJ h d u->jJ h d' u->d=d'
 | .non,d',u,a,b=>by
  unfold jJ at a;subst a;cases d'<;>unfold jJ at b<;>first|rfl|exact b.elim|(cases b;done)|(obtain⟨_,b⟩:=b;cases b;done)|(obtain⟨_,_,b,_⟩:=b;cases b)
 | .bl k,d',u,a,b=>by
  unfold jJ at a;subst a;cases d'<;>unfold jJ at b<;>first|exact b.elim|(cases b;rfl)|(cases b;done)|(obtain⟨_,b⟩:=b;cases b;done)|(obtain⟨_,_,b,_⟩:=b;cases b)
 | .int k,d',u,a,b=>by
  unfold jJ at a;obtain⟨t,rfl⟩:=a;cases d'<;>unfold jJ at b<;>first|exact b.elim|(cases b;done)|(obtain⟨_,b⟩:=b;cases b;rfl)|(obtain⟨_,b⟩:=b;cases b;done)|(obtain⟨_,_,b,_⟩:=b;cases b)
 | .str k,d',u,a,b=>by
  unfold jJ at a;obtain⟨t,rfl⟩:=a;cases d'<;>unfold jJ at b<;>first|exact b.elim|(cases b;done)|(obtain⟨_,b⟩:=b;cases b;rfl)|(obtain⟨_,b⟩:=b;cases b;done)|(obtain⟨_,_,b,_⟩:=b;cases b)
 | .tup ds,d',u,a,b=>by
  unfold jJ at a;obtain⟨x,us,rfl,p,r⟩:=a;cases d' with
  |tup es=>
   unfold jJ at b;obtain⟨y,ws,e,p',r'⟩:=b;cases e;have e2:us=ws:=by simpa using vw5 p p'
   subst e2;rw[creps_inj r r']
  |lst es=>
   unfold jJ at b;obtain⟨y,ws,e,p',r'⟩:=b;cases e;exact(qxv p' p).elim
  |non=>unfold jJ at b;cases b
  |bl k=>unfold jJ at b;cases b
  |int k=>unfold jJ at b;obtain⟨_,b⟩:=b;cases b
  |str k=>unfold jJ at b;obtain⟨_,b⟩:=b;cases b
  |dct k=>unfold jJ at b;exact b.elim
  |obj k l=>unfold jJ at b;exact b.elim
 | .lst ds,d',u,a,b=>by
  unfold jJ at a;obtain⟨x,us,rfl,p,r⟩:=a;cases d' with
  |lst es=>
   unfold jJ at b;obtain⟨y,ws,e,p',r'⟩:=b;cases e;have e2:us=ws:=by simpa using vxm p p'
   subst e2;rw[creps_inj r r']
  |tup es=>
   unfold jJ at b;obtain⟨y,ws,e,p',r'⟩:=b;cases e;exact(qxv p p').elim
  |non=>unfold jJ at b;cases b
  |bl k=>unfold jJ at b;cases b
  |int k=>unfold jJ at b;obtain⟨_,b⟩:=b;cases b
  |str k=>unfold jJ at b;obtain⟨_,b⟩:=b;cases b
  |dct k=>unfold jJ at b;exact b.elim
  |obj k l=>unfold jJ at b;exact b.elim
 |.dct k,_,_,a,_=>by unfold jJ at a;exact a.elim
 |.obj k l,_,_,a,_=>by unfold jJ at a;exact a.elim
theorem creps_inj{h:Heap}:∀{ds ds':List D} {us:List Value},CReps h ds us->CReps h ds' us->ds=ds'
 | [],ds',us,a,b=>by
  unfold CReps at a;subst a;cases ds' with
  |nil=>rfl
  |cons d ds=>unfold CReps at b;obtain⟨_,_,e,_⟩:=b;cases e
 | d::ds,ds',us,a,b=>by
  unfold CReps at a;obtain⟨u,r,rfl,h1,h2⟩:=a;cases ds' with
  |nil=>unfold CReps at b;cases b
  |cons d' ds'=>
   unfold CReps at b;obtain⟨u',r',e,h3,h4⟩:=b;cases e;rw[kk2 h1 h3,creps_inj h2 h4]
end
mutual
theorem Zj:∀{n:Nat} {d:D},d.flat n=true->peq d d=true
 |_,.non,_=>by unfold peq;rfl
 |_,.bl b,_=>by unfold peq;simp
 |_,.int b,_=>by unfold peq;simp
 |_,.str b,_=>by unfold peq;simp
 |0,.tup ds,f=>by unfold D.flat at f;cases f
 |n+1,.tup ds,f=>by unfold peq;unfold D.flat at f;exact peqs_refl f
 |0,.lst ds,f=>by unfold D.flat at f;cases f
 |n+1,.lst ds,f=>by unfold peq;unfold D.flat at f;exact peqs_refl f
 |_,.dct _,f=>by rw[qq9]at f;cases f
 |_,.obj _ _,f=>by rw[qq8]at f;cases f
theorem peqs_refl:∀{n:Nat} {d:List D},D.flats n d=true->peqs d d=true
 |_,[],_=>by unfold peqs;rfl
 |n,d::ds,f=>by
  unfold D.flats at f;rw[Bool.and_eq_true]at f;unfold peqs;rw[Zj f.1,peqs_refl f.2];rfl
end
theorem jzi : ∀{n : Nat} {ds : List D} {j : Nat} {d : D}, D.flats n ds = true -> ds[j]? = some d -> d.flat n = true
  | _, [], _, _, _, e=>by simp at e
  | n, d::ds, j, d', f, e=>by
    unfold D.flats at f;rw[Bool.and_eq_true]at f;cases j with
    | zero => have e : d = d':= by simpa using e
              subst e; exact f.1
    |succ j=>exact jzi (j:= j) f.2 (by simpa using e)
noncomputable def pAt(as bs:List D)(j:Nat):Bool:=match as[j]?,bs[j]? with
 |some a,some b=>peq a b
 |_,_=>true
theorem jxf:∀(as bs:List D),as.length=bs.length->(List.range as.length).all (pAt as bs)=peqs as bs
 |[],[],_=>by unfold peqs;rfl
 |a::as,b::bs,h=>by
  have ih:=jxf as bs (by simpa using h);rw[Xr,List.range_succ_eq_map,List.all_cons,List.all_map];unfold peqs;rw[<-ih];rfl
 |[],_::_,h=>by simp at h
 |_::_,[],h=>by simp at h
theorem kju:∀(as bs:List D),as.length≠bs.length->peqs as bs=false
 |[],[],h=>by simp at h
 |a::as,b::bs,h=>by
  unfold peqs;rw[kju as bs (by simpa using h),Bool.and_false]
 |[],_::_,_=>by unfold peqs;rfl
 |_::_,[],_=>by unfold peqs;rfl
theorem qka(as bs:List D):((List.range (min as.length bs.length)).all (pAt as bs)&&as.length==bs.length)=peqs as bs:=by
 by_cases e:as.length=bs.length
 ·rw[<-e,Nat.min_self,jxf as bs e];simp[e]
 ·rw[kju as bs e];have:(as.length==bs.length)=false:=by simpa using e
  rw[this,Bool.and_false]
section
variable {s:Shared}
theorem qjk{as bs:List D}{us ws:List Value}{A:Around}(ra:CReps s.heap as us)(rb:CReps s.heap bs ws)
  (h:∀(j:Nat) (d d':D) (u w:Value),as[j]?=some d->bs[j]?=some d'->jJ s.heap d u->jJ s.heap d' w->SeqAt.EqAt A s u w (peq d d')):
  ∀j (h1:j<us.toArray.size) (h2:j<ws.toArray.size),SeqAt.EqAt A s us.toArray[j] ws.toArray[j] (pAt as bs j):=λj h1 h2=>by
 have l1:=ra.len;have l2:=rb.len;simp only[X7]at h1 h2;have ha:j<as.length:=by omega
 have hb:j<bs.length:=by omega
 obtain⟨u,eu,ru⟩:=ra.get (X1 ha);obtain⟨w,ew,sj⟩:=rb.get (X1 hb);have e1:us.toArray[j]=u:=by
  obtain⟨_,q⟩:=List.getElem?_eq_some_iff.mp eu
  simpa using q
 have e2:ws.toArray[j]=w:=by
  obtain⟨_,q⟩:=List.getElem?_eq_some_iff.mp ew
  simpa using q
 have e3:pAt as bs j=peq as[j] bs[j]:=by
  unfold pAt;rw[X1 ha,X1 hb]
 rw[e1,e2,e3];exact h j _ _ u w (X1 ha) (X1 hb) ru sj
inductive Cv (h:Heap):D->Value->Prop
 |non:Cv h .non .none
 |bl (b:Bool):Cv h (.bl b) (.bool b)
 |int (i:Int) (t:_):Cv h (.int i) (.int i t)
 |str (z:Str) (t:_):Cv h (.str z) (.str z t)
 |lst {ds:List D} {a:Addr} {us:List Value} (p:h.IsList a us.toArray) (q:CReps h ds us):Cv h (.lst ds) (.ref a)
 |tup {ds:List D} {a:Addr} {us:List Value} (p:h.IsTuple a us.toArray) (q:CReps h ds us):Cv h (.tup ds) (.ref a)
theorem crv{h:Heap}{d:D}{u:Value}(r:jJ h d u):Cv h d u:=by
 cases d<;>unfold jJ at r
 all_goals first|exact r.elim|(subst r;constructor)|(obtain⟨_,rfl⟩:=r;constructor)|(obtain⟨_,_,rfl,p,q⟩:=r;first|exact .lst p q|exact .tup p q)
theorem wjn{A:Around}{d d':D}{u w:Value}(hu:A.units<cLine)(r:jJ s.heap d u)(r':jJ s.heap d' w)
  (el:∀(as bs:List D) (us ws:List Value),(d=.lst as\/d=.tup as)->(d'=.lst bs\/d'=.tup bs)->CReps s.heap as us->CReps s.heap bs ws->∀j (h1:j<us.toArray.size) (h2:j<ws.toArray.size),SeqAt.EqAt A.in1 s us.toArray[j] ws.toArray[j] (pAt as bs j)):
  SeqAt.RcAt A s u w (peq d d'):=by
 cases crv r<;>cases crv r'<;>unfold peq
 ·exact SeqAt.RcAt.none_none
 ·exact SeqAt.RcAt.none_bool _
 ·exact SeqAt.RcAt.none_int _ _
 ·exact SeqAt.RcAt.none_str _ _
 ·exact SeqAt.RcAt.none_list ‹_› hu
 ·exact SeqAt.RcAt.none_tuple ‹_› hu
 ·exact SeqAt.RcAt.bool_none _
 ·exact SeqAt.RcAt.bool_bool _ _
 ·exact SeqAt.RcAt.bool_int _ _ _
 ·exact SeqAt.RcAt.bool_str _ _ _
 ·exact SeqAt.RcAt.bool_list _ ‹_› hu
 ·exact SeqAt.RcAt.bool_tuple _ ‹_› hu
 ·exact SeqAt.RcAt.int_none _ _
 ·exact SeqAt.RcAt.int_bool _ _ _
 ·exact SeqAt.RcAt.int_int _ _ _ _
 ·exact SeqAt.RcAt.int_str _ _ _ _
 ·exact SeqAt.RcAt.int_list _ _ ‹_› hu
 ·exact SeqAt.RcAt.int_tuple _ _ ‹_› hu
 ·exact SeqAt.RcAt.str_none _ _
 ·exact SeqAt.RcAt.str_bool _ _ _
 ·exact SeqAt.RcAt.str_int _ _ _ _
 ·exact SeqAt.RcAt.str_str _ _ _ _
 ·exact SeqAt.RcAt.str_list _ _ ‹_› hu
 ·exact SeqAt.RcAt.str_tuple _ _ ‹_› hu
 ·exact SeqAt.RcAt.list_none ‹_› hu
 ·exact SeqAt.RcAt.list_bool _ ‹_› hu
 ·exact SeqAt.RcAt.list_int _ _ ‹_› hu
 ·exact SeqAt.RcAt.list_str _ _ ‹_› hu
 ·rename_i as a us p ra bs b ws p' rb;have l1:=ra.len;have l2:=rb.len
  by_cases hl:as.length=bs.length
  ·rw[<-jxf as bs hl];have z:=SeqAt.RcAt.lists (A:=A) (s:=s) (e:=pAt as bs) p p' (by simp only[X7];omega) hu (el as bs us ws (.inl rfl) (.inl rfl) ra rb);rw[X7,<-l1]at z;exact z
  ·rw[kju as bs hl];exact SeqAt.RcAt.lists_lengths p p' (by simp only[X7,bne_iff_ne];omega) hu
 ·exact SeqAt.RcAt.list_tuple ‹_› ‹_› hu
 ·exact SeqAt.RcAt.tuple_none ‹_› hu
 ·exact SeqAt.RcAt.tuple_bool _ ‹_› hu
 ·exact SeqAt.RcAt.tuple_int _ _ ‹_› hu
 ·exact SeqAt.RcAt.tuple_str _ _ ‹_› hu
 ·exact SeqAt.RcAt.tuple_list ‹_› ‹_› hu
 ·rename_i as a us p ra bs b ws p' rb;have l1:=ra.len;have l2:=rb.len;rw[<-qka as bs];have z:=SeqAt.RcAt.tuples (A:=A) (s:=s) (e:=pAt as bs) p p' hu (el as bs us ws (.inr rfl) (.inr rfl) ra rb);rw[X7,X7,<-l1,<-l2]at z;exact z
theorem ww8{A:Around}{d d':D}{u w:Value}(hu:A.units<cLine)(r:jJ s.heap d u)(r':jJ s.heap d' w)
  (el:∀(as bs:List D) (us ws:List Value),(d=.lst as\/d=.tup as)->(d'=.lst bs\/d'=.tup bs)->CReps s.heap as us->CReps s.heap bs ws->∀j (h1:j<us.toArray.size) (h2:j<ws.toArray.size),SeqAt.EqAt A.in1 s us.toArray[j] ws.toArray[j] (pAt as bs j)):
  SeqAt.RcNeAt A s u w (!peq d d'):=by
 cases crv r<;>cases crv r'<;>unfold peq
 ·exact SeqAt.RcNeAt.none_none
 ·exact SeqAt.RcNeAt.none_bool _
 ·exact SeqAt.RcNeAt.none_int _ _
 ·exact SeqAt.RcNeAt.none_str _ _
 ·exact SeqAt.RcNeAt.none_list ‹_› hu
 ·exact SeqAt.RcNeAt.none_tuple ‹_› hu
 ·exact SeqAt.RcNeAt.bool_none _
 ·exact SeqAt.RcNeAt.bool_bool _ _
 ·exact SeqAt.RcNeAt.bool_int _ _ _
 ·exact SeqAt.RcNeAt.bool_str _ _ _
 ·exact SeqAt.RcNeAt.bool_list _ ‹_› hu
 ·exact SeqAt.RcNeAt.bool_tuple _ ‹_› hu
 ·exact SeqAt.RcNeAt.int_none _ _
 ·exact SeqAt.RcNeAt.int_bool _ _ _
 ·exact SeqAt.RcNeAt.int_int _ _ _ _
 ·exact SeqAt.RcNeAt.int_str _ _ _ _
 ·exact SeqAt.RcNeAt.int_list _ _ ‹_› hu
 ·exact SeqAt.RcNeAt.int_tuple _ _ ‹_› hu
 ·exact SeqAt.RcNeAt.str_none _ _
 ·exact SeqAt.RcNeAt.str_bool _ _ _
 ·exact SeqAt.RcNeAt.str_int _ _ _ _
 ·exact SeqAt.RcNeAt.str_str _ _ _ _
 ·exact SeqAt.RcNeAt.str_list _ _ ‹_› hu
 ·exact SeqAt.RcNeAt.str_tuple _ _ ‹_› hu
 ·exact SeqAt.RcNeAt.list_none ‹_› hu
 ·exact SeqAt.RcNeAt.list_bool _ ‹_› hu
 ·exact SeqAt.RcNeAt.list_int _ _ ‹_› hu
 ·exact SeqAt.RcNeAt.list_str _ _ ‹_› hu
 ·rename_i as a us p ra bs b ws p' rb;have l1:=ra.len;have l2:=rb.len
  by_cases hl:as.length=bs.length
  ·rw[<-jxf as bs hl];have z:=SeqAt.RcNeAt.lists (A:=A) (s:=s) (e:=pAt as bs) p p' (by simp only[X7];omega) hu (el as bs us ws (.inl rfl) (.inl rfl) ra rb);rw[X7,<-l1]at z;exact z
  ·rw[kju as bs hl];exact SeqAt.RcNeAt.lists_lengths p p' (by simp only[X7,bne_iff_ne];omega) hu
 ·exact SeqAt.RcNeAt.list_tuple ‹_› ‹_› hu
 ·exact SeqAt.RcNeAt.tuple_none ‹_› hu
 ·exact SeqAt.RcNeAt.tuple_bool _ ‹_› hu
 ·exact SeqAt.RcNeAt.tuple_int _ _ ‹_› hu
 ·exact SeqAt.RcNeAt.tuple_str _ _ ‹_› hu
 ·exact SeqAt.RcNeAt.tuple_list ‹_› ‹_› hu
 ·rename_i as a us p ra bs b ws p' rb;have l1:=ra.len;have l2:=rb.len;rw[<-qka as bs];have z:=SeqAt.RcNeAt.tuples (A:=A) (s:=s) (e:=pAt as bs) p p' hu (el as bs us ws (.inr rfl) (.inr rfl) ra rb);rw[X7,X7,<-l1,<-l2]at z;exact z
theorem kwq{A:Around}{a a':Addr}{b:Bool}(qu:Value.ref a=Value.ref a'->b=true)(rc:SeqAt.RcAt A s (.ref a) (.ref a') b):SeqAt.EqAt A s (.ref a) (.ref a') b:=by
 by_cases e:a=a'
 ·subst e;rw[qu rfl];exact SeqAt.EqAt.same _
 ·exact SeqAt.EqAt.of_refs e rc
theorem vqv{A:Around}{d d':D}{u w:Value}(hu:A.units<cLine)(r:jJ s.heap d u)(r':jJ s.heap d' w)(qu:u=w->peq d d'=true)(rc:SeqAt.RcAt A s u w (peq d d')):SeqAt.EqAt A s u w (peq d d'):=by
 cases crv r<;>cases crv r'<;>try unfold peq
 ·exact SeqAt.EqAt.same _
 ·exact SeqAt.EqAt.none_bool _
 ·exact SeqAt.EqAt.none_int _ _
 ·exact SeqAt.EqAt.none_str _ _
 ·exact SeqAt.EqAt.none_list ‹_› hu
 ·exact SeqAt.EqAt.none_tuple ‹_› hu
 ·exact SeqAt.EqAt.bool_none _
 ·exact SeqAt.EqAt.bool_bool _ _
 ·exact SeqAt.EqAt.bool_int _ _ _
 ·exact SeqAt.EqAt.bool_str _ _ _
 ·exact SeqAt.EqAt.bool_list _ ‹_› hu
 ·exact SeqAt.EqAt.bool_tuple _ ‹_› hu
 ·exact SeqAt.EqAt.int_none _ _
 ·exact SeqAt.EqAt.int_bool _ _ _
 ·exact SeqAt.EqAt.int_int _ _ _ _
 ·exact SeqAt.EqAt.int_str _ _ _ _
 ·exact SeqAt.EqAt.int_list _ _ ‹_› hu
 ·exact SeqAt.EqAt.int_tuple _ _ ‹_› hu
 ·exact SeqAt.EqAt.str_none _ _
 ·exact SeqAt.EqAt.str_bool _ _ _
 ·exact SeqAt.EqAt.str_int _ _ _ _
 ·exact SeqAt.EqAt.str_str _ _ _ _
 ·exact SeqAt.EqAt.str_list _ _ ‹_› hu
 ·exact SeqAt.EqAt.str_tuple _ _ ‹_› hu
 ·exact SeqAt.EqAt.list_none ‹_› hu
 ·exact SeqAt.EqAt.list_bool _ ‹_› hu
 ·exact SeqAt.EqAt.list_int _ _ ‹_› hu
 ·exact SeqAt.EqAt.list_str _ _ ‹_› hu
 ·exact kwq qu rc
 ·exact kwq qu rc
 ·exact SeqAt.EqAt.tuple_none ‹_› hu
 ·exact SeqAt.EqAt.tuple_bool _ ‹_› hu
 ·exact SeqAt.EqAt.tuple_int _ _ ‹_› hu
 ·exact SeqAt.EqAt.tuple_str _ _ ‹_› hu
 ·exact kwq qu rc
 ·exact kwq qu rc
theorem XX:∀(n:Nat) {d d':D} {u w:Value} {A:Around},d.flat n=true->jJ s.heap d u->jJ s.heap d' w->A.units+n<cLine->SeqAt.EqAt A s u w (peq d d')
 | n,d,d',u,w,A,f,r,r',hu=>by
  refine vqv (by omega) r r' (λe=>?_) (wjn (by omega) r r' λas bs us ws h1 h2 ra rb=>?_)
  rotate_left
  ·cases n with
   |zero=>rcases h1 with rfl|rfl<;>(unfold D.flat at f;cases f)
   |succ n=>
    have fs:D.flats n as=true:=by rcases h1 with rfl|rfl<;>(unfold D.flat at f;exact f)
    exact qjk ra rb λj d d' u w e1 e2 q1 q2=>XX n (jzi fs e1) q1 q2 (by have:=L3.in1_units A;omega)
  ·subst e;rw[kk2 r' r];exact Zj f
end
section
variable {X:Cx}{Z:Fx0}{K:PySem.W.Frag}
noncomputable def wz1(K:PySem.W.Frag):R2:=λx y H Q=>∃d d' as bs,RepL K H true d x as/\RepL K H true d' y bs/\d.flat 40=true/\d'.flat 40=true/\Q (.bl (peq d d')) H
noncomputable def wxv(K:PySem.W.Frag):R2:=λx y H Q=>∃d d' as bs,RepL K H true d x as/\RepL K H true d' y bs/\d.flat 40=true/\d'.flat 40=true/\Q (.bl (!peq d d')) H
theorem v7(hu:X.A.units+64<cLine)(hK:autoParam (X.K=K) Ŕ):OpR X (compareOp .Eq) (wz1 K):=by
 subst hK;intro pins s σ H x y v u Q I rx ry h;obtain⟨d,d',as,bs,h1,h2,f1,f2,q⟩:=h;have c1:=Vk I h1 f1 rx;have c2:=Vk I h2 f2 ry;refine wjn (by omega) c1 c2 (λas bs us ws e1 e2 ra rb=>qjk ra rb λj d d' u w e3 e4 q1 q2=>?_) _ _ _ _ ⟨.bl _,H,I,rfl,q⟩;have fs:D.flats 39 as=true:=by rcases e1 with rfl|rfl<;>(unfold D.flat at f1;exact f1)
 exact XX 39 (jzi fs e3) q1 q2 (by have:=L3.in1_units X.A;omega)
theorem ZQ(hu:X.A.units+64<cLine)(hK:autoParam (X.K=K) Ŕ):OpR X (compareOp .NotEq) (wxv K):=by
 subst hK;intro pins s σ H x y v u Q I rx ry h;obtain⟨d,d',as,bs,h1,h2,f1,f2,q⟩:=h;have c1:=Vk I h1 f1 rx;have c2:=Vk I h2 f2 ry;refine ww8 (by omega) c1 c2 (λas bs us ws e1 e2 ra rb=>qjk ra rb λj d d' u w e3 e4 q1 q2=>?_) _ _ _ _ ⟨.bl _,H,I,rfl,q⟩;have fs:D.flats 39 as=true:=by rcases e1 with rfl|rfl<;>(unfold D.flat at f1;exact f1)
 exact XX 39 (jzi fs e3) q1 q2 (by have:=L3.in1_units X.A;omega)
theorem vj:Ad2 K (wz1 K) (pu2 fEq):=by
 intro H x y s Q ox oy hf k;unfold pu2 fEq at hf;dsimp only at hf
 by_cases hc:(x.d.flat 40&&y.d.flat 40)=true
 ·rw[X9 hc]at hf;rw[Bool.and_eq_true]at hc;cases oq9 hf;exact⟨x.d,y.d,x.as,y.as,RepO.wk ox,RepO.wk oy,hc.1,hc.2,k ⟨.dp,.bl _,.bl _,[]⟩ H rfl rfl xY⟩
 ·rw[Xd hc]at hf;cases hf
theorem qvw:Ad2 K (wxv K) (pu2 fNe):=by
 intro H x y s Q ox oy hf k;unfold pu2 fNe at hf;dsimp only at hf
 by_cases hc:(x.d.flat 40&&y.d.flat 40)=true
 ·rw[X9 hc]at hf;rw[Bool.and_eq_true]at hc;cases oq9 hf;exact⟨x.d,y.d,x.as,y.as,RepO.wk ox,RepO.wk oy,hc.1,hc.2,k ⟨.dp,.bl _,.bl _,[]⟩ H rfl rfl xY⟩
 ·rw[Xd hc]at hf;cases hf
end
end Q
namespace Q
open PySem PySem.Spec PyProof.Rows L2 L3
mutual
noncomputable def wj2:D->Nat
 |.tup xs=>drwDs xs+1
 |_=>1
noncomputable def drwDs:List D->Nat
 |[]=>0
 |a::x=>wj2 a+drwDs x
end
mutual
theorem qq1:∀{n:Nat} {d:D},k7 n d=true->d.flat n=true
 |n,.non,_=>by cases n<;>rfl
 |n,.bl _,h=>by cases n<;>(unfold k7 at h;cases h)
 |n,.int _,_=>by cases n<;>rfl
 |n,.str _,h=>by cases n<;>(unfold k7 at h;cases h)
 |0,.tup _,h=>by unfold k7 at h;cases h
 |n+1,.tup xs,h=>by unfold k7 at h;unfold D.flat;exact keys_flat h
 |n,.lst _,h=>by cases n<;>(unfold k7 at h;cases h)
 |n,.dct _,h=>by cases n<;>(unfold k7 at h;cases h)
 |n,.obj _ _,h=>by cases n<;>(unfold k7 at h;cases h)
theorem keys_flat:∀{n:Nat} {ds:List D},keyDs n ds=true->D.flats n ds=true
 |_,[],_=>by unfold D.flats;rfl
 |n,a::x,h=>by
  unfold keyDs at h;rw[Bool.and_eq_true]at h;unfold D.flats;rw[qq1 h.1,keys_flat h.2];rfl
end
mutual
theorem qzb:∀{n m:Nat} {a b:D},k7 n a=true->k7 m b=true->peq a b=decide (a=b)
 | n,m,.non,b,_,hb=>by
  cases b with
  | non=>simp[peq]
  | int _=>simp[peq]
  | tup _=>simp[peq]
  | _=>cases m<;>(unfold k7 at hb;cases hb)
 | n,m,.int i,b,_,hb=>by
  cases b with
  | non=>simp[peq]
  | int j=>by_cases h:i=j<;>simp[peq,h]
  | tup _=>simp[peq]
  | _=>cases m<;>(unfold k7 at hb;cases hb)
 | 0,_,.tup _,_,ha,_=>by unfold k7 at ha;cases ha
 | n+1,m,.tup xs,b,ha,hb=>by
  cases b with
  | non=>simp[peq]
  | int j=>simp[peq]
  | tup ys=>
   cases m with
   |zero=>unfold k7 at hb;cases hb
   |succ m=>
    unfold k7 at ha hb;have:=keys_peq ha hb;rw[show peq (.tup xs) (.tup ys)=peqs xs ys by simp[peq],this]
    by_cases h:xs=ys<;>simp[h]
  |_=>cases m<;>(unfold k7 at hb;cases hb)
 |n,_,.bl _,_,ha,_=>by cases n<;>(unfold k7 at ha;cases ha)
 |n,_,.str _,_,ha,_=>by cases n<;>(unfold k7 at ha;cases ha)
 |n,_,.lst _,_,ha,_=>by cases n<;>(unfold k7 at ha;cases ha)
 |n,_,.dct _,_,ha,_=>by cases n<;>(unfold k7 at ha;cases ha)
 |n,_,.obj _ _,_,ha,_=>by cases n<;>(unfold k7 at ha;cases ha)
theorem keys_peq:∀{n m:Nat} {a b:List D},keyDs n a=true->keyDs m b=true->peqs a b=decide (a=b)
 |_,_,[],[],_,_=>by simp[peqs]
 |_,_,[],_::_,_,_=>by simp[peqs]
 |_,_,_::_,[],_,_=>by simp[peqs]
 |n,m,a::x,b::y,ha,hb=>by
  unfold keyDs at ha hb;rw[Bool.and_eq_true]at ha hb;rw[show peqs (a::x) (b::y)=(peq a b&&peqs x y)by simp[peqs],qzb ha.1 hb.1,keys_peq ha.2 hb.2]
  by_cases h1:a=b<;>by_cases h2:x=y<;>simp[h1,h2]
end
section
variable {prog:Program}{w:PySem.World}{A:Around}{E:Value->Shared->Prop}{s:Shared}
theorem qq5{Q:Int->Shared->Prop}(h:Q 4238894112 { s with toks:=s.toks+1 }):wpAny (model prog w) A (pyHash .none) Q E s:=by
 have ty:s.TypeIs Value.none "NoneType":=rfl;unfold pyHash;unfold pyHashByItsType;refine X0 ?_;rw[cRoomFor,Xd (show ¬([Value.none].any Value.onHeap)=true by decide)];refine X5 (X0 (wpAny_specialOf ty F.slot_NoneType_hash.lookup ?_));show wpAny _ _ (if(some (Value.builtin "NoneType.__hash__")==some Value.none)=true then _ else _) Q E s;rw[Xd (show ¬(some (Value.builtin "NoneType.__hash__")==some Value.none)=true by rw[beq_builtin_none];exact Bool.false_ne_true)];refine X0 (wpAny_specialOf ty F.slot_NoneType_hash.lookup ?_);show wpAny _ _ (callSpecialIfBoundUnlessNone? Value.none "__hash__" _ >>= _) Q E s;refine X0 (wpAny_callSpecialIfBoundUnlessNone?_slot ty F.slot_NoneType_hash (Y7 F.slot_NoneType_hash ty F.entry_NoneType_hash ?_ (F.args_NoneType_hash_1 _)));show wpAny _ _ (retInt 4238894112) _ _ s;refine wpAny_ret_mkInt ?_;show wpAny _ _ (if(decide (-(2:Int) ^ 63<=(4238894112:Int))&&decide ((4238894112:Int)<2 ^ 63))=true then _ else _) Q E _;rw[X9 (by decide)];exact X5 h
theorem kkx{d:D}:∀ds:List D,hashDs (ds++[d])=hashDs ds++[z0 d]
 |[]=>by simp[hashDs]
 |a::x=>by rw[List.cons_append,hashDs,hashDs,kkx x];rfl
theorem kvg{d:D}:∀ds:List D,drwDs (ds++[d])=drwDs ds+wj2 d
 |[]=>by simp[drwDs]
 |a::x=>by rw[List.cons_append,drwDs,drwDs,kvg x];omega
theorem wqs:∀(n:Nat) {d:D} {u:Value} {A:Around} {s:Shared} {Q:Int->Shared->Prop},k7 n d=true->jJ s.heap d u->A.units+4*n<cLine->Q (z0 d) { s with toks:=s.toks+wj2 d }->wpAny (model prog w) A (pyHash u) Q E s:=by
 intro n
 induction n with
 | zero=>
  intro d u A s Q hk hr hu h;cases d with
  | non=>unfold jJ at hr;subst hr;exact qq5 h
  | int i=>unfold jJ at hr;obtain⟨t,rfl⟩:=hr;exact wpAny_pyHash_int h
  | _=>unfold k7 at hk;cases hk
 | succ n ih=>
  intro d u A s Q hk hr hu h;cases d with
  | non=>unfold jJ at hr;subst hr;exact qq5 h
  | int i=>unfold jJ at hr;obtain⟨t,rfl⟩:=hr;exact wpAny_pyHash_int h
  | tup ds=>
   unfold k7 at hk;unfold jJ at hr;obtain⟨a,us,rfl,ht,hi⟩:=hr;have ty:=ht.typeIs;obtain⟨ob,jd,f9,nn,qh⟩:=ht;unfold pyHash;unfold pyHashByItsType;refine X0 (wpAny_cRoomFor_or (.inr (by omega)) ?_);refine X0 (wpAny_specialOf ty F.slot_tuple_hash.lookup ?_);show wpAny _ _ (if(some (Value.builtin "tuple.__hash__")==some Value.none)=true then _ else _) Q E s;rw [Xd (show ¬(some (Value.builtin "tuple.__hash__")==some Value.none)=true by rw[beq_builtin_none];exact Bool.false_ne_true)];refine X0 (wpAny_specialOf ty F.slot_tuple_hash.lookup ?_);show wpAny _ _ (callSpecialIfBoundUnlessNone? (Value.ref a) "__hash__" _ >>= _) Q E s;refine X0 (wpAny_callSpecialIfBoundUnlessNone?_slot ty F.slot_tuple_hash (Y7 F.slot_tuple_hash ty F.entry_tuple_hash ?_ (F.args_tuple_hash_1 _)));show wpAny _ _ (Builtin.Tuple.tupleItemsOf (Value.ref a) >>= _) _ _ s;refine X0 (wpAny_tupleItemsOf jd qh ?_);refine X0 ?_;rw [<-Array.forIn_toList];refine wpAny_forIn_list _ (λjw (b:Array Int) s'=>∃pre post,ds=pre++post/\keyDs n post=true/\CReps s.heap post jw/\b.toList=hashDs pre/\s'={ s with toks:=s.toks+drwDs pre }) _ ?_ ?_ _ _ ⟨[],ds,rfl,hk,hi,rfl,rfl⟩
   ·rintro x jw b s' ⟨pre,post,rfl,dj,hl,hb,rfl⟩;cases post with
    | nil=>unfold CReps at hl;cases hl
    | cons d post=>
     unfold CReps at hl;obtain⟨u1,r1,e1,h1,h2⟩:=hl;injection e1 with e1 e2;subst e1 e2;unfold keyDs at dj;rw[Bool.and_eq_true]at dj;have ru:A.in1.units+4*n<cLine:=by show A.units+1+4*n<cLine;omega
     have fin:∃p q,pre++d::post=p++q/\keyDs n q=true/\CReps s.heap q jw/\(b.push (z0 d)).toList=hashDs p/\({ s with toks:=s.toks+drwDs pre+wj2 d }:Shared)={ s with toks:=s.toks+drwDs p }:=
      ⟨pre++[d],post,by simp,dj.2,h2,by rw[kkx,<-hb];simp,by rw[kvg,Nat.add_assoc]⟩
     refine X0 (ih dj.1 h1 ru ?_)
     first
      |exact X5 fin
      |exact X0 (X5 (X5 fin))
   ·rintro b s' ⟨pre,post,rfl,dj,hl,hb,rfl⟩;have:post=[]:=by
     cases post with
     |nil=>rfl
     |cons d post=>unfold CReps at hl;obtain⟨_,_,z,_⟩:=hl;cases z
    subst this;rw[Xv]at h;show wpAny _ _ (retInt (Builtin.Tuple.tupleHashOf b.toList)) _ _ _;rw[hb];refine wpAny_ret_mkInt ?_;generalize hv:Builtin.Tuple.tupleHashOf (hashDs pre)=v;have h:Q (reduceHash v) { s with toks:=s.toks+drwDs pre+1 }:=by rw[<-hv];unfold z0 wj2 at h;rw[Nat.add_assoc];exact h
    show wpAny _ _ (if(decide (-(2:Int) ^ 63<=v)&&decide (v<2 ^ 63))=true then _ else _) Q E _;unfold reduceHash at h
    by_cases hq:(decide (-(2:Int) ^ 63<=v)&&decide (v<2 ^ 63))=true
    ·rw[X9 hq]at h ⊢;exact X5 h
    ·rw[Xd hq]at h ⊢;exact X0 (wpAny_rule (X5 h))
  |_=>unfold k7 at hk;cases hk
theorem vwj:∀(n m:Nat) {d:D} {u:Value} {A:Around} {s:Shared} {Q:Bool->Shared->Prop},n<=m->k7 n d=true->jJ s.heap d u->Q true s->wpAny (model prog w) A (eqIsQuiet m u) Q E s:=by
 have byv:∀(m:Nat) {v:Value} {A:Around} {s:Shared} {Q:Bool->Shared->Prop},carriedByValue v=true->Q true s->wpAny (model prog w) A (eqIsQuiet m v) Q E s:=λm v A s Q hv h=>by
  rw [eqIsQuiet_byValue m hv];exact X5 h
 intro n
 induction n with
 | zero=>
  intro m d u A s Q _ hk hr h;cases d with
  | non=>unfold jJ at hr;subst hr;exact byv m rfl h
  | int i=>unfold jJ at hr;obtain⟨t,rfl⟩:=hr;exact byv m rfl h
  | _=>unfold k7 at hk;cases hk
 | succ n ih=>
  intro m d u A s Q hm hk hr h;cases d with
  | non=>unfold jJ at hr;subst hr;exact byv m rfl h
  | int i=>unfold jJ at hr;obtain⟨t,rfl⟩:=hr;exact byv m rfl h
  | tup ds=>
   unfold k7 at hk;unfold jJ at hr;obtain⟨a,us,rfl,ht,hi⟩:=hr;have ty:=ht.typeIs;obtain⟨ob,jd,f9,nn,qh⟩:=ht;cases m with
   | zero=>omega
   | succ m=>
    unfold eqIsQuiet;refine X0 (wpAny_specialOf ty F.slot_tuple_eq.lookup ?_);show wpAny _ _ (isInstance (Value.ref a) (.type "tuple") >>= _) _ _ s;refine X0 (wpAny_isInstance ty isSubtype_tuple_tuple ?_);simp only[Bool.not_true,Bool.false_eq_true,if_false];refine X0 (wpAny_seqItems jd qh (X0 ?_));show wpAny _ _ (forIn us.toArray _ _) _ _ s;rw[<-Array.forIn_toList];refine wpAny_forIn_list _ (λjw r s'=>r.1=none/\s'=s/\∃post,keyDs n post=true/\CReps s.heap post jw) _ ?_ ?_ _ _ ⟨rfl,rfl,ds,hk,hi⟩
    ·rintro v jw r s' ⟨hr,rfl,post,dj,hl⟩;cases post with
     |nil=>unfold CReps at hl;cases hl
     |cons d post=>
      unfold CReps at hl;obtain⟨u1,r1,e1,h1,h2⟩:=hl;injection e1 with e1 e2;subst e1 e2;unfold keyDs at dj;rw[Bool.and_eq_true]at dj;refine X0 (ih m (by omega) dj.1 h1 ?_);simp only[Bool.not_true,Bool.false_eq_true,if_false];exact X5 ⟨rfl,rfl,post,dj.2,h2⟩
    ·rintro ⟨r1,r2⟩ s' ⟨hr,rfl,_⟩;simp only at hr;subst hr;exact X5 h
  |_=>unfold k7 at hk;cases hk
end
mutual
theorem kvh{h h':Heap}{x:Addr}{o:Obj}{es:Array DictEntry}{ep:Nat}(ho:h.get? x=some o)(hd:o.data=.dict es ep)(hs:Heap.SameBut x h h'):∀{n:Nat} {d:D} {u:Value},k7 n d=true->jJ h d u->jJ h' d u
 | _,.non,_,_,r=>by unfold jJ at r ⊢;exact r
 | n,.bl _,_,hk,_=>by cases n<;>(unfold k7 at hk;cases hk)
 | _,.int _,_,_,r=>by unfold jJ at r ⊢;exact r
 | n,.str _,_,hk,_=>by cases n<;>(unfold k7 at hk;cases hk)
 | 0,.tup _,_,hk,_=>by unfold k7 at hk;cases hk
 | n+1,.tup ds,_,hk,r=>by
  unfold k7 at hk;unfold jJ at r ⊢;obtain⟨a,us,e,⟨ob,jd,hc,nn,qh⟩,hi⟩:=r;have c9:a≠x:=by
   rintro rfl;rw[ho]at jd;cases jd;rw[hd]at qh;cases qh
  exact⟨a,us,e,⟨ob,(hs.2 a c9).trans jd,hc,nn,qh⟩,creps_keeps ho hd hs hk hi⟩
 |n,.lst _,_,hk,_=>by cases n<;>(unfold k7 at hk;cases hk)
 |n,.dct _,_,hk,_=>by cases n<;>(unfold k7 at hk;cases hk)
 |n,.obj _ _,_,hk,_=>by cases n<;>(unfold k7 at hk;cases hk)
theorem creps_keeps{h h':Heap}{x:Addr}{o:Obj}{es:Array DictEntry}{ep:Nat}(ho:h.get? x=some o)(hd:o.data=.dict es ep)(hs:Heap.SameBut x h h'):∀{n:Nat} {ds:List D} {us:List Value},keyDs n ds=true->CReps h ds us->CReps h' ds us
 |_,[],_,_,r=>by unfold CReps at r ⊢;exact r
 |n,d::ds,_,hk,r=>by
  unfold keyDs at hk;rw[Bool.and_eq_true]at hk;unfold CReps at r ⊢;obtain⟨u,rr,e,h1,h2⟩:=r;exact⟨u,rr,e,kvh ho hd hs hk.1 h1,creps_keeps ho hd hs hk.2 h2⟩
end
noncomputable def kv0(prog:Program)(w:PySem.World):HeapKind prog w Kd where
 is:=λh k a=>jJ h k.1 (.ref a)
 hash:=λk=>z0 k.1
 draws:=λk=>wj2 k.1
 room:=λA=>A.units+40<cLine
 inj:=λhx hy=>Subtype.ext (kk2 hx hy)
 keeps:=fun {h h' k a d o es ep} x ho hd hs=>kvh ho hd hs k.2 x
 pyHash:=fun {A E s k a Q} hu hk h=>wqs 6 k.2 hk (Nat.lt_of_le_of_lt (Nat.add_le_add_left (by decide) _) hu) h
 eqBool:=fun {A E s x y a b Q} hu hx hy h=>by
  have e:peq x.1 y.1=decide (x=y):=by
   rw[qzb x.2 y.2]
   by_cases z:x=y
   ·rw[Xb z,Xb (congrArg Subtype.val z)]
   ·rw[Xa z,Xa λq=>z (Subtype.ext q)]
  have:=XX (s:=s) 6 (A:=A) (qq1 x.2) hx hy (Nat.lt_of_le_of_lt (Nat.add_le_add_left (by decide) _) hu);rw[e]at this;exact this prog w E Q h
 quiet:=fun {A E s k a Q} hk h=>vwj 6 8 (by decide) k.2 hk h
abbrev Sl.sd(x:Sl):Sd:=(x.o,x.d)
noncomputable def tA(Z:Fx0)(q:Bool)(cs:List Ex):TA:=fun σ H Q=>∃E L r,Mt E σ L/\World Z.K H L/\wj cs E=some r/\Xc Z σ H L r /\
 ∀E' ys,r=.ok E' ys->∀(xs:List Sl) L' H',xs.map Sl.sd=ys->Mt E' σ L'->World Z.K H' (xs.map some++L')->Step H L H' (xs.map some++L')->(q=true->kJ H H'/\∀b∈jq (xs.map some),H b=none)->Q (xs.map Sl.v) H'
noncomputable def QA(X:Cx)(Z:Fx0)(q:Bool)(cs:List Ex)(es:List Expr):Prop:=PA X es (tA Z q cs)
theorem kxm{X:Cx}{es:List Expr}{t t':TA}(h:PA X es t)(w:∀ σ H Q,t' σ H Q->t σ H Q):PA X es t':=λpos pins s σ H Q I q=>h pos pins s σ H Q I (w σ H Q q)
section
variable {X:Cx}{Z:Fx0}{pn:List Nat}{q:Bool}{c:Ex}{cs:List Ex}{e:Expr}{es:List Expr}{pos:Pos}{σ:L2.St}{H:Hp}{L:Ls}{E:En}
theorem j8:QA X Z true [] []:=kxm zw fun σ H Q ai=>ex8 ai λE L r m w hc xc k=>by
 cases oq9 hc;exact k _ _ rfl [] L H rfl m w Step.refl λ_=>⟨λ_ _ z=>z,λ_ z=>(nomatch z)⟩
theorem j3(h:QE X Z q c e)(hs:QA X Z q cs es)(ao:autoParam (starEach (e::es) X.env=(false,eval e X.env)::starEach es X.env) Ŕ):QA X Z q (c::cs) (e::es):=
 kxm (xQ h hs ao) fun σ H Q ai=>ex8 ai λE L r m w hc xc k=>by
  refine VX m w (show bnd (c E) _=some r from hc) xc λE1 s h1 x L1 H1 e1 e2 m1 w1 st sm=>?_
  have s1:Step H L H1 L1:=st.trans Step.drop;rcases z4 h1 with⟨E2,ys,h2,h3⟩|⟨E2,cc,h2,h3⟩
  ·cases oq9 h3;refine⟨E1,L1,_,m1,w1.tail,h2,(λ_ _ z=>by cases z),λE' ys' z xs L2 H2 e3 m2 w2 b7 fj=>?_⟩;injection z with z1 z2;subst z1 z2;obtain⟨w3,cw⟩:=WQ (T:=[some x]) w1 b7 w2;refine k _ _ rfl (x::xs) L2 H2 (by rw[List.map_cons,e3];simp[Sl.sd,e1,e2]) m2 w3 (st.trans cw) λhq=>?_
   obtain⟨a1,a2⟩:=sm hq;obtain⟨b1,b2⟩:=fj hq;refine⟨v8 a1 b1,λb hb=>?_⟩;rw[List.map_cons,qk]at hb;rcases List.mem_append.mp hb with z|z
   ·exact a2 b z
   ·exact zZ a1 (b2 b z)
  ·exact⟨E1,L1,_,m1,w1.tail,h2,(xc.step s1).map h3,λE' s' z=>by cases z⟩
end
section
variable {X:Cx}{Z:Fx0}{q:Bool}{cs:List Ex}{es:List Expr}{pos:Pos}{σ:L2.St}{H:Hp}{L:Ls}{E:En}{α:Type}
theorem jzp:∀{cs:List Ex} {E E':En} {ys:List Sd},wj cs E=some (.ok E' ys)->ys.length=cs.length
 | [],E,E',ys,h=>by cases oq9 h;rfl
 | c::cs,E,E',ys,h=>by
  rcases z4 (show bnd (c E) _=some _ from h)with⟨E1,x,h1,h2⟩|⟨_,_,_,z⟩
  ·rcases z4 h2 with⟨E2,xs,h3,h4⟩|⟨_,_,_,z⟩
   ·cases oq9 h4;rw[Xr,Xr,jzp h3]
   ·cases z
  ·cases z
theorem vzx{F:En->List Sd->Option (Res α)}{r:Res α}{G:List V->Hp->Prop}(m:Mt E σ L)(w:World Z.K H L)(h:bnd (wj cs E) F=some r)(xc:Xc Z σ H L r)
  (k:∀E1 ys,F E1 ys=some r->ys.length=cs.length->∀(xs:List Sl) L1 H1,xs.map Sl.sd=ys->Mt E1 σ L1->World Z.K H1 (xs.map some++L1)->Step H L H1 (xs.map some++L1)->(q=true->kJ H H1/\∀b∈jq (xs.map some),H b=none)->G (xs.map Sl.v) H1):tA Z q cs σ H G:=by
 rcases z4 h with⟨E1,s,h1,h2⟩|⟨E1,c,h1,h2⟩
 ·exact⟨E,L,_,m,w,h1,(λ_ _ z=>by cases z),λE' s' z xs L' H' e1 m' w' st sm=>by
   injection z with z1 z2;subst z1 z2;exact k _ _ h2 (jzp h1) xs L' H' e1 m' w' st sm⟩
 ·exact⟨E,L,_,m,w,h1,xc.map h2,λE' s' z=>by cases z⟩
theorem jxj{K:PySem.W.Frag}{H:Hp}(g:Bool):∀{xs:List Sl},(∀x∈xs,x.ok K H)->(g=false->∀x∈xs,xX x.sd=true)->∃bs,RepA K H g (xs.map Sl.d) (xs.map Sl.v) bs/\(∀b∈bs,∃x∈xs,b∈x.as)/\(g=false->bs=jq (xs.map some))/\(g=true->bs=xs.flatMap Sl.as)
 | [],_,_=>⟨[],by unfold RepA;exact⟨rfl,rfl⟩,λ_ h=>(nomatch h),λ_=>rfl,λ_=>rfl⟩
 | x :: xs,h,ht=>by
  obtain⟨bs,r,hb,ho,hg⟩:=jxj g (xs:=xs) (λy hy=>h y (lc9 _ hy)) λhg y hy=>ht hg y (lc9 _ hy)
  have hx:=h x X3;have key:∃cs,RepL K H g x.d x.v cs/\(∀b∈cs,b∈x.as)/\(g=false->cs=x.own)/\(g=true->cs=x.as):=by
   cases g with
   | true=>exact⟨x.as,RepO.wk hx,λb hb=>hb,(λz=>by cases z),λ_=>rfl⟩
   | false=>
    have t:=ht rfl x X3;unfold xX at t
    by_cases ho:x.o=.dp
    ·refine⟨x.as,?_,λb hb=>hb,λ_=>?_,λz=>by cases z⟩
     ·have:=hx;unfold Sl.ok at this;rw[ho]at this;exact this
     ·unfold Sl.own;rw[ho]
    ·have hp:x.d.pure=true:=by
      rcases Bool.or_eq_true_iff.mp t with z|z
      ·exact absurd (by simpa using z) ho
      ·exact z
     obtain⟨z,rp⟩:=RepL.pu (g':=false) (RepO.wk hx) hp;exact⟨[],rp,λ_ h=>(nomatch h),λ_=>(vx9 z).symm,λz=>by cases z⟩
  obtain⟨cs,r1,h1,h2,h3⟩:=key;refine⟨cs++bs,?_,λb f7=>?_,λkg=>?_,λkg=>?_⟩
  ·rw[List.map_cons,List.map_cons];unfold RepA;exact⟨x.v,xs.map Sl.v,cs,bs,rfl,rfl,r1,r⟩
  ·rcases List.mem_append.mp f7 with z|z
   ·exact⟨x,X3,h1 b z⟩
   ·obtain⟨y,hy,hby⟩:=hb b z;exact⟨y,lc9 _ hy,hby⟩
  ·rw[List.map_cons,qk,h2 kg,ho kg]
  ·rw[Yw,h3 kg,hg kg]
theorem vqc{K:PySem.W.Frag}{H:Hp}{p:Addr}{xs:List Sl}{L:Ls}(w:World K H (xs.map some++L))(hp:H p=none):
  ∃bs,World K (upd H p (.lst (xs.map Sl.v))) (some ⟨.rt,.lst (xs.map Sl.d),.ref p,p::bs⟩::L)/\Step H (xs.map some++L) (upd H p (.lst (xs.map Sl.v))) (some ⟨.rt,.lst (xs.map Sl.d),.ref p,p::bs⟩::L):=by
 obtain⟨bs,r,hb,_,_⟩:=jxj true (xs:=xs) (λx hx=>w.ok x (ll9 _ (Xe hx))) (λz=>by cases z);have ap:∀b∈bs,b∉jq L:=λb f7 hL=>by
  obtain⟨x,hx,gj⟩:=hb b f7;rcases Sl.as_of gj with z|z
  ·have nd:=w.nd;rw[kq,Xf]at nd;exact nd.2.2 b (mem_owned.mpr ⟨x,Xe hx,z⟩) b hL rfl
  ·exact w.ds b (by rw[kq];exact lr9 _ hL) (by rw[qY];exact ll9 _ (mem_frozen.mpr ⟨x,Xe hx,z⟩))
 have al:∀b∈bs,H b≠none:=λb f7=>by
  obtain⟨x,hx,gj⟩:=hb b f7;exact(w.ok x (ll9 _ (Xe hx))).some gj
 have sr:Src H (xs.map some++L) bs:=λb f7=>by
  obtain⟨x,hx,gj⟩:=hb b f7;rcases Sl.as_of gj with z|z
  ·exact .inr (.inl (by rw[kq];exact ll9 _ (mem_owned.mpr ⟨x,Xe hx,z⟩)))
  ·exact .inl (by rw[qY];exact ll9 _ (mem_frozen.mpr ⟨x,Xe hx,z⟩))
 have o:Out K H (upd H p (.lst (xs.map Sl.v))) ⟨.rt,.lst (xs.map Sl.d),.ref p,p::bs⟩ bs:=Q4 hp r λb hb=>hb
 have st:Step H (xs.map some++L) H L:=⟨λ_ _ h _=>h,λa ha=>.inl (by rw[kq];exact lr9 _ ha),λa ha=>.inl (by rw[qY];exact lr9 _ ha)⟩;exact⟨bs,Vj (Z:=⟨K,λ_=>none,λ_ _ _=>True⟩) w.right st o ap al sr⟩
theorem vqb{K:PySem.W.Frag}{H:Hp}{p:Addr}{xs:List Sl}{L:Ls}(w:World K H (xs.map some++L))(hp:H p=none):
  ∃bs,World K (upd H p (.tup (xs.map Sl.v))) (some ⟨.no,.tup (xs.map Sl.d),.ref p,bs⟩::L)/\Step H (xs.map some++L) (upd H p (.tup (xs.map Sl.v))) (some ⟨.no,.tup (xs.map Sl.d),.ref p,bs⟩::L):=by
 obtain⟨bs,r,hb,_,_⟩:=jxj true (xs:=xs) (λx hx=>w.ok x (ll9 _ (Xe hx))) (λz=>by cases z);have ap:∀b∈bs,b∉jq L:=λb f7 hL=>by
  obtain⟨x,hx,gj⟩:=hb b f7;rcases Sl.as_of gj with z|z
  ·have nd:=w.nd;rw[kq,Xf]at nd;exact nd.2.2 b (mem_owned.mpr ⟨x,Xe hx,z⟩) b hL rfl
  ·exact w.ds b (by rw[kq];exact lr9 _ hL) (by rw[qY];exact ll9 _ (mem_frozen.mpr ⟨x,Xe hx,z⟩))
 have al:∀b∈bs,H b≠none:=λb f7=>by
  obtain⟨x,hx,gj⟩:=hb b f7;exact(w.ok x (ll9 _ (Xe hx))).some gj
 have sr:Src H (xs.map some++L) bs:=λb f7=>by
  obtain⟨x,hx,gj⟩:=hb b f7;rcases Sl.as_of gj with z|z
  ·exact .inr (.inl (by rw[kq];exact ll9 _ (mem_owned.mpr ⟨x,Xe hx,z⟩)))
  ·exact .inl (by rw[qY];exact ll9 _ (mem_frozen.mpr ⟨x,Xe hx,z⟩))
 have o:Out K H (upd H p (.tup (xs.map Sl.v))) ⟨.no,.tup (xs.map Sl.d),.ref p,bs⟩ bs:=kkl hp r λb hb=>hb
 have st:Step H (xs.map some++L) H L:=⟨λ_ _ h _=>h,λa ha=>.inl (by rw[kq];exact lr9 _ ha),λa ha=>.inl (by rw[qY];exact lr9 _ ha)⟩;exact⟨bs,Vj (Z:=⟨K,λ_=>none,λ_ _ _=>True⟩) w.right st o ap al sr⟩
theorem qxu{K:PySem.W.Frag}{H H':Hp}{xs:List Sl}{L:Ls}{d:D}{v:V}{ps:List Addr}(w:World K H (xs.map some++L))(ht:∀x∈xs,xX x.sd=true)(hp:∀b∈ps,H b=none)(nd:ps.Nodup)(sm:kJ H H')
  (rep:∀bs,RepA K H false (xs.map Sl.d) (xs.map Sl.v) bs->RepL K H' false d v (ps++bs)):
  World K H' (some ⟨.dp,d,v,ps++jq (xs.map some)⟩::L)/\Step H (xs.map some++L) H' (some ⟨.dp,d,v,ps++jq (xs.map some)⟩::L):=by
 obtain⟨bs,r,hb,ho,_⟩:=jxj false (xs:=xs) (λx hx=>w.ok x (ll9 _ (Xe hx))) (λ_=>ht);have e:=ho rfl;subst e;have w2:World K H' (xs.map some++L):=⟨λx hx=>RepO.kp (w.ok x hx) (Kp.of_same sm),w.nd,w.ds⟩;have ndx:=w.nd;rw[kq,Xf]at ndx;have al:∀b∈jq (xs.map some),H b≠none:=λb hb=>w.own_some (by rw[kq];exact ll9 _ hb)
 refine⟨w2.right.cons (x:=⟨.dp,d,v,ps++jq (xs.map some)⟩) (rep _ r) ?_ (λa ha hL=>?_) (λa ha hf=>?_) (λa ha=>(nomatch ha)) (λa ha=>λz=>(nomatch z)),⟨λa ob h _=>sm a ob h,λa ha=>?_,λa ha=>?_⟩⟩
 ·show(ps++jq (xs.map some)).Nodup;rw[Xf];exact⟨nd,ndx.1,λa ha b hb e=>by subst e;exact al a hb (hp a ha)⟩
 ·rcases List.mem_append.mp (show a∈ps++jq (xs.map some)from ha)with z|z
  ·exact w.own_some (by rw[kq];exact lr9 _ hL) (hp a z)
  ·exact ndx.2.2 a z a hL rfl
 ·rcases List.mem_append.mp (show a∈ps++jq (xs.map some)from ha)with z|z
  ·exact w.frz_some (by rw[qY];exact lr9 _ hf) (hp a z)
  ·exact w.ds a (by rw[kq];exact ll9 _ z) (by rw[qY];exact lr9 _ hf)
 ·rw[qk]at ha;rcases List.mem_append.mp ha with z|z
  ·rcases List.mem_append.mp (show a∈ps++jq (xs.map some)from z)with y|y
   ·exact .inr (hp a y)
   ·exact .inl (by rw[kq];exact ll9 _ y)
  ·exact .inl (by rw[kq];exact lr9 _ z)
 ·rw[wJ]at ha;exact .inl (by rw[qY];exact lr9 _ ha)
theorem wvi{xs:List Sl}{ys:List Sd}(h:xs.map Sl.sd=ys):xs.map Sl.d=ys.map (·.2):=by rw[<-h,Y2];rfl
theorem qkg{xs:List Sl}{ys:List Sd}(h:xs.map Sl.sd=ys)(ht:ys.all xX=true):∀x∈xs,xX x.sd=true:=λx hx=>by
 rw[<-h,List.all_map,List.all_eq_true]at ht;exact ht x hx
theorem qkx{o:Own}{xs:List Sl}{ys:List Sd}{E':En}{r:Res Sd}{L':Ls}{H1:Hp}{Q:VK}{Hq:Hp}{Lq:Ls}(h:mkL o E' ys=some r)(e:xs.map Sl.sd=ys)(w:World Z.K H1 (xs.map some++L'))(st:Step Hq Lq H1 (xs.map some++L'))(sm:q=true->kJ Hq H1/\∀b∈jq (xs.map some),Hq b=none)
  (k:∀E'' a,r=.ok E'' a->∀(x:Sl) L'' H',x.o=a.1->x.d=a.2->Mt E'' σ L''->World Z.K H' (some x::L'')->Step Hq Lq H' (some x::L'')->(q=true->kJ Hq H'/\∀b∈x.own,Hq b=none)->Q x.v H') (m:Mt E' σ L'):
  ∀ p,H1 p=none->Q (.ref p) (upd H1 p (.lst (xs.map Sl.v))):=by
 intro p hp;unfold mkL at h
 by_cases ho:o=.dp
 ·rw[X9 ho]at h
  by_cases ht:ys.all xX=true
  ·rw[X9 ht]at h;cases oq9 h;obtain⟨w2,s2⟩:=qxu (d:=.lst (xs.map Sl.d)) (v:=.ref p) (ps:=[p]) w (qkg e ht) (λb hb=>by rw[List.mem_singleton.mp hb];exact hp) (by simp) (wY (o:=.lst (xs.map Sl.v)) hp) (λbs r=>by
    unfold RepL;exact⟨p,_,bs,rfl,r.kp (Kp.of_same (wY hp)),.inl ⟨xJ,rfl⟩⟩)
   refine k _ _ rfl ⟨.dp,.lst (xs.map Sl.d),.ref p,_⟩ L' _ rfl (by rw[wvi e]) m w2 (st.trans s2) λhq=>⟨v8 (sm hq).1 (wY hp),λb hb=>?_⟩
   rcases List.mem_append.mp (show b∈[p]++jq (xs.map some)from hb)with z|z
   ·rw[List.mem_singleton.mp z];exact zZ (sm hq).1 hp
   ·exact(sm hq).2 b z
  ·rw[Xd ht]at h;cases h
 ·rw[Xd ho]at h;cases oq9 h;obtain⟨bs,w2,s2⟩:=vqc w hp;refine k _ _ rfl ⟨.rt,.lst (xs.map Sl.d),.ref p,p::bs⟩ L' _ rfl (by rw[wvi e]) m w2 (st.trans s2) λhq=>⟨v8 (sm hq).1 (wY hp),λb hb=>?_⟩
  have:b=p:=by simpa [Sl.own]using hb
  rw[this];exact zZ (sm hq).1 hp
theorem wjb{xs:List Sl}{ys:List Sd}{n:Nat}(h:xs.map Sl.sd=ys)(hl:ys.length=n)(hz:n<=1000):(xs.map Sl.v).length<=sizeLine:=by
 have:xs.length=n:=by rw[<-hl,<-h,X4]
 rw[X4,this];exact Y3 hz (by decide)
theorem kQ{o:Own}(h:QA X Z q cs es)(hz:autoParam (cs.length<=1000) ŕ):QE X Z q (k8 o cs) (.List es pos):=vx (wkm h) fun σ H Q ai=>ex8 ai λE L r m w hc xc k=>
 vzx m w (show bnd (wj cs E) _=some r from hc) xc λE1 ys h1 hl xs L1 H1 e1 m1 w1 st sm=>⟨wjb e1 hl hz,qkx (o:=o) (E':=E1) (ys:=ys) (by unfold mkL;exact h1) e1 w1 st sm k m1⟩
theorem v3{o:Own}{x1}(h:QA X Z q cs es)(hz:autoParam (cs.length<=1000) ŕ):QE X Z q (qw o cs) (.Tuple es x1 pos):=vx (wki h) fun σ H Q ai=>ex8 ai λE L r m w hc xc k=>
 vzx m w (show bnd (wj cs E) _=some r from hc) xc λE1 ys h1 hl xs L1 H1 e1 m1 w1 st sm=>⟨wjb e1 hl hz,λp hp=>by
  by_cases ho:o=.dp
  ·rw[X9 ho]at h1
   by_cases ht:ys.all xX=true
   ·rw[X9 ht]at h1;cases oq9 h1;obtain⟨w2,s2⟩:=qxu (d:=.tup (xs.map Sl.d)) (v:=.ref p) (ps:=[]) w1 (qkg e1 ht) (λb hb=>(nomatch hb)) (by simp) (wY (o:=.tup (xs.map Sl.v)) hp) (λbs r=>by
     unfold RepL;exact⟨p,_,rfl,SqT.of xJ,r.kp (Kp.of_same (wY hp))⟩)
    exact k _ _ rfl ⟨.dp,.tup (xs.map Sl.d),.ref p,_⟩ L1 _ rfl (by rw[wvi e1]) m1 w2 (st.trans s2) λhq=>⟨v8 (sm hq).1 (wY hp),λb hb=>(sm hq).2 b hb⟩
   ·rw[Xd ht]at h1;cases h1
  ·rw[Xd ho]at h1;cases oq9 h1;obtain⟨bs,w2,s2⟩:=vqb w1 hp;exact k _ _ rfl ⟨.no,.tup (xs.map Sl.d),.ref p,bs⟩ L1 _ rfl (by rw[wvi e1]) m1 w2 (st.trans s2) λhq=>⟨v8 (sm hq).1 (wY hp),λb hb=>(nomatch hb)⟩⟩
end
noncomputable def spF(K:PySem.W.Frag)(mg:Str->Option Value)(n:Nat)(f:Fn):Sp:=λvs H Q E=>∃(xs:List Sl) (r:Res Sd),vs=xs.map Sl.v/\xs.length=n/\World K H (xs.map some)/\f (xs.map Sl.sd)=some r /\
 (∀E' c,r=.exc E' c->∀C H',mg c=some (.ref C)->Step H (xs.map some) H' []->E (.ref C) none H') /\
 ∀E' a,r=.ok E' a->∀(x:Sl) H',x.o=a.1->x.d=a.2->World K H' [some x]->Step H (xs.map some) H' [some x]->Q x.v H'
theorem qx{K:PySem.W.Frag}{mg:Str->Option Value}{n:Nat}{f:Fn}{ps:List Str}(hn:ps.length=n):∀vs H Q E,spF K mg n f vs H Q E->vs.length=ps.length:=λvs H Q E ⟨xs,r,e,hl,_⟩=>by rw[e,X4,hl,hn]
theorem kjx:∀(xs:List Sl) (k:Nat),Mt (xs.map (λx=>some x.sd)++List.replicate k none) (xs.map (λx=>some x.v)++List.replicate k none) (xs.map some++List.replicate k none)
 |[],0=>.nil
 |[],k+1=>by
  rw[List.map_nil,List.map_nil,List.map_nil,List.replicate_succ,List.replicate_succ,List.replicate_succ];exact .un (kjx [] k)
 |x::xs,k=>.cons (x:=x) (kjx xs k)
theorem qz{X:Cx}{K:PySem.W.Frag}{mg:Str->Option Value}{N:List Str}{n nn:Nat}{B:Sm}{body:List Stmt}{H:Hp}{vs:List V}{Q:VK}{E:XK}(hN:N.length=nn)(t:QSs X ⟨K,mg,E⟩ [] B body)(h:spF K mg n (fn nn B) vs H Q E):
  ∃t,PSs X body t/\t { nx:=λ_ H'=>Q .non H',rt:=Q } (L2.start N vs) H:=by
 refine⟨_,t,?_⟩;obtain⟨xs,r,rfl,hl,w,hf,hx,hk⟩:=h;unfold fn at hf;rw[X4,Y2]at hf;have m:=kjx xs (nn - xs.length);have e1:L2.start N (xs.map Sl.v)=xs.map (λx=>some x.v)++List.replicate (nn - xs.length) none:=by
  unfold L2.start;rw[Y2,X4,hN];rfl
 have wL:World K H (xs.map some++List.replicate (nn - xs.length) none):=w.same (by simp);have sL:Step H (xs.map some) H (xs.map some++List.replicate (nn - xs.length) none):=Step.refl.same (List.Perm.refl _) (by simp);cases hB:B (xs.map (λx=>some x.sd)++List.replicate (nn - xs.length) none)with
 | none=>rw[show(some∘Sl.sd)=(λx:Sl=>some x.sd)from rfl,hB]at hf;cases hf
 | some g=>
  rw[show(some∘Sl.sd)=(λx:Sl=>some x.sd)from rfl,hB]at hf;refine⟨_,_,g,e1▸m,wL,hB,?_⟩;cases g with
  |nx E1=>
   cases oq9 hf;intro σ' L' H' _ m' w' s';exact hk _ _ rfl ⟨.dp,.non,.non,[]⟩ H' rfl rfl (World.consPu (x:=⟨.dp,.non,.non,[]⟩) (L:=[]) ⟨λ_ z=>(nomatch z),Xx,λ_ z=>(nomatch z)⟩ (show RepL K H' false .non .non []from qj9) rfl) (V2 (x:=⟨.dp,.non,.non,[]⟩) ((sL.trans s').sub (by simp)) (λb hb=>(nomatch hb)) rfl)
  |rt E1 a=>
   cases oq9 hf;intro x σ' L' H' e2 e3 _ m' w' s';exact hk _ _ rfl x H' e2 e3 (w'.sub (by simp)) ((sL.trans s').sub (by simp))
  |xc E1 c=>
   cases oq9 hf;intro C σ' L' H' hm _ m' w' s';exact hx _ _ rfl C H' hm ((sL.trans s').sub (by simp))
  |ct E1=>cases hf
  |bk E1=>cases hf
section
variable {X:Cx}{Z:Fx0}{q:Bool}{cs:List Ex}{e:Expr}{es:List Expr}{pos p:Pos}{x:Str}{ps:List Str}{k n:Nat}{f:Fn}
theorem jqu:∀xs:List Sl,jq ((xs.map Sl.let).map some)=[]
 |[]=>rfl
 |x::xs=>by rw[List.map_cons,List.map_cons,qk,jqu xs];rfl
theorem jz0:∀xs:List Sl,kj ((xs.map Sl.let).map some)=xs.flatMap Sl.as
 |[]=>rfl
 |x::xs=>by rw[List.map_cons,List.map_cons,wJ,jz0 xs,Yw];rfl
theorem qxy(xs:List Sl):(xs.map Sl.let).map Sl.sd=letAll (xs.map Sl.sd):=by
 unfold letAll;rw[Y2,Y2];rfl
theorem kqx{K:PySem.W.Frag}{H:Hp}{xs:List Sl}{L:Ls}(w:World K H (xs.map some++L)):World K H ((xs.map Sl.let).map some++L)/\Step H (xs.map some++L) H ((xs.map Sl.let).map some++L):=by
 have nd:=w.nd;rw[kq,Xf]at nd;have cl:∀a∈xs.flatMap Sl.as,a∈jq (xs.map some)\/a∈kj (xs.map some):=λa ha=>by
  obtain⟨x,hx,hax⟩:=List.mem_flatMap.mp ha;exact(Sl.as_of hax).imp (λz=>mem_owned.mpr ⟨x,Xe hx,z⟩) λz=>mem_frozen.mpr ⟨x,Xe hx,z⟩
 refine⟨⟨λx hx=>?_,by rw[kq,jqu];exact nd.2.1,λa ha hf=>?_⟩,λ_ _ h _=>h,λa ha=>?_,λa ha=>?_⟩
 ·rcases List.mem_append.mp hx with hx|hx
  ·obtain⟨y,hy,e⟩:=List.mem_map.mp hx;cases e;obtain⟨z,hz,rfl⟩:=List.mem_map.mp hy;exact Kv (w.ok z (ll9 _ (Xe hz)))
  ·exact w.ok x (lr9 _ hx)
 ·rw[kq,jqu]at ha;rw[qY,jz0]at hf;rcases List.mem_append.mp hf with z|z
  ·rcases cl a z with z|z
   ·exact nd.2.2 a z a ha rfl
   ·exact w.ds a (by rw[kq];exact lr9 _ ha) (by rw[qY];exact ll9 _ z)
  ·exact w.ds a (by rw[kq];exact lr9 _ ha) (by rw[qY];exact lr9 _ z)
 ·rw[kq,jqu]at ha;exact .inl (by rw[kq];exact lr9 _ ha)
 ·rw[qY,jz0]at ha;rw[qY,kq];rcases List.mem_append.mp ha with z|z
  ·rcases cl a z with z|z
   ·exact .inr (.inl (ll9 _ z))
   ·exact .inl (ll9 _ z)
  ·exact .inl (lr9 _ z)
theorem wk4(D:kK X.prog X.w X.K X.mg X.base k x ps (spF Z.K Z.mg n f))(hr:Room k X.A)(g:zX X Z.EX)(ha:QA X Z q cs (e::es))(hn:autoParam (cs.length=n) Ŕ)(hg:autoParam (Gl X x) Ŕ)(fy:autoParam ((x==("__debug__":Str))=false) ŕ)
  (he:autoParam (starEach (e::es) X.env=(false,eval e X.env)::starEach es X.env) Ŕ) (cg:autoParam ((backTo pos (starEach es X.env)).any (·.1)=false) Ŕ):
  QE X Z q (jK f cs) (.Call (.Name x p) (e::es) [] pos):=vx (vvk D hr g ha hg fy he cg) fun σ H Q ai=>ex8 ai λE L r m w hc xc kk=>
 vzx m w (show bnd (wj cs E) _=some r from hc) xc λE1 ys h1 hl xs L1 H1 e1 m1 w1 st sm=>by
  rw [Xv];have ae:xs.length=n:=by rw[<-hn,<-hl,<-e1,X4]
  cases hf:f (letAll ys)with
  | none=>rw[hf]at h1;cases h1
  | some fr=>
   rw[hf]at h1;obtain⟨wl,sl⟩:=kqx w1;have ev:xs.map Sl.v=(xs.map Sl.let).map Sl.v:=by rw[Y2];rfl
   rw[ev];refine⟨xs.map Sl.let,fr,rfl,by rw[X4];exact ae,wl.left,by rw[<-e1]at hf;rw[qxy];exact hf,λE' c ee C H' hm s'=>?_,λE' a ee y H' e2 e3 w' s'=>?_⟩
   ·subst ee;cases oq9 h1;obtain⟨w2,s2⟩:=stay wl s' ⟨λ_ z=>(nomatch z),Xx,λ_ z=>(nomatch z)⟩;exact xc _ _ rfl C L1 H' hm m1 w2 ((st.trans sl).trans s2)
   ·subst ee;cases oq9 h1;obtain⟨w2,s2⟩:=stay wl s' w';refine kk _ _ rfl y L1 H' e2 e3 m1 w2 ((st.trans sl).trans s2) λhq=>?_
    obtain⟨a1,a2⟩:=sm hq;refine⟨λb ob hb=>s'.keep b ob (a1 b ob hb) λz=>?_,λb hb=>?_⟩
    ·rw[jqu]at z;exact nomatch z
    ·rcases s'.own b (by rw[qk];exact ll9 _ hb)with z|z
     ·rw[jqu]at z;exact nomatch z
     ·exact zZ a1 z
end
noncomputable def wjq(K:PySem.W.Frag):R2:=λx y H Q=>∃l k xs,x=.ref l/\y=.int k/\LsR K H l xs/\-(2 ^ 63)<=k/\k<2 ^ 63/\xs.length*k.toNat<=sizeLine /\
 ∀p,H p=none->Q (.ref p) (upd H p (.lst (List.replicate k.toNat xs).flatten))
theorem op_repR{X:Cx}:OpR X (binaryOp .Mult) (wjq X.K):=by
 intro pins s σ H x y v u Q I rx ry h;obtain⟨l,k,xs,rfl,rfl,hH,h1,h2,hz,q⟩:=h;cases rx;obtain⟨t,rfl⟩:=ry;obtain⟨z,aa,n,r,e⟩:=hH.is I;have hl:=r.length;have ae:aa.toArray.size*k.toNat<=sizeLine:=by rw[X7,<-hl];exact hz
 have hcap:¬aa.toArray.size*k.toNat>(2 ^ 63 - 1) / 8:=by
  have:(sizeLine:Nat)<=(2 ^ 63 - 1) / 8:=by decide
  omega
 have d8:¬(!Builtin.List.listFitsIndex k)=true:=by
  rw[fitsIndex_both h1 h2];exact Bool.false_ne_true
 have uq:¬Builtin.List.listTooLong (aa.toArray.size*k.toNat)=true:=by
  rw[vq8 ae];exact Bool.false_ne_true
 have lq:List.foldl (λx1 x2=>x1++x2) #[] (List.replicate (if aa.toArray.isEmpty=true then 0 else k.toNat) aa.toArray)=(List.replicate k.toNat aa).flatten.toArray:=by
  have f0:∀m:Nat,List.foldl (λx1 x2=>x1++x2) #[] (List.replicate m aa.toArray)=(List.replicate m aa).flatten.toArray:=λm=>by
   have:=kkz aa m [];rw[List.nil_append]at this;exact this
  rw[f0];cases aa with
  |nil=>simp
  |cons a r'=>rw[Xd (by simp)]
 refine wpAny_binaryOp_repeat_ref (T:="list") (U:="int") (by decide) ⟨_,e,rfl⟩ (λs'=>typeIs_int s' k t) noFill_list_mul F.fills_int_mul F.slot_int_rmul repeat_list F.slot_int_index.lookup
  (call_meets F.slot_int_rmul (typeIs_int s k t) F.entry_int_rmul (F.args_int_rmul_2 _ _) (int___rmul___int_list k t l aa.toArray n)
   ⟨e,rfl,⟨_,e,rfl⟩,call_meets F.slot_list_mul ⟨_,e,rfl⟩ F.entry_list_mul (F.args_list_mul_2 _ _) (AutoListH.list___mul___list_int_3 l aa.toArray n k t d8 hcap uq) ⟨e,?_⟩⟩)
 rw[lq];exact⟨.ref _,_,I.lnew (t':=s.toks) (r.rep k.toNat) (by rw[qz0,Nat.mul_comm];exact hz),rfl,q _ I.fresh⟩
noncomputable def vwh(K:PySem.W.Frag):R2:=λx y H Q=>rI IntMulOk (λi j=>.int (i*j)) x y H Q\/wjq K x y H Q\/wjp x y H Q
theorem wkx{X:Cx}{K:PySem.W.Frag}(hK:autoParam (X.K=K) Ŕ):OpR X (binaryOp .Mult) (vwh K):=by subst hK;exact op_mulI.or (op_repR.or vxb)
theorem qky{a:Int}(h:a.natAbs.log2<2000000):Builtin.Int.intBits a<=2000000:=by
 unfold Builtin.Int.intBits
 split
 ·exact Y9 _
 ·omega
theorem mulOk_of{a b:Int}(h:Jv a b=true):IntMulOk a b:=by
 unfold Jv WJ at h;simp only[Bool.or_eq_true,Bool.and_eq_true,decide_eq_true_eq]at h;rcases h with(h|h)|h
 ·exact .of_left (intBits_le_64 h.1 h.2)
 ·exact .of_right (intBits_le_64 h.1 h.2)
 ·have h1:=qky h.1;have h2:=qky h.2;unfold IntMulOk Builtin.Int.intTooBig;have e:(2:Nat) ^ 27=134217728:=by decide
  have hb:bitsLine=134217728:=e;simp only[Bool.and_eq_true,decide_eq_true_eq,not_and];intro _ _;omega
theorem RepA.reps{K:PySem.W.Frag}{H:Hp}{ds:List D}{xs:List V}{bs:List Addr}(h:RepA K H true ds xs bs):∀k:Nat,∃cs,RepA K H true (List.replicate k ds).flatten (List.replicate k xs).flatten cs/\∀b∈cs,b∈bs
 |0=>⟨[],by simp only[List.replicate_zero,List.flatten_nil];unfold RepA;exact⟨rfl,rfl⟩,λ_ z=>(nomatch z)⟩
 |k+1=>by
  obtain⟨cs,r,hc⟩:=RepA.reps h k;rw[List.replicate_succ,List.replicate_succ,Yv,Yv];exact⟨bs++cs,r.app h,λb hb=>(List.mem_append.mp hb).elim id (hc b)⟩
theorem vw1{K:PySem.W.Frag}:Ad2 K (vwh K) zY:=by
 intro H x y s Q ox oy hf k;unfold zY at hf;dsimp only at hf
 split at hf
 ·rename_i i j e1 e2
  split at hf
  ·rename_i hm;cases oq9 hf;exact .inl ⟨i,j,vw ox e1,vw oy e2,mulOk_of hm,k ⟨.dp,.int _,.int _,[]⟩ H rfl rfl Kk⟩
  ·cases hf
 ·rename_i a n e1 e2
  split at hf
  ·rename_i hc;cases oq9 hf;obtain⟨l,xs,bs,e3,q3,r3,h3⟩:=J4 ox (.inl e1) hc.2.2.2;have q3:LsR K H l xs:=by rcases q3 with⟨_,z⟩|⟨z,_⟩;exact z;rw[e1]at z;cases z
   obtain⟨cs,r4,h4⟩:=r3.reps n.toNat;refine .inr (.inl ⟨l,n,xs,e3,vw oy e2,q3,hc.1,hc.2.1,by rw[<-r3.len];exact hc.2.2.1,λp hp=>?_⟩);exact k ⟨.rt,.lst _,.ref p,p::cs⟩ _ rfl rfl (Q4 hp r4 λb hb=>ll9 _ (h3 b (h4 b hb)))
  ·cases hf
 ·rename_i z n e1 e2
  split at hf
  ·rename_i hc;cases oq9 hf;exact .inr (.inr ⟨z,n,(z9 ox e1).1,vw oy e2,hc.1,k ⟨.dp,.str _,.str _,[]⟩ H rfl rfl (wwq hc.2)⟩)
  ·cases hf
 ·cases hf
noncomputable def dec(h:Heap)(u:Value):D:=open Classical in if e:∃d,jJ h d u then e.choose else .non
theorem kzf{h:Heap}{u:Value}{d:D}(r:jJ h d u):dec h u=d:=by
 unfold dec;have e:∃d,jJ h d u:=⟨d,r⟩;rw[dif_pos e];exact kk2 e.choose_spec r
theorem kqa{h:Heap}{d:D}:∀{ds:List D} {us:List Value},CReps h ds us->us.any (λu=>peq (dec h u) d)=ds.any λz=>peq z d
 |[],_,r=>by unfold CReps at r;rw[r];rfl
 |z::ds,_,r=>by
  unfold CReps at r;obtain⟨u,rr,rfl,h1,h2⟩:=r;rw[Z5,Z5,kzf h1,kqa h2]
theorem kjy{h:Heap}:∀{ds:List D} {us:List Value} {u:Value},CReps h ds us->u∈us->∃d∈ds,jJ h d u
 | [],_,_,r,hu=>by unfold CReps at r;rw[r]at hu;cases hu
 | z::ds,_,u,r,hu=>by
  unfold CReps at r;obtain⟨u',rr,rfl,h1,h2⟩:=r;rcases List.mem_cons.mp hu with rfl|hu
  ·exact⟨z,X3,h1⟩
  ·obtain⟨d,hd,c⟩:=kjy h2 hu;exact⟨d,lc9 _ hd,c⟩
theorem jzh:∀{n:Nat} {ds:List D} {d:D},D.flats n ds=true->d∈ds->d.flat n=true
 |_,[],_,_,h=>by cases h
 |n,z::ds,d,f,h=>by
  unfold D.flats at f;rw[Bool.and_eq_true]at f;rcases List.mem_cons.mp h with rfl|h
  ·exact f.1
  ·exact jzh f.2 h
section
variable {X:Cx}{Z:Fx0}{K:PySem.W.Frag}{q qa qb:Bool}{a b c:Ex}{u v:Ts}{e ea eb:Expr}{es:List Expr}{pos p:Pos}{σ:L2.St}{H:Hp}{L:Ls}{E:En}
noncomputable def qwt(K:PySem.W.Frag)(lf:Bool):R2:=λx y H Q=>∃d ds as bs p xs,RepL K H true d x as/\y=.ref p/\(SqL K H p xs\/SqT K H p xs)/\RepA K H true ds xs bs/\d.flat 30=true/\D.flats 30 ds=true/\Q (.bl (if lf then !(ds.any λz=>peq z d)else ds.any λz=>peq z d)) H
theorem vxe(hu:X.A.units+64<cLine):OpR X (compareOp .In) (qwt X.K false):=by
 intro pins s σ H x y v u Q I rx ry h;obtain⟨d,ds,as,bs,p,xs,h1,rfl,hq,ra,f1,f2,q⟩:=h;cases ry;have c1:=Vk I h1 f1 rx;have he:∀{us:List Value},CReps s.heap ds us->∀w,w∈us.toArray->SeqAt.EqAt X.A.in1 s w v (peq (dec s.heap w) d):=fun {us} cr w hw=>by
  obtain⟨d',hd,c⟩:=kjy cr (by simpa using hw);rw[kzf c];exact XX 30 (jzh f2 hd) c c1 (by have:=L3.in1_units X.A;omega)
 rcases hq with hq|hq
 ·obtain⟨aa,r,pl,hz⟩:=I.list hq;have cr:=creps_of I ra f2 r;refine SeqAt.in_listAt _ pl.isList (he cr) ⟨.bl _,H,I,rfl,?_⟩;rw[List.any_toArray,kqa cr];exact q
 ·obtain⟨aa,r,pl,hz⟩:=I.tuple hq;have cr:=creps_of I ra f2 r;refine SeqAt.in_tupleAt _ pl (he cr) ⟨.bl _,H,I,rfl,?_⟩;rw[List.any_toArray,kqa cr];exact q
theorem qv9(hu:X.A.units+64<cLine):OpR X (compareOp .NotIn) (qwt X.K true):=by
 intro pins s σ H x y v u Q I rx ry h;obtain⟨d,ds,as,bs,p,xs,h1,rfl,hq,ra,f1,f2,q⟩:=h;cases ry;have c1:=Vk I h1 f1 rx;have he:∀{us:List Value},CReps s.heap ds us->∀w,w∈us.toArray->SeqAt.EqAt X.A.in1 s w v (peq (dec s.heap w) d):=fun {us} cr w hw=>by
  obtain⟨d',hd,c⟩:=kjy cr (by simpa using hw);rw[kzf c];exact XX 30 (jzh f2 hd) c c1 (by have:=L3.in1_units X.A;omega)
 rcases hq with hq|hq
 ·obtain⟨aa,r,pl,hz⟩:=I.list hq;have cr:=creps_of I ra f2 r;refine SeqAt.notIn_listAt _ pl.isList (he cr) ⟨.bl _,H,I,rfl,?_⟩;rw[List.any_toArray,kqa cr];exact q
 ·obtain⟨aa,r,pl,hz⟩:=I.tuple hq;have cr:=creps_of I ra f2 r;refine SeqAt.notIn_tupleAt _ pl (he cr) ⟨.bl _,H,I,rfl,?_⟩;rw[List.any_toArray,kqa cr];exact q
noncomputable def qws(lf:Bool):R2:=λx y H Q=>∃i j,x=.str i/\y=.str j/\Q (.bl (if lf then !wxc i j else wxc i j)) H
theorem opInStr:OpR X (compareOp .In) (qws false):=λpins s σ H x y v u Q I rx ry ⟨i,j,e1,e2,q⟩=>qxd pins s σ H x y v u Q I rx ry ⟨i,j,e1,e2,q⟩
theorem opNotInStr:OpR X (compareOp .NotIn) (qws true):=λpins s σ H x y v u Q I rx ry ⟨i,j,e1,e2,q⟩=>kxp pins s σ H x y v u Q I rx ry ⟨i,j,e1,e2,q⟩
noncomputable def wjt(K:PySem.W.Frag)(lf:Bool):R2:=λx y H Q=>qws lf x y H Q\/qwt K lf x y H Q
theorem vq4(hu:X.A.units+64<cLine)(hK:autoParam (X.K=K) Ŕ):OpR X (compareOp .In) (wjt K false):=by subst hK;exact opInStr.or (vxe hu)
theorem W8(hu:X.A.units+64<cLine)(hK:autoParam (X.K=K) Ŕ):OpR X (compareOp .NotIn) (wjt K true):=by subst hK;exact opNotInStr.or (qv9 hu)
theorem KJ{H:Hp}{l:Addr}{xs:List V}(h:LsR K H l xs):SqL K H l xs:=h.sq
theorem kwk{x y:Sl}{ys:List D}{lf:Bool}{Q:VK}(ox:x.ok K H)(oy:y.ok K H)(hy:y.d=.lst ys\/y.d=.tup ys)(hc:(x.d.flat 30&&D.flats 30 ys)=true)
  (k:Q (.bl (if lf then !(ys.any λz=>peq z x.d)else ys.any λz=>peq z x.d)) H):wjt K lf x.v y.v H Q:=by
 rw[Bool.and_eq_true]at hc;obtain⟨l,xs,bs,e3,q3,r3,_⟩:=items oy hy;have r3':RepA K H true ys xs bs:=by
  cases ho:(y.o != .dp)with
  |true=>rw[ho]at r3;exact r3
  |false=>rw[ho]at r3;exact r3.wk
 refine .inr ⟨x.d,ys,x.as,bs,l,xs,RepO.wk ox,e3,?_,r3',hc.1,hc.2,k⟩;rcases q3 with⟨_,z⟩|⟨_,z⟩
 ·exact .inl (KJ z)
 ·exact .inr z
theorem vv5:Ad2 K (wjt K false) (pu2 JZ):=by
 intro H x y s Q ox oy hf k;unfold pu2 JZ fIn at hf;dsimp only at hf;cases hy:y.d with
 | lst ys=>
  rw[hy]at hf;dsimp only at hf
  split at hf
  ·rename_i hc;cases oq9 hf;exact kwk ox oy (.inl hy) hc (k ⟨.dp,.bl _,.bl _,[]⟩ H rfl rfl xY)
  ·cases hf
 | tup ys=>
  rw[hy]at hf;dsimp only at hf
  split at hf
  ·rename_i hc;cases oq9 hf;exact kwk ox oy (.inr hy) hc (k ⟨.dp,.bl _,.bl _,[]⟩ H rfl rfl xY)
  ·cases hf
 | str b=>
  rw[hy]at hf;dsimp only at hf
  split at hf
  ·rename_i a hx;cases oq9 hf;exact .inl ⟨a,b,(z9 ox hx).1,(z9 oy hy).1,k ⟨.dp,.bl _,.bl _,[]⟩ H rfl rfl xY⟩
  ·cases hf
 |_=>rw[hy]at hf;cases hf
theorem VJ:Ad2 K (wjt K true) (pu2 wW):=by
 intro H x y s Q ox oy hf k;unfold pu2 wW Wx fIn at hf;dsimp only at hf;cases hy:y.d with
 | lst ys=>
  rw[hy]at hf;dsimp only at hf
  split at hf
  ·rename_i hc;cases oq9 hf;exact kwk ox oy (.inl hy) hc (k ⟨.dp,.bl _,.bl _,[]⟩ H rfl rfl xY)
  ·cases hf
 | tup ys=>
  rw[hy]at hf;dsimp only at hf
  split at hf
  ·rename_i hc;cases oq9 hf;exact kwk ox oy (.inr hy) hc (k ⟨.dp,.bl _,.bl _,[]⟩ H rfl rfl xY)
  ·cases hf
 | str b=>
  rw[hy]at hf;dsimp only at hf
  split at hf
  ·rename_i a hx;cases oq9 hf;exact .inl ⟨a,b,(z9 ox hx).1,(z9 oy hy).1,k ⟨.dp,.bl _,.bl _,[]⟩ H rfl rfl xY⟩
  ·cases hf
 |_=>rw[hy]at hf;cases hf
theorem kjt{g:Bool}{d:D}{v:V}{as:List Addr}(h:RepL K H g d v as):decide (v=.non)=isNon d:=by
 cases d with
 |non=>unfold RepL at h;rw[h.1];rfl
 |bl _=>unfold RepL at h;rw[h.1];rfl
 |int _=>unfold RepL at h;rw[h.1];rfl
 |str _=>unfold RepL at h;rw[h.1];rfl
 |tup _=>unfold RepL at h;obtain⟨a,xs,e,_⟩:=h;rw[e];rfl
 |lst _=>unfold RepL at h;obtain⟨a,xs,bs,e,_⟩:=h;rw[e];rfl
 |dct _=>unfold RepL at h;obtain⟨a,xs,bs,e,_⟩:=h;rw[e];rfl
 |obj _ _=>unfold RepL at h;obtain⟨_,x,o,C,e,_⟩:=h;rw[e];rfl
theorem JX:Ad2 K (λx y H Q=>y=.non/\Q (.bl (decide (x=.non))) H) (f2First fIsNon):=by
 intro H x y s Q ox oy hf k;unfold f2First fIsNon at hf;dsimp only at hf
 split at hf
 ·rename_i hy;cases oq9 hf;have e:=kjt (RepO.wk oy);rw[hy]at e;refine⟨Z3 e,?_⟩;rw[kjt (RepO.wk ox)];exact k ⟨.dp,.bl _,.bl _,[]⟩ H rfl rfl xY
 ·cases hf
theorem Vq:Ad2 K (λx y H Q=>y=.non/\Q (.bl (!decide (x=.non))) H) (f2First fNotNon):=by
 intro H x y s Q ox oy hf k;unfold f2First fNotNon at hf;dsimp only at hf
 split at hf
 ·rename_i hy;cases oq9 hf;have e:=kjt (RepO.wk oy);rw[hy]at e;refine⟨Z3 e,?_⟩;rw[kjt (RepO.wk ox)];exact k ⟨.dp,.bl _,.bl _,[]⟩ H rfl rfl xY
 ·cases hf
theorem ZW:Ad1 K (rU λi=>.int (-i)) (pu1 KZ):=by
 intro H x s Q ox hf k;unfold pu1 KZ at hf;dsimp only at hf
 split at hf
 ·rename_i i e;cases oq9 hf;exact⟨i,vw ox e,k ⟨.dp,.int _,.int _,[]⟩ H rfl rfl Kk⟩
 ·cases hf
theorem vvr(n:Nat)(i:Int):_root_.Q.ixN n i=L2.ixN n i:=rfl
theorem vxt{x y:Sl}{d:D}{Q:VK}(ox:x.ok K H)(oy:y.ok K H)(hf:jV x.d y.d=some d)(k:∀z:Sl,z.o=sub x.o->z.d=d->z.ok K H->(∀b∈z.frz,b∈x.frz)->(∀b∈z.as,b∈x.as)->Q z.v H):rIx K x.v y.v H Q:=by
 have seq:∀ds:List D,(x.d=.lst ds\/x.d=.tup ds)->∀i:Int,y.d=.int i->((_root_.Q.ixN ds.length i).bind λj=>ds[j]?)=some d->rIx K x.v y.v H Q:=by
  intro ds hx i hy hd;obtain⟨l,xs,bs,e3,q3,r3,h3,h4⟩:=items ox hx;cases hj:_root_.Q.ixN ds.length i with
  | none=>rw[hj]at hd;cases hd
  | some j=>
   rw [hj]at hd;obtain⟨v,cs,e4,r4,h5⟩:=r3.get (show ds[j]?=some d from hd);have iq:atI xs i=some v:=by
    unfold atI;rw[<-r3.len,<-vvr,hj];exact e4
   have fin:Q v H:=by
    cases ho:x.o with
    | dp=>
     rw[ho]at r4;exact k ⟨.dp,d,v,cs⟩ (by rw[ho];rfl) rfl r4 (λb hb=>(nomatch hb)) λb hb=>h3 b (h5 b hb)
    | no=>
     rw[ho]at r4;exact k ⟨.no,d,v,cs⟩ (by rw[ho];rfl) rfl r4 (λb hb=>h4 (by rw[ho];exact(λz=>nomatch z)) b (h5 b hb)) λb hb=>h3 b (h5 b hb)
    | rt=>
     rw[ho]at r4;exact k ⟨.no,d,v,cs⟩ (by rw[ho];rfl) rfl r4 (λb hb=>h4 (by rw[ho];exact(λz=>nomatch z)) b (h5 b hb)) λb hb=>h3 b (h5 b hb)
   rcases q3 with⟨_,z⟩|⟨_,z⟩
   ·exact .inl ⟨l,xs,i,v,e3,vw oy hy,KJ z,iq,fin⟩
   ·exact .inr (.inl ⟨l,xs,i,v,e3,vw oy hy,z,iq,fin⟩)
 unfold jV at hf;cases hx:x.d with
 | lst ds=>
  rw [hx]at hf;cases hy:y.d with
  | int i=>rw[hy]at hf;exact seq ds (.inl hx) i hy hf
  | _=>rw[hy]at hf;cases hf
 | tup ds=>
  rw [hx]at hf;cases hy:y.d with
  | int i=>rw[hy]at hf;exact seq ds (.inr hx) i hy hf
  | _=>rw[hy]at hf;cases hf
 | str z=>
  rw [hx]at hf;cases hy:y.d with
  | int i=>
   rw [hy]at hf;have hf:((_root_.Q.ixN z.cps.size i).bind λj=>(z.cps.toList[j]?).map λc=>D.str ⟨#[c]⟩)=some d:=hf;cases hj:_root_.Q.ixN z.cps.size i with
   | none=>rw[hj]at hf;cases hf
   | some j=>
    rw[hj]at hf;cases hc:z.cps.toList[j]? with
    | none=>rw[Option.bind_some,hc]at hf;cases hf
    | some c=>
     rw[Option.bind_some,hc]at hf;cases oq9 hf;have iq:atI z.cps.toList i=some c:=by
      unfold atI;rw[Yb,<-vvr,hj];exact hc
     obtain⟨e1,hz⟩:=z9 ox hx;refine .inr (.inr ⟨z,i,c,e1,vw oy hy,hz,iq,?_⟩);have rp:∀g,RepL K H g (.str ⟨#[c]⟩) (.str ⟨#[c]⟩) []:=λg=>kkh (show(1:Nat)<=sizeLine by decide)
     cases ho:x.o with
     |dp=>exact k ⟨.dp,.str ⟨#[c]⟩,.str ⟨#[c]⟩,[]⟩ (by rw[ho];rfl) rfl (rp false) (λb hb=>(nomatch hb)) λb hb=>(nomatch hb)
     |no=>exact k ⟨.no,.str ⟨#[c]⟩,.str ⟨#[c]⟩,[]⟩ (by rw[ho];rfl) rfl (rp true) (λb hb=>(nomatch hb)) λb hb=>(nomatch hb)
     |rt=>exact k ⟨.no,.str ⟨#[c]⟩,.str ⟨#[c]⟩,[]⟩ (by rw[ho];rfl) rfl (rp true) (λb hb=>(nomatch hb)) λb hb=>(nomatch hb)
  |_=>rw[hy]at hf;cases hf
 |non=>rw[hx]at hf;cases hf
 |bl _=>rw[hx]at hf;cases hf
 |int _=>rw[hx]at hf;cases hf
 |dct _=>rw[hx]at hf;cases hf
 |obj _ _=>rw[hx]at hf;cases hf
theorem q_ix(ha:QV X Z qa a ea)(hb:QV X Z true b eb)(hs:qk6 eb)(hK:autoParam (X.K=Z.K) Ŕ):QV X Z qa (j6 a b) (.Subscript ea eb pos):=
 vx (wwn (hK▸wqm) ha hb hs) fun σ H Q ai=>ex8 ai λE L r m w hc xc k=>by
  refine x9 m w (show bnd (a E) _=some r from hc) xc λE1 s h1 x L1 H1 e1 e2 m1 w1 ok fr sr st sm=>?_
  refine x9 m1 w1 h1 (xc.step st) λE2 s2 h2 y L2 H2 e3 e4 m2 w2 jm sv sy b7 fj=>?_
  obtain⟨z,hz,rfl⟩:=K6 h2;cases hf:jV s.2 s2.2 with
  |none=>rw[hf]at hz;cases hz
  |some d=>
   rw[hf]at hz;cases oq9 hz;have kx:=ZX ok fr b7 (fj rfl);refine vxt kx.1 jm (by rw[e2,e4];exact hf) λz zo zd ua zf za=>?_
   exact k _ _ rfl z L2 H2 (by rw[zo,e1]) zd m2 w2 ua (λb hb=>kx.2 b (zf b hb)) (jz6 sr za) (st.trans b7) λhq=>v8 (sm hq) (fj rfl)
theorem Zw(ht:QT X Z q u e)(ha:QE X Z q a ea)(hb:QE X Z q b eb):QE X Z q (cIf u a b) (.IfExp e ea eb pos):=vx (vq2 ht ha hb) fun σ H Q ai=>ex8 ai λE L r m w hc xc k=>
 vkb m w (show bnd (u E) _=some r from hc) xc λE1 s h1 L1 H1 m1 w1 st sm=>by
  have fin:∀{c:Ex},c E1=some r->tQ Z q c σ H1 Q:=λhc=>⟨E1,L1,r,m1,w1,hc,xc.step st,λE' a z x L' H' e1 e2 m' w' cz gq=>k E' a z x L' H' e1 e2 m' w' (st.trans cz) λhq=>⟨v8 (sm hq) (gq hq).1,λb hb=>zZ (sm hq) ((gq hq).2 b hb)⟩⟩
  cases s with
  |true=>rw[X9 rfl]at h1 ⊢;exact fin h1
  |false=>rw[Xd (by decide)]at h1 ⊢;exact fin h1
theorem kxi{op}(h:QE X Z q a ea):QE X Z q a (.BoolOp op [ea] pos):=wkk h
theorem qwx(ha:QV X Z q a ea)(hb:QE X Z q b (.BoolOp .And (eb::es) pos)):QE X Z q (Kw a b) (.BoolOp .And (ea::eb::es) pos):=vx (wkr ha hb) fun σ H Q ai=>ex8 ai λE L r m w hc xc k=>
 x9 m w (show bnd (a E) _=some r from hc) xc λE1 s h1 x L1 H1 e1 e2 m1 w1 ok fr sr st sm=>by
  cases hs:s.2 with
  | bl kk=>
   rw[hs]at h1;refine⟨kk,Wj ok (e2.trans hs),?_⟩;cases kk with
   |true=>
    rw[X9 rfl];exact⟨E1,L1,r,m1,w1,h1,xc.step st,λE' a z x L' H' e1 e2 m' w' cz gq=>k E' a z x L' H' e1 e2 m' w' (st.trans cz) λhq=>⟨v8 (sm hq) (gq hq).1,λb hb=>zZ (sm hq) ((gq hq).2 b hb)⟩⟩
   |false=>
    rw[Xd (by decide)];cases oq9 h1;obtain⟨w3,cw⟩:=Vj w1 st (xY (K:=Z.K) (H:=H1) (i:=false) (fr:=[])) (λ_ z=>(nomatch z)) (λ_ z=>(nomatch z)) (λ_ z=>(nomatch z));exact k _ _ rfl ⟨.dp,.bl false,.bl false,[]⟩ L1 H1 rfl rfl m1 w3 cw λhq=>⟨sm hq,λ_ z=>(nomatch z)⟩
  |_=>rw[hs]at h1;cases h1
theorem q_or(ha:QV X Z q a ea)(hb:QE X Z q b (.BoolOp .Or (eb::es) pos)):QE X Z q (cOr a b) (.BoolOp .Or (ea::eb::es) pos):=vx (wwl ha hb) fun σ H Q ai=>ex8 ai λE L r m w hc xc k=>
 x9 m w (show bnd (a E) _=some r from hc) xc λE1 s h1 x L1 H1 e1 e2 m1 w1 ok fr sr st sm=>by
  cases hs:s.2 with
  | bl kk=>
   rw[hs]at h1;refine⟨kk,Wj ok (e2.trans hs),?_⟩;cases kk with
   |false=>
    rw[Xd (by decide)];exact⟨E1,L1,r,m1,w1,h1,xc.step st,λE' a z x L' H' e1 e2 m' w' cz gq=>k E' a z x L' H' e1 e2 m' w' (st.trans cz) λhq=>⟨v8 (sm hq) (gq hq).1,λb hb=>zZ (sm hq) ((gq hq).2 b hb)⟩⟩
   |true=>
    rw[X9 rfl];cases oq9 h1;obtain⟨w3,cw⟩:=Vj w1 st (xY (K:=Z.K) (H:=H1) (i:=true) (fr:=[])) (λ_ z=>(nomatch z)) (λ_ z=>(nomatch z)) (λ_ z=>(nomatch z));exact k _ _ rfl ⟨.dp,.bl true,.bl true,[]⟩ L1 H1 rfl rfl m1 w3 cw λhq=>⟨sm hq,λ_ z=>(nomatch z)⟩
  |_=>rw[hs]at h1;cases h1
theorem truV{x:Sl}{k:Bool}(ok:x.ok K H)(h:truth x.d=some k)(hd:∀kvs,x.d≠.dct kvs):wxm K x.v H k:=by
 cases hx:x.d with
 |non=>rw[hx]at h;rw[vvl ok hx];exact(oq9 h).symm
 |bl b=>rw[hx]at h;rw[Wj ok hx];exact(oq9 h).symm
 |int i=>rw[hx]at h;rw[vw ok hx];exact(oq9 h).symm
 |str z=>
  rw[hx]at h;obtain⟨e,hz⟩:=z9 ok hx;rw[e];refine⟨hz,?_⟩;rw[<-oq9 h];show(z.cps.size != 0)=(((z.cps.size:Nat):Int) != 0);rw[Bool.eq_iff_iff];simp
 |lst ds=>
  rw[hx]at h;obtain⟨a,xs,bs,e,q,r,_⟩:=items ok (.inl hx);rw[e];have q':LsR K H a xs:=by rcases q with⟨_,z⟩|⟨z,_⟩;exact z;rw[hx]at z;cases z
  refine .inl ⟨xs,KJ q',?_⟩;rw[<-oq9 h];have:=r.len;cases ds<;>cases xs<;>simp_all
 |tup ds=>
  rw[hx]at h;obtain⟨a,xs,bs,e,q,r,_⟩:=items ok (.inr hx);rw[e];have q':SqT K H a xs:=by rcases q with⟨z,_⟩|⟨_,z⟩;rw[hx]at z;cases z;exact z
  refine .inr (.inl ⟨xs,q',?_⟩);rw[<-oq9 h];have:=r.len;cases ds<;>cases xs<;>simp_all
 |dct kvs=>exact absurd hx (hd kvs)
 |obj c f=>rw[hx]at h;cases h
theorem qwa{d:D}{k:Bool}(h:truthQ d=some k):truth d=some k/\∀kvs,d≠.dct kvs:=by
 cases d<;>first|exact⟨h,λ_ z=>nomatch z⟩|cases h
theorem J8(h:QV X Z q a ea)(he:autoParam (∀fg,isTrue ea X.env fg=(do let v <-fg;standAt ea.pos;holding [v] (truthy v))) Ŗ)(hK:autoParam (X.K=Z.K) Ŕ):QT X Z q (tEQ a) ea:=qwz (vks h he) fun σ H Q ai=>ex8 ai λE L r m w hc xc k=>
 x9 m w (show bnd (a E) _=some r from hc) xc λE1 s h1 x L1 H1 e1 e2 m1 w1 ok fr sr st sm=>by
  obtain⟨kk,hk,rfl⟩:=K6 h1;obtain⟨h2,h3⟩:=qwa hk;exact⟨kk,hK▸truV ok (by rw[e2];exact h2) (by rw[e2];exact h3),k _ _ rfl L1 H1 m1 w1 st sm⟩
end
theorem kk3{α:Type}:∀{L:List α} {i:Nat} {q:α},L[i]?=some q->∃A B,L=A++q::B/\∀q',L.set i q'=A++q'::B
 |[],_,_,h=>by simp at h
 |a::L,0,q,h=>by
  have e:a=q:=by simpa using h
  subst e;exact⟨[],L,rfl,λ_=>rfl⟩
 |a::L,i+1,q,h=>by
  obtain⟨A,B,e,f⟩:=kk3 (L:=L) (i:=i) (by simpa using h);exact⟨a::A,B,by rw[e];rfl,λq'=>by rw[List.set_cons_succ,f];rfl⟩
section
variable {K:PySem.W.Frag}{H:Hp}{M T L:Ls}{y y':Sl}{l:Addr}{ob:HO}
theorem World.write(w:World K H (some y::(T++M)))(hl:l∈y.own)(ok':y'.ok K (upd H l ob))(nd:y'.own.Nodup)(h1:∀a∈y'.own,a∈y.own\/a∈jq T)(h2:∀a∈y'.frz,a∈y.as\/a∈jq T\/a∈kj T)(h3:∀a∈y'.own,a∉y'.frz):
  World K (upd H l ob) (some y'::M)/\Step H (some y::(T++M)) (upd H l ob) (some y'::M):=by
 have wn:=w.nd;rw [qk,kq,Xf,Xf]at wn;obtain⟨n1,⟨n2,n3,n4⟩,n5⟩:=wn;have oy:l∈jq (some y::(T++M)):=by rw[qk];exact ll9 _ hl
 have on:=w.own_al oy;have ds:∀a,(a∈y.own\/a∈jq T\/a∈jq M)->¬(a∈y.frz\/a∈kj T\/a∈kj M):=λa ha hf=>by
  refine w.ds a ?_ ?_
  ·rw[qk,kq];rcases ha with z|z|z
   ·exact ll9 _ z
   ·exact lr9 _ (ll9 _ z)
   ·exact lr9 _ (lr9 _ z)
  ·rw[wJ,qY];rcases hf with z|z|z
   ·exact ll9 _ z
   ·exact lr9 _ (ll9 _ z)
   ·exact lr9 _ (lr9 _ z)
 have noM:∀z,some z∈M->l∉z.as:=λz hz ha=>by
  rcases Sl.as_of ha with q|q
  ·exact n5 l hl l (lr9 _ (mem_owned.mpr ⟨z,hz,q⟩)) rfl
  ·exact ds l (.inl hl) (.inr (.inr (mem_frozen.mpr ⟨z,hz,q⟩)))
 have ke:∀a o,H a=some o->a≠l->upd H l ob a=some o:=λa o e ne=>by rw[v4 ne];exact e
 have kp:∀as:List Addr,l∉as->Kp H (upd H l ob) as:=λas hn=>by
  refine⟨λa xs e=>ke a _ e λz=>?_,λa o u e=>ke a _ e λz=>?_,λa ha o e=>ke a o e λz=>hn (z▸ha)⟩
  ·subst z;rcases on with⟨_,q⟩|⟨_,q⟩|⟨_,q⟩<;>(rw[e]at q;cases q)
  ·subst z;rcases on with⟨_,q⟩|⟨_,q⟩|⟨_,q⟩<;>(rw[e]at q;cases q)
 have wM:World K (upd H l ob) M:=by
  have w1:World K H M:=w.tail.right;exact⟨λz hz=>RepO.kp (w1.ok z hz) (kp _ (noM z hz)),w1.nd,w1.ds⟩
 refine⟨wM.cons ok' nd (λa ha hM=>?_) (λa ha hM=>?_) (λa ha hM=>?_) h3,λa o e hn=>ke a o e λz=>hn (z▸oy),λa ha=>?_,λa ha=>?_⟩
 ·rcases h1 a ha with z|z
  ·exact n5 a z a (lr9 _ hM) rfl
  ·exact n4 a z a hM rfl
 ·rcases h1 a ha with z|z
  ·exact ds a (.inl z) (.inr (.inr hM))
  ·exact ds a (.inr (.inl z)) (.inr (.inr hM))
 ·rcases h2 a ha with z|z|z
  ·rcases Sl.as_of z with z|z
   ·exact n5 a z a (lr9 _ hM) rfl
   ·exact ds a (.inr (.inr hM)) (.inl z)
  ·exact n4 a z a hM rfl
  ·exact ds a (.inr (.inr hM)) (.inr (.inl z))
 ·rw[qk]at ha;rw[qk,kq];rcases List.mem_append.mp ha with z|z
  ·rcases h1 a z with z|z
   ·exact .inl (ll9 _ z)
   ·exact .inl (lr9 _ (ll9 _ z))
  ·exact .inl (lr9 _ (lr9 _ z))
 ·rw[wJ]at ha;rw[qk,kq,wJ,qY];rcases List.mem_append.mp ha with z|z
  ·rcases h2 a z with z|z|z
   ·rcases Sl.as_of z with z|z
    ·exact .inr (.inl (ll9 _ z))
    ·exact .inl (ll9 _ z)
   ·exact .inr (.inl (lr9 _ (ll9 _ z)))
   ·exact .inl (lr9 _ (ll9 _ z))
  ·exact .inl (lr9 _ (lr9 _ z))
theorem World.writeAt{i:Nat}(w:World K H (T++L))(hy:L[i]?=some (some y))(hl:l∈y.own)(ok':y'.ok K (upd H l ob))(nd:y'.own.Nodup)(h1:∀a∈y'.own,a∈y.own\/a∈jq T)(h2:∀a∈y'.frz,a∈y.as\/a∈jq T\/a∈kj T)(h3:∀a∈y'.own,a∉y'.frz):
  World K (upd H l ob) (L.set i (some y'))/\Step H (T++L) (upd H l ob) (L.set i (some y')):=by
 obtain⟨A,B,e,f⟩:=kk3 hy;rw[f];subst e;have p:(T++(A++some y::B)).Perm (some y::(T++(A++B))):=by
  refine(List.Perm.append_left T (List.perm_middle (a:=some y) (l₁:=A) (l₂:=B))).trans List.perm_middle
 obtain⟨w2,s2⟩:=World.write (M:=A++B) (w.perm p) hl ok' nd h1 h2 h3;exact⟨w2.perm List.perm_middle.symm,s2.perm p.symm List.perm_middle.symm⟩
end
theorem RepA.snoc{K:PySem.W.Frag}{H:Hp}{g:Bool}{d:D}{x:V}{cs:List Addr}(h:RepL K H g d x cs){ds:List D}{xs:List V}{bs:List Addr}(r:RepA K H g ds xs bs):RepA K H g (ds++[d]) (xs++[x]) (bs++cs):=by
 refine RepA.app ?_ r;unfold RepA;exact⟨x,[],cs,[],rfl,by simp,h,by unfold RepA;exact⟨rfl,rfl⟩⟩
theorem vxa{K:PySem.W.Frag}{H:Hp}{y:Sl}{ds:List D}(ok:y.ok K H)(hd:y.d=.lst ds)(ho:y.o≠.no):∃l xs bs,y.v=.ref l/\H l=some (.lst xs)/\y.as=l::bs/\l∈y.own/\RepA K H (y.o != .dp) ds xs bs:=by
 obtain⟨o,d,v,as⟩:=y;dsimp only at hd ho;subst hd;cases o with
 |no=>exact absurd rfl ho
 |rt=>
  obtain⟨a,xs,bs,rfl,r,q,rfl⟩:=(show RepR K H (.lst ds) v as from ok);exact⟨a,xs,bs,rfl,q,rfl,by simp[Sl.own],r⟩
 |dp=>
  have ok:RepL K H false (.lst ds) v as:=ok;unfold RepL at ok;obtain⟨a,xs,bs,rfl,r,q⟩:=ok;rcases q with⟨q,rfl⟩|⟨z,_⟩
  ·exact⟨a,xs,bs,rfl,q,rfl,by simp[Sl.own],r⟩
  ·cases z
theorem qjd{K:PySem.W.Frag}{H:Hp}{T L:Ls}{i:Nat}{y:Sl}{l:Addr}{xs xs':List V}{bs cs:List Addr}{o':Own}{ds':List D}(w:World K H (T++L))(hy:L[i]?=some (some y))(hH:H l=some (.lst xs))(ha:y.as=l::bs)(hl:l∈y.own)(hv:y.v=.ref l)
  (r:RepA K H (o' != .dp) ds' xs' cs) (hc:(o'=.rt/\∀a∈cs,a∈bs\/a∈jq T\/a∈kj T)\/(o'=.dp/\y.o=.dp/\cs.Nodup/\∀a∈cs,a∈bs\/a∈jq T)):
  World K (upd H l (.lst xs')) (L.set i (some ⟨o',.lst ds',y.v,l::cs⟩))/\Step H (T++L) (upd H l (.lst xs')) (L.set i (some ⟨o',.lst ds',y.v,l::cs⟩)):=by
 have oL:l∈jq L:=mem_owned.mpr ⟨y,xq hy,hl⟩;have oy:l∈jq (T++L):=by rw[kq];exact lr9 _ oL
 have nd:=w.nd;rw [kq,Xf]at nd;have nT:l∉jq T:=λz=>nd.2.2 l z l oL rfl
 have nF:l∉kj T:=λz=>w.ds l oy (by rw[qY];exact ll9 _ z)
 have yn:y.own.Nodup:=by
  obtain⟨A,B,e,_⟩:=kk3 hy;have:=nd.2.1;rw[e,kq,qk,Xf]at this;exact(List.nodup_append.mp this.2.1).1
 have nb:l∉bs:=λz=>by
  cases ho:y.o with
  | no=>unfold Sl.own at hl;rw[ho]at hl;exact nomatch hl
  | rt=>
   have:l∈y.frz:=by unfold Sl.frz;rw[ho,ha];exact z
   exact w.ds l oy (by rw[qY];exact lr9 _ (mem_frozen.mpr ⟨y,xq hy,this⟩))
  | dp=>
   unfold Sl.own at yn;rw[ho,ha]at yn;exact(List.nodup_cons.mp yn).1 z
 have nc:l∉cs:=λz=>by
  rcases hc with⟨_,hc⟩|⟨_,_,_,hc⟩
  ·rcases hc l z with q|q|q
   ·exact nb q
   ·exact nT q
   ·exact nF q
  ·rcases hc l z with q|q
   ·exact nb q
   ·exact nT q
 have kp:Kp H (upd H l (.lst xs')) cs:=by
  have k2:∀a o,H a=some o->a≠l->upd H l (.lst xs') a=some o:=λa o e ne=>by rw[v4 ne];exact e
  refine⟨λa zs e=>k2 a _ e λz=>?_,λa o u e=>k2 a _ e λz=>?_,λa ha o e=>k2 a o e λz=>nc (z▸ha)⟩
  ·subst z;rw[hH]at e;cases e
  ·subst z;rw[hH]at e;cases e
 have r':=r.kp kp;rcases hc with⟨rfl,hc⟩|⟨rfl,hdp,ma,hc⟩
 ·refine World.writeAt w hy hl (y':=⟨.rt,.lst ds',y.v,l::cs⟩) ⟨l,xs',cs,hv,r',xJ,rfl⟩ (by simp[Sl.own]) (λa h=>?_) (λa h=>?_) (λa h z=>?_)
  ·have:a=l:=by simpa [Sl.own]using h
   subst this;exact .inl hl
  ·rcases hc a (by simpa [Sl.frz]using h)with q|q
   ·exact .inl (by rw[ha];exact lc9 _ q)
   ·exact .inr q
  ·have:a=l:=by simpa [Sl.own]using h
   subst this;exact nc (by simpa [Sl.frz]using z)
 ·have oa:y.own=y.as:=by unfold Sl.own;rw[hdp]
  refine World.writeAt w hy hl (y':=⟨.dp,.lst ds',y.v,l::cs⟩) ?_ (List.nodup_cons.mpr ⟨nc,ma⟩) (λa h=>?_) (λa h=>(nomatch h)) (λa h z=>(nomatch z))
  ·show RepL K _ false (.lst ds') y.v (l::cs);unfold RepL;exact⟨l,xs',cs,hv,r',.inl ⟨xJ,rfl⟩⟩
  ·rcases List.mem_cons.mp (show a∈l::cs from h)with q|q
   ·subst q;exact .inl hl
   ·rcases hc a q with q|q
    ·exact .inl (by rw[oa,ha];exact lc9 _ q)
    ·exact .inr q
section
variable {X:Cx}{Z:Fx0}{pn:List Nat}{q:Bool}{c:Ex}{e:Expr}{σ:L2.St}{H:Hp}{L:Ls}{E:En}
theorem wq8{K:PySem.W.Frag}{x:Sl}{ds:List D}(ok:x.ok K H)(hd:x.d=.lst ds):tyV K "list" x.v H:=by
 obtain⟨a,xs,bs,e1,q1,_⟩:=items ok (.inl hd);rw[e1];rcases q1 with⟨_,z⟩|⟨z,_⟩
 ·exact .inl ⟨rfl,xs,z.sq⟩
 ·rw[hd]at z;cases z
theorem wx6{K:PySem.W.Frag}{x:Sl}(ok:x.ok K H)(b:Bool)(hb:b=false->xX x.sd=true):∃cs,RepL K H b x.d x.v cs/\(∀a∈cs,a∈x.as)/\(b=false->∀a∈cs,a∈x.own)/\(b=false->x.own.Nodup->cs.Nodup):=by
 cases b with
 | true=>exact⟨x.as,RepO.wk ok,λ_ h=>h,(λz=>by cases z),(λz=>by cases z)⟩
 | false=>
  have t:=hb rfl;unfold xX at t
  by_cases ho:x.o=.dp
  ·have e:x.own=x.as:=by unfold Sl.own;rw[ho]
   refine⟨x.as,?_,λ_ h=>h,λ_ a h=>by rw[e];exact h,λ_ n=>by rw[e]at n;exact n⟩;have:=ok;unfold Sl.ok at this;rw[ho]at this;exact this
  ·have hp:x.d.pure=true:=by
    rcases Bool.or_eq_true_iff.mp t with z|z
    ·exact absurd (by simpa using z) ho
    ·exact z
   obtain⟨z,rp⟩:=RepL.pu (g':=false) (RepO.wk ok) hp;exact⟨[],rp,λ_ h=>(nomatch h),λ_ _ h=>(nomatch h),λ_ _=>Xx⟩
theorem XW{α:Type}{l:List α}{i:Nat}{x:α}(h:l[i]?=some x):l.set i x=l:=by
 obtain⟨h1,h2⟩:=List.getElem?_eq_some_iff.mp h;rw[<-h2];simp
theorem mut1 {D':Ends} {f:List D->D->Option (List D)} {i:Nat} {r:Fl} {G:V->V->Hp->Prop} (m:Mt E σ L) (w:World Z.K H L) (hc:qK f i c E=some r) (k:FlP Z pn D' σ H L r)
  (g:∀ (l:Addr) (x:V) (xs:List V) (ds ds':List D) (d:D) (bs cs:List Addr) (H1:Hp) (gg:Bool),f ds d=some ds'->H1 l=some (.lst xs)->RepA Z.K H1 gg ds xs bs->RepL Z.K H1 gg d x cs ->
   (∀ xs' es,RepA Z.K H1 gg ds' xs' es->(∀a∈es,a∈bs\/a∈cs)->((bs++cs).Nodup->es.Nodup)->D'.nx σ (upd H1 l (.lst xs')))->G (.ref l) x H1):
  ∃ v,σ[i]?=some (some v)/\tyV Z.K "list" v H/\tQ Z q c σ H (G v):=by
 unfold qK at hc;cases h0:E[i]? with
 | none=>rw[h0]at hc;cases hc
 | some s0 =>
  cases s0 with
  | none=>rw[h0]at hc;cases hc
  | some s0=>
   obtain ⟨o0,d0⟩:=s0;cases d0 with
   | lst ds0=>
    rw [h0,X9 (show vqj (some (some (o0,D.lst ds0)))=true from rfl)]at hc;obtain ⟨x0,a1,a2,a3,a4⟩:=m.get h0;refine ⟨x0.v,a4,wq8 (w.ok x0 (xq a1)) a3,?_⟩;refine YZ m w hc k λE1 s h1 x L1 H1 e1 e2 m1 w1 st _=>?_
    cases hE:E1[i]? with
    | none=>rw[hE]at h1;cases h1
    | some s1=>
     cases s1 with
     | none=>rw[hE]at h1;cases h1
     | some s1=>
      obtain⟨oo,dd⟩:=s1;rw [hE]at h1;cases dd with
      | lst ds=>
       dsimp only at h1
       by_cases li:oo=.no
       ·rw [X9 li]at h1;cases h1
       ·rw [Xd li]at h1;cases hfd:f ds s.2 with
        | none=>rw[hfd]at h1;cases h1
        | some ds'=>
         rw[hfd]at h1;obtain⟨y,b1,b2,b3,b4⟩:=m1.get hE;have hv:y.v=x0.v:=by rw[a4]at b4;exact(oq9 (oq9 b4)).symm
         obtain⟨l,xs,bs,c1,c2,c3,c4,c5⟩:=vxa (w1.ok y (lc9 _ (xq b1))) b3 (by rw[b2];exact li);have ex0:x0.v=.ref l:=hv▸c1;rw[ex0];have wT:World Z.K H1 ([some x]++L1):=w1;have okx:=w1.head;have nd:=w1.nd;rw[qk,Xf]at nd;have oT:jq [some x]=x.own:=by simp
         have fT:kj [some x]=x.frz:=by simp
         by_cases hd:oo=.dp/\xX s=true
         ·rw[X9 hd]at h1;cases oq9 h1;have hyo:y.o=.dp:=b2.trans hd.1;rw[hyo]at c5;obtain⟨cs,r1,h3,h4,h5⟩:=wx6 okx false λ_=>by rw[show x.sd=s from by simp[Sl.sd,e1,e2]];exact hd.2
          refine g l x.v xs ds ds' s.2 bs cs H1 false hfd c2 c5 (by rw[<-e2];exact r1) λxs' es re he hn=>?_
          have ynd:(bs++cs).Nodup:=by
           have yo:y.own=l::bs:=by unfold Sl.own;rw[hyo,c3]
           obtain⟨A,B,e,_⟩:=kk3 b1;have q:=nd.2.1;rw[e,kq,qk,Xf]at q;have q2:=(List.nodup_append.mp q.2.1).1;rw[yo]at q2;rw[Xf];refine⟨(List.nodup_cons.mp q2).2,h5 rfl nd.1,λa ha b hb hab=>?_⟩;subst hab;exact nd.2.2 a (h4 rfl a hb) a (mem_owned.mpr ⟨y,xq b1,by rw[yo];exact lc9 _ ha⟩) rfl
          obtain⟨w3,s3⟩:=qjd (o':=.dp) (ds':=ds') (xs':=xs') wT b1 c2 c3 c4 c1 re (.inr ⟨rfl,hyo,hn ynd,λa ha=>(he a ha).imp id λz=>by rw[oT];exact h4 rfl a z⟩);refine k σ _ _ Pn.refl ?_ w3 (st.trans s3);have:=m1.set (x:=⟨.dp,.lst ds',y.v,l::es⟩) i;rw[XW b4]at this;exact this
         ·rw[Xd hd]at h1;cases oq9 h1;have c6:RepA Z.K H1 true ds xs bs:=by
           cases hb:(y.o != .dp)with
           |true=>rw[hb]at c5;exact c5
           |false=>rw[hb]at c5;exact c5.wk
          refine g l x.v xs ds ds' s.2 bs x.as H1 true hfd c2 c6 (by rw[<-e2];exact RepO.wk okx) λxs' es re he hn=>?_
          obtain⟨w3,s3⟩:=qjd (o':=.rt) (ds':=ds') (xs':=xs') wT b1 c2 c3 c4 c1 re (.inl ⟨rfl,λa ha=>(he a ha).imp id λz=>by rw[oT,fT];exact Sl.as_of z⟩);refine k σ _ _ Pn.refl ?_ w3 (st.trans s3);have:=m1.set (x:=⟨.rt,.lst ds',y.v,l::es⟩) i;rw[XW b4]at this;exact this
      |_=>cases h1
   |_=>rw[h0]at hc;cases hc
theorem wwd{i:Nat}{o:Expr}{apos ab pos:Pos}(hb:PE X (.Call (.Attribute o "append" apos) [e] [] ab) (tBM Z.K "list" qja (Kx i) (wj9 (tQ Z q c) wxp)))(hs:autoParam (swapsWith (.Call (.Attribute o "append" apos) [e] [] ab) none pos.line X.env=pure false) Ŕ):
  QS X Z pn (qK qJ i c) (.Expr (.Call (.Attribute o "append" apos) [e] [] ab) pos):=Kz (qx2 hb hs) λD σ H ai=>ex7 ai λE L r m w hc k=>
 mut1 (G:=λv x H1=>qja v [x] H1 λ_ H2=>D.nx σ H2) m w hc k λl x xs ds ds' d bs cs H1 gg hf hH ra rx fin=>by
  unfold qJ at hf
  by_cases hl:ds.length<big
  ·rw[X9 hl]at hf;cases oq9 hf;exact⟨l,xs,x,rfl,rfl,hH,by rw[<-ra.len];exact hl,fin (xs++[x]) (bs++cs) (RepA.snoc rx ra) (λa ha=>List.mem_append.mp ha) λh=>h⟩
  ·rw[Xd hl]at hf;cases hf
end
section
variable {X:Cx}{Z:Fx0}{pn:List Nat}{q:Bool}{a b c:Ex}{tg e ea eb:Expr}{σ:L2.St}{H:Hp}{L:Ls}{E:En}{pos p:Pos}
theorem wjc{pins:List (Addr×Obj)}{H1:Hp}{s1:Shared}{x:Str}{t:Tok}{R:It->Hp->Prop}(I1:L2.Inv X pins σ H1 s1)(q:R (Its x) H1):wpAny (model X.prog X.w) X.A (pyIter (.str x t)) (PIE X pins σ tg R) X.xe s1:=by
 have fp:∀b∈[s1.heap.objs.size],wX X pins H1 b:=λb hb=>by
  have e:b=s1.heap.objs.size:=by simpa using hb
  subst e;exact I1.fpOk (X8 _) (I1.hok.fresh (X8 _))
 cases ha:x.cps.all (· < 128)
 ·exact wpAny_pyIter_wide ha ⟨s1.heap.objs.size,[s1.heap.objs.size],_,_,H1,rfl,I1.kept (t':=s1.toks) λb o e=>X6 _ e,qk9 (λA' hA=>PySem.Walks.strWide hA _ x t) (λ_ _ _ _ _ st h=>wpAny_pyIter_striter_wide st h) (by decide),⟨_,Xj _ rfl,rfl,rfl⟩,fp,q⟩
 ·exact wpAny_pyIter_ascii ha ⟨s1.heap.objs.size,[s1.heap.objs.size],_,_,H1,rfl,I1.kept (t':=s1.toks) λb o e=>X6 _ e,qk9 (λA' hA=>PySem.Walks.strAscii hA _ x t) (λ_ _ _ _ _ st h=>wpAny_pyIter_striter_ascii st h) (by decide),⟨_,Xj _ rfl,rfl,rfl⟩,fp,q⟩
theorem wq2{K:PySem.W.Frag}{H:Hp}(c:Nat):Sl.ok K H ⟨.no,.str ⟨#[c]⟩,.str ⟨#[c]⟩,[]⟩:=by
 show RepL K H true _ _ _;exact kkh (show(1:Nat)<=sizeLine by decide)
theorem wq1{K:PySem.W.Frag}{H:Hp}(i:Int):Sl.ok K H ⟨.no,.int i,.int i,[]⟩:=by
 show RepL K H true _ _ _;exact V1
noncomputable def iAny(K:PySem.W.Frag)(tl:TE):TI:=fun σ H R=>tl σ H λx H1=>(∃a xs,x=.ref a/\SqL K H1 a xs/\(xs.length<=sizeLine->R (Itl K a) H1))\/(∃a xs,x=.ref a/\SqT K H1 a xs/\(xs.length<=sizeLine->R (Itt K a) H1))\/∃z,x=.str z/\R (Its z) H1
theorem wkg{l:Expr}{tl:TE}(hl:PE X l tl):PI X tg l (iAny X.K tl):=by
 intro pins s σ H R I h;have h':tl σ H λx H1=>(∃a xs,x=.ref a/\SqL X.K H1 a xs/\(xs.length<=sizeLine->R (Itl X.K a) H1))\/(∃a xs,x=.ref a/\SqT X.K H1 a xs/\(xs.length<=sizeLine->R (Itt X.K a) H1))\/∃z,x=.str z/\R (Its z) H1:=h
 refine thn (hl pins s σ H _ I h') λv s1 ⟨x,H1,I1,r1,q1⟩=>?_
 rcases q1 with⟨a,xs,rfl,hq,q⟩|⟨a,xs,rfl,hq,q⟩|⟨z,rfl,q⟩
 ·cases r1;obtain⟨aa,rv,p,hz⟩:=I1.list hq;refine wpAny_pyIter_list p.isList ?_;refine⟨s1.heap.objs.size,[s1.heap.objs.size],_,_,H1,rfl,I1.kept (t':=s1.toks) λb o e=>X6 _ e,qw8 a _,⟨_,Xj _ rfl,rfl,rfl⟩,λb hb=>?_,q hz⟩;have e:b=s1.heap.objs.size:=by simpa using hb
  subst e;exact I1.fpOk (X8 _) (I1.hok.fresh (X8 _))
 ·cases r1;obtain⟨aa,rv,p,hz⟩:=I1.tuple hq;refine wpAny_pyIter_tuple (show s1.heap.IsTuple a aa.toArray from p) ?_;refine⟨s1.heap.objs.size,[s1.heap.objs.size],_,_,H1,rfl,I1.kept (t':=s1.toks) λb o e=>X6 _ e,qqt a _,⟨_,Xj _ rfl,rfl,rfl⟩,λb hb=>?_,q hz⟩;have e:b=s1.heap.objs.size:=by simpa using hb
  subst e;exact I1.fpOk (X8 _) (I1.hok.fresh (X8 _))
 ·obtain⟨t,rfl⟩:=r1;exact wjc I1 q
theorem x6(h:QE X Z q c e)(hK:autoParam (X.K=Z.K) Ŕ):QI X Z q tg (itS c) e:=λpins s σ H R I ai=>ex8 ai λE L r m w hc xc k=>by
 refine(hK▸wkg h) pins s σ H R I ?_;refine VX m w (show bnd (c E) _=some r from hc) xc λE1 s h1 x L1 H1 e1 e2 m1 w1 st sm=>?_
 obtain⟨ds,hd,rfl⟩:=K6 h1;have ok:=w1.head;have wT:World Z.K H1 (L1++[x.let].map some):=by
  refine World.comm (L:=[some x.let]) ?_;exact w1.tail.consNo (Kv ok) rfl λb hb=>w1.apart b hb
 have sT:Step H L H1 (L1++[x.let].map some):=by
  refine⟨st.keep,λb hb=>?_,λb hb=>?_⟩
  ·have:b∈jq L1:=by simpa [V6]using hb
   exact st.own b (by rw[qk];exact lr9 _ this)
  ·have:b∈kj L1\/b∈x.as:=by simpa [V6]using hb
   rcases this with z|z
   ·exact st.frz b (by rw[wJ];exact lr9 _ z)
   ·exact jz7 st b z
 cases hx:x.d with
 | lst es=>
  rw[<-e2,hx]at hd;have ik:es=ds:=oq9 hd;subst ik;obtain⟨a,xs,bs,ev,q3,r3,h3,_⟩:=items ok (.inl hx);have q3:LsR Z.K H1 a xs:=by rcases q3 with⟨_,z⟩|⟨z,_⟩;exact z;rw[hx]at z;cases z
  have be:∀H2:Hp,(∀t∈[x.let],t.ok Z.K H2)->∃ys cs,SqL Z.K H2 a ys/\RepA Z.K H2 true es ys cs/\∀b∈cs,b∈x.as:=λH2 hok=>by
   obtain⟨a',ys,cs,ue,q4,r4,h4,_⟩:=items (hok x.let (List.mem_singleton.mpr rfl)) (.inl hx);have:a'=a:=by have:=ue.symm.trans ev;exact V.ref.inj this
   subst this;rcases q4 with⟨_,z⟩|⟨z,_⟩
   ·exact⟨ys,cs,z.sq,r4,h4⟩
   ·rw[show x.let.d=D.lst es from hx]at z;cases z
  refine .inl ⟨a,xs,ev,q3.sq,λae=>k _ _ rfl (Itl Z.K a) [x.let] L1 H1 m1 wT sT (by rw[r3.len];exact ae) (λhq=>(sm hq).1) ⟨λt ht=>by rw[List.mem_singleton.mp ht];rfl,λi H2 hok hi=>?_,λH2 hok=>?_,λi H2 v H3 d hok hy fq=>?_⟩⟩
  ·obtain⟨ys,cs,s1,s2,_⟩:=be H2 hok;have hl:=s2.len;exact⟨ys,ys[i]'(by omega),s1,X1 (by omega)⟩
  ·obtain⟨ys,cs,s1,s2,_⟩:=be H2 hok;exact⟨ys,s1,by rw[s2.len];exact X8 _⟩
  ·obtain⟨ys,cs,s1,s2,s3⟩:=be H2 hok;obtain⟨e3,hy⟩:=hy;subst e3;obtain⟨v',db,f1,f2,f3⟩:=s2.get fq;have:v'=v:=by have:=hy ys s1;rw[f1]at this;exact oq9 this
   subst this;exact⟨⟨.no,d,v',db⟩,rfl,rfl,rfl,zQ,f2,λb hb=>⟨x.let,List.mem_singleton.mpr rfl,s3 b (f3 b hb)⟩⟩
 | tup es=>
  rw[<-e2,hx]at hd;have ik:es=ds:=oq9 hd;subst ik;obtain⟨a,xs,bs,ev,q3,r3,h3,_⟩:=items ok (.inr hx);have q3:SqT Z.K H1 a xs:=by rcases q3 with⟨z,_⟩|⟨_,z⟩;rw[hx]at z;cases z;exact z
  have be:∀H2:Hp,(∀t∈[x.let],t.ok Z.K H2)->∃ys cs,SqT Z.K H2 a ys/\RepA Z.K H2 true es ys cs/\∀b∈cs,b∈x.as:=λH2 hok=>by
   obtain⟨a',ys,cs,ue,q4,r4,h4,_⟩:=items (hok x.let (List.mem_singleton.mpr rfl)) (.inr hx);have:a'=a:=by have:=ue.symm.trans ev;exact V.ref.inj this
   subst this;rcases q4 with⟨z,_⟩|⟨_,z⟩
   ·rw[show x.let.d=D.tup es from hx]at z;cases z
   ·exact⟨ys,cs,z,r4,h4⟩
  refine .inr (.inl ⟨a,xs,ev,q3,λae=>k _ _ rfl (Itt Z.K a) [x.let] L1 H1 m1 wT sT (by rw[r3.len];exact ae) (λhq=>(sm hq).1) ⟨λt ht=>by rw[List.mem_singleton.mp ht];rfl,λi H2 hok hi=>?_,λH2 hok=>?_,λi H2 v H3 d hok hy fq=>?_⟩⟩)
  ·obtain⟨ys,cs,s1,s2,_⟩:=be H2 hok;have hl:=s2.len;exact⟨ys,ys[i]'(by omega),s1,X1 (by omega)⟩
  ·obtain⟨ys,cs,s1,s2,_⟩:=be H2 hok;exact⟨ys,s1,by rw[s2.len];exact X8 _⟩
  ·obtain⟨ys,cs,s1,s2,s3⟩:=be H2 hok;obtain⟨e3,hy⟩:=hy;subst e3;obtain⟨v',db,f1,f2,f3⟩:=s2.get fq;have:v'=v:=by have:=hy ys s1;rw[f1]at this;exact oq9 this
   subst this;exact⟨⟨.no,d,v',db⟩,rfl,rfl,rfl,zQ,f2,λb hb=>⟨x.let,List.mem_singleton.mpr rfl,s3 b (f3 b hb)⟩⟩
 | str z=>
  rw[<-e2,hx]at hd;have hd:(if z.cps.size<=big then some (z.cps.toList.map λc=>D.str ⟨#[c]⟩)else none)=some ds:=hd
  split at hd
  ·rename_i hz;cases oq9 hd;refine .inr (.inr ⟨z,(z9 ok hx).1,k _ _ rfl (Its z) [] L1 H1 m1 (by simpa using w1.tail) (by simpa using (st.trans Step.drop)) (by rw[X4,Yb];exact hz) (λhq=>(sm hq).1) ⟨λt ht=>(nomatch ht),λi H2 _ hi=>?_,λH2 _=>?_,λi H2 v H3 d _ hy fq=>?_⟩⟩)
   ·show i<z.cps.size
    simpa using hi
   ·show(z.cps.toList.map λc=>D.str ⟨#[c]⟩).length=z.cps.size;simp
   ·obtain⟨e3,cc,hc,rfl⟩:=hy;subst e3;rw[Xg,Yp,hc]at fq;cases oq9 fq;exact⟨⟨.no,.str ⟨#[cc]⟩,.str ⟨#[cc]⟩,[]⟩,rfl,rfl,rfl,zQ,wq2 cc,λb hb=>(nomatch hb)⟩
  ·cases hd
 |non=>rw[<-e2,hx]at hd;cases hd
 |bl _=>rw[<-e2,hx]at hd;cases hd
 |int _=>rw[<-e2,hx]at hd;cases hd
 |dct _=>rw[<-e2,hx]at hd;cases hd
 |obj _ _=>rw[<-e2,hx]at hd;cases hd
theorem kqy{K:PySem.W.Frag}(lo hi:Int):Walks K (Itr lo (hi - lo).toNat) [] (jQ lo hi):=by
 have hl:(jQ lo hi).length=(hi - lo).toNat:=by simp[jQ]
 refine⟨λt ht=>(nomatch ht),λi H _ hi'=>by rw[hl]at hi';exact hi',λH _=>by rw[hl];exact X8 _,λi H v H' d _ hy hd=>?_⟩;obtain⟨e,rfl⟩:=hy;subst e;unfold jQ at hd;rw[Xg]at hd;cases hr:(List.range (hi - lo).toNat)[i]? with
 | none=>rw[hr]at hd;cases hd
 | some j=>
  rw[hr]at hd;have:j=i:=by
   obtain⟨_,h2⟩:=List.getElem?_eq_some_iff.mp hr
   simpa using h2.symm
  subst this;cases oq9 hd;exact⟨⟨.no,.int (lo+(j:Int)),.int (lo+(j:Int)),[]⟩,rfl,rfl,rfl,zQ,wq1 _,λb hb=>(nomatch hb)⟩
theorem jxd{i:Int}(h:vQ i=true):-(2 ^ 62)<=i/\i<2 ^ 62:=by
 unfold vQ at h
 simpa using h
theorem zV(ha:QV X Z q a ea)(hg:Gl X "range")(hm:X.mg "range"=none)(ao:autoParam (starEach [ea] X.env=[(false,eval ea X.env)]) Ŕ):QI X Z q tg (vz a) (.Call (.Name "range" p) [ea] [] pos):=λpins s σ H R I ai=>ex8 ai λE L r m w hc xc k=>by
 refine(qx9 hg hm (xQ ha zw ao) ao) pins s σ H R I ?_;refine x9 m w (show bnd (a E) _=some r from hc) xc λE1 s h1 x L1 H1 e1 e2 m1 w1 ok fr sr st sm=>?_
 cases hx:s.2 with
 | int j=>
  rw[hx]at h1;dsimp only at h1
  split at h1
  ·rename_i hj;cases oq9 h1;obtain⟨j1,j2⟩:=jxd hj.1;have hv:=vw ok (e2.trans hx);refine⟨j,by rw[hv],j1,j2,?_⟩;have wk:=kqy (K:=Z.K) 0 j;rw[Int.sub_zero]at wk;exact k _ _ rfl (Itr 0 j.toNat) [] L1 H1 m1 (by simpa using w1) (by simpa using st) (by simp only[jQ,X4,Z4,Int.sub_zero];exact hj.2) sm wk
  ·cases h1
 |_=>rw[hx]at h1;cases h1
theorem wk1(ha:QV X Z q a ea)(hb:QV X Z true b eb)(hg:Gl X "range")(hm:X.mg "range"=none)(hs:autoParam (starEach [ea,eb] X.env=[(false,eval ea X.env),(false,eval eb X.env)]) Ŕ)(gl:autoParam (starEach [eb] X.env=[(false,eval eb X.env)]) Ŕ)
  (hs3:autoParam (starEach [ea,eb] X.env=(false,eval ea X.env)::starEach [eb] X.env) Ŕ):QI X Z q tg (wvn a b) (.Call (.Name "range" p) [ea,eb] [] pos):=λpins s σ H R I ai=>ex8 ai λE L r m w hc xc k=>by
 refine(qx8 hg hm (xQ ha (xQ hb zw gl) hs3) hs gl) pins s σ H R I ?_;refine x9 m w (show bnd (a E) _=some r from hc) xc λE1 s h1 x L1 H1 e1 e2 m1 w1 ok fr sr st sm=>?_
 refine x9 m1 w1 h1 (xc.step st) λE2 s2 h2 y L2 H2 e3 e4 m2 w2 jm sv sy b7 fj=>?_
 have kx:=ZX ok fr b7 (fj rfl);cases hx:s.2 with
 | int i=>
  cases hy:s2.2 with
  | int j=>
   rw[hx,hy]at h2;dsimp only at h2
   split at h2
   ·rename_i hj;cases oq9 h2;obtain⟨i1,i2⟩:=jxd hj.1;obtain⟨j1,j2⟩:=jxd hj.2.1;refine⟨i,j,by rw[vw kx.1 (e2.trans hx),vw jm (e4.trans hy)],⟨i1,i2,j1,j2⟩,?_⟩;exact k _ _ rfl (Itr i (j - i).toNat) [] L2 H2 m2 (by simpa using w2) (by simpa using st.trans b7) (by simp only[jQ,X4,Z4];exact hj.2.2) (λhq=>v8 (sm hq) (fj rfl)) (kqy i j)
   ·cases h2
  |_=>rw[hx,hy]at h2;cases h2
 |_=>rw[hx]at h2;cases h2
theorem Mt.clr:∀{R:List Nat} {E:En} {L:Ls},Mt E σ L->Mt (Q.clr R E) σ (Q.clr R L)
 | [],_,_,m=>m
 | j::R,E,L,m=>by
  have un:∀{E:En} {σ:L2.St} {L:Ls} (j:Nat),Mt E σ L->Mt (E.set j none) σ (L.set j none):=by
   intro E σ L j m
   induction m generalizing j with
   |nil=>exact .nil
   |un m ih=>cases j with
    |zero=>exact .un m
    |succ j=>exact .un (ih j)
   |cons m ih=>cases j with
    |zero=>exact .un m
    |succ j=>exact .cons (ih j)
  show Mt (Q.clr R (E.set j none)) σ (Q.clr R (L.set j none));exact Mt.clr (un j m)
theorem Mt.drop:∀{E:En} {σ:L2.St} {L:Ls} (k:Nat),Mt E σ L->Mt (E.drop k) (σ.drop k) (L.drop k)
 |_,_,_,0,m=>m
 |_,_,_,k+1,.nil=>.nil
 |_,_,_,k+1,.un m=>m.drop k
 |_,_,_,k+1,.cons m=>m.drop k
theorem Mt.none_at:∀{E:En} {σ:L2.St} {L:Ls} {j:Nat},Mt E σ L->E[j]?=some none->L[j]?=some none
 |_,_,_,_,.nil,h=>by simp at h
 |_,_,_,0,.un _,_=>by simp
 |_,_,_,j+1,.un m,h=>by simpa using m.none_at (j:=j) (by simpa using h)
 |_,_,_,0,.cons _,h=>by simp at h
 |_,_,_,j+1,.cons m,h=>by simpa using m.none_at (j:=j) (by simpa using h)
theorem Mt.pick:∀{R:List Nat},Mt E σ L->Mt (R.map (at' E)) (R.map (at' σ)) (R.map (at' L))
 | [],_=>.nil
 | j::R,m=>by
  rw[List.map_cons,List.map_cons,List.map_cons];cases hE:E[j]? with
  | none=>
   have hl:=m.len;have:L[j]?=none:=by rw[List.getElem?_eq_none_iff]at hE ⊢;omega
   rw[show at' E j=none from by unfold at';rw[hE];rfl,show at' L j=none from by unfold at';rw[this];rfl];exact .un m.pick
  | some s=>
   cases s with
   |none=>
    have:L[j]?=some none:=m.none_at hE;rw[show at' E j=none from by unfold at';rw[hE];rfl,show at' L j=none from by unfold at';rw[this];rfl];exact .un m.pick
   |some s=>
    obtain⟨o,d⟩:=s;obtain⟨x,h1,h2,h3,h4⟩:=m.get hE;rw[show at' E j=some (x.o,x.d)from by unfold at';rw[hE,h2,h3];rfl,show at' L j=some x from by unfold at';rw[h1];rfl,show at' σ j=some x.v from by unfold at';rw[h4];rfl];exact .cons m.pick
theorem Mt.rep:∀{k:Nat},Mt E σ L->Mt (List.replicate k none++E) (List.replicate k none++σ) (List.replicate k none++L)
 |0,m=>by simpa using m
 |k+1,m=>by
  rw[List.replicate_succ,List.replicate_succ,List.replicate_succ];exact .un m.rep
theorem Mt.back:∀{R:List Nat} {B:En} {τ:L2.St} {M:Ls} {E:En} {L:Ls},Mt E σ L->Mt B τ M->(∀(i j:Nat) (v:V),R[i]?=some j->τ[i]?=some (some v)->σ[j]?=some (some v))->Mt (Q.back R B E) σ (Q.back R M L)
 | [],B,τ,M,E,L,m,_,_=>by simpa [Q.back]using m
 | j::R,_,_,_,E,L,m,.nil,_=>by simpa [Q.back]using m
 | j::R,_,_,_,E,L,m,.un mB,h=>by
  have un:∀{E:En} {σ:L2.St} {L:Ls} (j:Nat),Mt E σ L->Mt (E.set j none) σ (L.set j none):=by
   intro E σ L j m
   induction m generalizing j with
   |nil=>exact .nil
   |un m ih=>cases j with
    |zero=>exact .un m
    |succ j=>exact .un (ih j)
   |cons m ih=>cases j with
    |zero=>exact .un m
    |succ j=>exact .cons (ih j)
  show Mt (Q.back R _ (E.set j none)) σ (Q.back R _ (L.set j none));exact Mt.back (un j m) mB λi jj v e1 e2=>h (i+1) jj v (by simpa using e1) (by simpa using e2)
 |j::R,_,_,_,E,L,m,.cons (x:=x) mB,h=>by
  have h0:=h 0 j x.v (by simp) (by simp);have m1:=m.set (x:=x) j;rw[XW h0]at m1;show Mt (Q.back R _ (E.set j _)) σ (Q.back R _ (L.set j _));exact Mt.back m1 mB λi jj v e1 e2=>h (i+1) jj v (by simpa using e1) (by simpa using e2)
section
variable {iter f8:Expr}{em:List Expr}{scope:Scope}{N:List Str}{k:Nat}{R:List Nat}{it:Ev (List D)}{tt:Tg}{u:Ts}{o:Own}{q1 q2:Bool}
theorem vxp:JQ k R σ=List.replicate k none++R.map (at' σ):=rfl
theorem wwy{K:PySem.W.Frag}{M:Ls}(hR:R.Nodup)(w:World K H (L++M)):World K H ((List.replicate k none++R.map (at' L))++(Q.clr R L++M))/\Step H (L++M) H ((List.replicate k none++R.map (at' L))++(Q.clr R L++M)):=by
 have p:(sls (L++M)).Perm (sls ((List.replicate k none++R.map (at' L))++(Q.clr R L++M))):=by
  have:=qqd (R:=R) (L:=L) hR;rw[Vx]at this;simp only[Vx,vw9,List.nil_append];rw[<-Xz];exact(this.append_right _).symm
 exact⟨w.same p,Step.refl.same (List.Perm.refl _) p⟩
theorem wqa{K:PySem.W.Frag}{B:Ls}{M:Ls}{H2:Hp}(hR:R.Nodup)(hr:∀j∈R,j<L.length)(hB:B.length=k+R.length)(w:World K H2 (B++(Q.clr R L++M))):World K H2 (Q.back R (B.drop k) (Q.clr R L)++M)/\Step H2 (B++(Q.clr R L++M)) H2 (Q.back R (B.drop k) (Q.clr R L)++M):=by
 have p:=kzs (R:=R) (B:=B.drop k) (L:=Q.clr R L) hR (λj hj=>vje hj) (λj hj=>by rw[vjd];exact hr j hj) (by rw[List.length_drop,hB];omega);have p2:(sls (Q.back R (B.drop k) (Q.clr R L)++M)).Perm (sls (B.drop k++(Q.clr R L++M))):=by
  rw[Vx,<-Xz,Vx (B.drop k++Q.clr R L)];exact p.append_right _
 have sub:(sls (B.drop k++(Q.clr R L++M))).Sublist (sls (B++(Q.clr R L++M))):=by
  rw[Vx,Vx B];refine List.Sublist.append ?_ (List.Sublist.refl _);unfold sls;exact(List.drop_sublist k B).filterMap _
 exact⟨(w.sub sub).same p2.symm,(Step.refl.sub sub).same (List.Perm.refl _) p2.symm⟩
theorem kka:∀{is:List Nat} {es:List D} {E E':En},setAll is es E=some E'->E'.length=E.length
 |[],[],_,_,h=>by cases oq9 h;rfl
 |[],_::_,_,_,h=>by cases h
 |_::_,[],_,_,h=>by cases h
 |i::is,d::es,E,E',h=>by rw[kka (E:=E.set i (some (.no,d))) h,List.length_set]
theorem vwp{t:Tg}{d:D}{E E':En}(h:t.put d E=some E'):E'.length=E.length:=by
 cases t with
 |n i=>cases oq9 h;rw[List.length_set]
 |t is=>
  cases d with
  |tup es=>exact kka (show setAll is es E=some E' from h)
  |lst es=>exact kka (show setAll is es E=some E' from h)
  |_=>cases h
theorem qz4{nN:Nat}{Q:VK}(hσ:σ.length=nN)(hR:R.Nodup)(hr:∀j∈R,j<nN)(h:tQ Z q (cLC o k R it tt u c) σ H Q):tLC (tIS Z q it) (tG Z ((List.range R.length).map (k + ·)) tt) (tT Z q u) (tQ Z q c) k R σ H Q:=by
 obtain⟨E,L,r,m,w,gp,xc,kk⟩:=h;have gp:bnd (it E) (λE ds=>match lcL tt u c ds (Qx k R E) []with
  | some (.ok B xs)=>mkL o (Q1 k R B E) xs
  | some (.exc B e)=>some (.exc (Q1 k R B E) e)
  | none=>none)=some r:=gp
 rcases z4 gp with⟨E1,ds,h1,h2⟩|⟨E1,cc,h1,h2⟩
 rotate_left
 ·exact⟨E,L,_,m,w,h1,xc.map h2,λE' s' z=>by cases z⟩
 refine⟨E,L,_,m,w,h1,(λ_ _ z=>by cases z),λE' ds' z J T L1 H1 m1 w1 st hz sm wk=>?_⟩;injection z with z1 z2;subst z1 z2;have rf:∀j∈R,j<L1.length:=λj hj=>by have:=m1.len;have:=hr j hj;omega
 obtain⟨wB,sB⟩:=wwy (k:=k) hR w1;cases hrB:lcL tt u c ds (Qx k R E1) []with
 | none=>rw[hrB]at h2;cases h2
 | some rB=>
  rw [hrB]at h2;have kr:∀{H2:Hp} {A B:Ls},World Z.K H2 (A++(B++(_root_.Q.clr R L1++T.map some)))->∀t∈T,t.ok Z.K H2:=λw2 t ht=>w2.ok t (lr9 _ (lr9 _ (lr9 _ (Xe ht))))
  have mB0:Mt (Qx k R E1) (JQ k R σ) (List.replicate k none++R.map (at' L1)):=(m1.pick (R:=R)).rep;have rl:∀{B:En} {LB:Ls} {τ:L2.St} {H2:Hp} {A:Ls},Mt B τ LB->τ.length=k+R.length->Pn ((List.range R.length).map (k + ·)) (JQ k R σ) τ->World Z.K H2 (LB++(A++(_root_.Q.clr R L1++T.map some))) ->
    Mt (Q1 k R B E1) σ (_root_.Q.back R (LB.drop k) (_root_.Q.clr R L1))/\World Z.K H2 (A++_root_.Q.back R (LB.drop k) (_root_.Q.clr R L1))/\Step H2 (LB++(A++(_root_.Q.clr R L1++T.map some))) H2 (A++_root_.Q.back R (LB.drop k) (_root_.Q.clr R L1)):=fun {B LB τ H2 A} mB lB pB wB2=>by
   have hl:LB.length=k+R.length:=by rw[mB.len.2];exact lB
   have pm:(LB++(A++(_root_.Q.clr R L1++T.map some))).Perm (LB++(_root_.Q.clr R L1++(A++T.map some))):=by
    refine List.Perm.append_left _ ?_;rw [<-Xz,<-Xz];exact List.Perm.append_right _ List.perm_append_comm
   obtain⟨w3,s3⟩:=wqa (k:=k) hR rf hl (wB2.perm pm);have oi:(_root_.Q.back R (LB.drop k) (_root_.Q.clr R L1)++(A++T.map some)).Perm ((A++_root_.Q.back R (LB.drop k) (_root_.Q.clr R L1))++T.map some):=by
    rw [<-Xz];exact List.Perm.append_right _ List.perm_append_comm
   refine⟨?_,(w3.perm oi).left,(s3.perm pm.symm oi).trans Step.dropT⟩;refine Mt.back (m1.clr) (mB.drop k) λi j v e1 e2=>?_
   have hi:i<R.length:=(List.getElem?_eq_some_iff.mp e1).1;have e3:=pB (k+i) (List.mem_map.mpr ⟨i,List.mem_range.mpr hi,rfl⟩);rw [List.getElem?_drop,e3,vxp,Xy (by simp),Yc,show k+i - k=i from by omega,Xg,e1]at e2;have e4:at' σ j=some v:=by simpa using e2
   unfold at' at e4;cases hh:σ[j]? with
   | none=>rw[hh]at e4;cases e4
   | some s=>rw[hh]at e4;rw[show s=some v from e4]
  refine⟨λi n ys τ H2=>∃(B:En) (LB:Ls) (acc:List Sl),Mt B τ LB/\τ.length=k+R.length/\Pn ((List.range R.length).map (k + ·)) (JQ k R σ) τ/\World Z.K H2 (LB++(acc.map some++(_root_.Q.clr R L1++T.map some)))/\Step H L H2 (LB++(acc.map some++(_root_.Q.clr R L1++T.map some))) /\
   ys=acc.map Sl.v/\lcL tt u c (ds.drop i) B (acc.map Sl.sd)=some rB/\i<=ds.length/\acc.length<=i/\n=ds.length - i/\(q=true->kJ H H2/\∀b∈jq (acc.map some),H b=none),⟨_,Qx k R E1,_,[],mB0,by simp[JQ],Pn.refl,wB,st.trans sB,rfl,hrB,Y9 _,Y9 _,rfl,λhq=>⟨sm hq,λ_ z=>(nomatch z)⟩⟩,?_⟩
  rintro i n ys τ H2 ⟨B,LB,acc,mB,lB,pB,wB2,sB2,rfl,f1,hi,az,rfl,smB⟩
  by_cases b8:i<ds.length
  rotate_left
  ·have e:i=ds.length:=by omega
   subst e;rw [List.drop_length]at f1;cases oq9 f1;obtain⟨m3,w3,s3⟩:=rl mB lB pB wB2;refine .inl ⟨wk.stop H2 (kr wB2) (λhq=>(smB hq).1),by rw[X4];omega,?_⟩;exact qkx (σ:=σ) (Q:=Q) (o:=o) (xs:=acc) h2 rfl w3 (sB2.trans s3) smB kk m3
  ·have hd:ds.drop i=ds[i]::ds.drop (i+1):=Ym b8;rw [hd]at f1;unfold lcL at f1;cases bn:tt.put ds[i] B with
   | none=>rw[bn]at f1;cases f1
   | some B2=>
    rw [bn]at f1;dsimp only at f1;refine .inr ⟨wk.go i H2 (kr wB2) (λhq=>(smB hq).1) b8,λv H3 hy=>?_⟩;obtain⟨z,zo,zd,zv,smz,ua,zas⟩:=wk.yld i H2 v H3 ds[i] (kr wB2) (λhq=>(smB hq).1) hy (X1 b8);have pm:(LB++(acc.map some++(_root_.Q.clr R L1++T.map some))).Perm ((LB++(acc.map some++_root_.Q.clr R L1))++T.map some):=by
     rw[<-Xz (acc.map some),<-Xz]
    obtain⟨wz,sz⟩:=kvb (wB2.perm pm) wk.no smz ua zo zas;have wz':World Z.K H3 ((some z::LB)++(acc.map some++(_root_.Q.clr R L1++T.map some))):=wz.perm (by
     rw[List.cons_append,List.cons_append];exact List.Perm.cons _ pm.symm)
    have sz':Step H2 (LB++(acc.map some++(_root_.Q.clr R L1++T.map some))) H3 ((some z::LB)++(acc.map some++(_root_.Q.clr R L1++T.map some))):=sz.perm pm.symm (by
     rw[List.cons_append,List.cons_append];exact List.Perm.cons _ pm.symm)
    refine⟨B,LB,z,B2,mB,wz'.left,zo,zv,by rw[zd];exact bn,fun τ2 LB2 p2 mB2 wB3 sB3=>?_⟩;obtain⟨w4,s4⟩:=stay wz' sB3 wB3;have lB2:τ2.length=k+R.length:=by
     have h1:=mB2.len.1;have h2:=mB.len.1;have h3:=vwp bn;omega
    have p3:=pB.trans p2;have ui:Step H L H3 (LB2++(acc.map some++(_root_.Q.clr R L1++T.map some))):=sB2.trans (sz'.trans s4);have i4:q=true->kJ H H3/\∀b∈jq (acc.map some),H b=none:=λhq=>⟨v8 (smB hq).1 smz,(smB hq).2⟩
    refine⟨λy H5=>∃(B:En) (LB:Ls) (gc:List Sl),Mt B τ2 LB/\World Z.K H5 (LB++(gc.map some++(_root_.Q.clr R L1++T.map some)))/\Step H L H5 (LB++(gc.map some++(_root_.Q.clr R L1++T.map some)))/\acc.map Sl.v++[y]=gc.map Sl.v/\gc.length=acc.length+1/\lcL tt u c (ds.drop (i+1)) B (gc.map Sl.sd)=some rB/\(q=true->kJ H H5/\∀b∈jq (gc.map some),H b=none),
     λH5=>∃B LB,Mt B τ2 LB/\World Z.K H5 (LB++(acc.map some++(_root_.Q.clr R L1++T.map some)))/\Step H L H5 (LB++(acc.map some++(_root_.Q.clr R L1++T.map some)))/\lcL tt u c (ds.drop (i+1)) B (acc.map Sl.sd)=some rB/\(q=true->kJ H H5/\∀b∈jq (acc.map some),H b=none),
     λy H5 ⟨B5,LB5,acc5,c1,c2,c3,c4,c5,c6,c7⟩=>⟨by rw[X4];omega,ds.length - (i+1),by omega,B5,LB5,acc5,c1,lB2,p3,c2,c3,c4,c6,b8,by omega,rfl,c7⟩,
     λH5 ⟨B5,LB5,c1,c2,c3,c6,c7⟩=>⟨ds.length - (i+1),by omega,B5,LB5,acc,c1,lB2,p3,c2,c3,rfl,c6,b8,by omega,rfl,c7⟩,?_⟩
    have xcB:∀{α:Type} {H6:Hp} {L6:Ls} {B6:En} {cc:Str} {A:Ls},rB=.exc B6 cc->World Z.K H6 (L6++(A++(_root_.Q.clr R L1++T.map some)))->Step H L H6 (L6++(A++(_root_.Q.clr R L1++T.map some)))->Xc Z τ2 H6 L6 (.exc B6 cc:Res α):=fun {α H6 L6 B6 cc A} er w6 s6 E7 c7 e7 C L7 H7 hm m7 w7 s7=>by
     injection e7 with e8 e9;subst e8 e9;subst er;cases oq9 h2;obtain⟨w8,s8⟩:=stay w6 s7 w7;obtain⟨m9,w9,s9⟩:=rl m7 lB2 p3 w8;exact xc _ _ rfl C _ H7 hm m9 w9.right ((s6.trans (s8.trans s9)).trans ⟨λ_ _ h _=>h,λa ha=>.inl (by rw[kq];exact lr9 _ ha),λa ha=>.inl (by rw[qY];exact lr9 _ ha)⟩)
    rcases z4 f1 with⟨B4,kb,g1,g2⟩|⟨B4,cc,g1,g2⟩
    rotate_left
    ·exact⟨B2,LB2,_,mB2,wB3,g1,xcB g2 w4 ui,λE' s' z=>by cases z⟩
    refine⟨B2,LB2,_,mB2,wB3,g1,(λ_ _ z=>by cases z),λE' s' z LB4 H4 mB4 wB4 sB4 sm4=>?_⟩;injection z with z1 z2;subst z1 z2;obtain⟨w5,s5⟩:=stay w4 sB4 wB4;have lv:=ui.trans s5;cases kb with
    | false=>
     rw[Xd (by decide)]at g2 ⊢;exact⟨B4,LB4,mB4,w5,lv,g2,λhq=>⟨v8 (i4 hq).1 (sm4 hq),(i4 hq).2⟩⟩
    | true=>
     rw[X9 rfl]at g2 ⊢;rcases z4 g2 with⟨B6,y,g3,g4⟩|⟨B6,cc,g3,g4⟩
     rotate_left
     ·exact⟨B4,LB4,_,mB4,wB4,g3,xcB g4 w5 lv,λE' s' z=>by cases z⟩
     refine⟨B4,LB4,_,mB4,wB4,g3,(λ_ _ z=>by cases z),λE' s' z x LB6 H6 ex ey mB6 wB6 sB6 sm6=>?_⟩;injection z with z1 z2;subst z1 z2;obtain⟨w7,s7⟩:=stay w5 sB6 wB6;have pm3:((some x::LB6)++(acc.map some++(_root_.Q.clr R L1++T.map some))).Perm (LB6++((acc++[x]).map some++(_root_.Q.clr R L1++T.map some))):=by
      rw[Xp,List.cons_append];have:(LB6++(acc.map some++[x].map some++(_root_.Q.clr R L1++T.map some)))=(LB6++acc.map some)++some x::(_root_.Q.clr R L1++T.map some):=by simp
      rw[this];refine List.Perm.trans ?_ List.perm_middle.symm;rw[Xz]
     refine⟨B6,LB6,acc++[x],mB6,w7.perm pm3,(lv.trans s7).perm (List.Perm.refl _) pm3,by simp,by simp,?_,λhq=>⟨v8 (i4 hq).1 (v8 (sm4 hq) (sm6 hq).1),λb hb=>?_⟩⟩
     ·rw[Xp,show[x].map Sl.sd=[y]from by simp[Sl.sd,ex,ey]];exact g4
     ·rw[Xp,kq]at hb;rcases List.mem_append.mp hb with hb|hb
      ·exact(i4 hq).2 b hb
      ·have hb:b∈x.own:=by simpa using hb
       exact zZ (v8 (i4 hq).1 (sm4 hq)) ((sm6 hq).2 b hb)
theorem wz4(N:List Str)(hi:QI X Z q tg it iter)
  (hg:∀cl C s0 H0 fp,QG (lcE X scope N cl C s0 H0 fp Z.EX) Z ((List.range R.length).map (k + ·)) tt tg) (ht:∀cl C s0 H0 fp,PTs (lcE X scope N cl C s0 H0 fp Z.EX) em (tT Z q u)) (he:∀cl C s0 H0 fp,QE (lcE X scope N cl C s0 H0 fp Z.EX) Z q c f8)
  (gx:zX X Z.EX) (top:JW X) (hR:R.Nodup) (hr:∀j∈R,j<X.N.length) (hc:autoParam (X.calm=true) Ŕ) (hk:autoParam (scope.kind=.function) Ŕ) (m5:autoParam (W9 X.N X.env.scope scope N k R=true) Ŕ) (hs:autoParam (∀x,foldedSetIterable iter X.env x=pure x) Ŗ):
  QE X Z q (cLC o k R it tt u c) (.ListComp f8 [⟨tg,iter,em,0⟩] scope pos):=λpins s σ H Q I hw=>
 wkn (EX:=Z.EX) N k R (wz2 hi) hg ht he gx top hc hk m5 hs pins s σ H Q I (qz4 I.len hR hr hw)
theorem qx1{EX:XK}{wi:TI}{g:TG}{tte:TT}{te:TE}{i:Nat}{y:Str}{py gu:Pos}(N:List Str)(k:Nat)(R:List Nat)(hN:X.N.Nodup)(hy:X.N[i]?=some y)(hx:Loc X.env.scope y)(hi:PI X tg iter wi)
  (hg:∀cl C s0 H0 fp,PG (lcE X scope N cl C s0 H0 fp EX) tg g) (ht:∀cl C s0 H0 fp,PTs (lcE X scope N cl C s0 H0 fp EX) em tte) (he:∀cl C s0 H0 fp,PE (lcE X scope N cl C s0 H0 fp EX) f8 te) (gx:zX X EX) (top:JW X)
  (pd:autoParam (swapsWith (.ListComp f8 [⟨tg,iter,em,0⟩] scope pos) (some (.Name y py)) gu.line X.env=pure true) Ŕ)
  (hc:autoParam (X.calm=true) Ŕ) (hk:autoParam (scope.kind=.function) Ŕ) (m5:autoParam (W9 X.N X.env.scope scope N k R=true) Ŕ) (hs:autoParam (∀x,foldedSetIterable iter X.env x=pure x) Ŗ)
  (hf:autoParam (X.fn y=true\/X.env.scope.names.lookup y=some .local) ś):
  PS X (.Assign [.Name y py] (.ListComp f8 [⟨tg,iter,em,0⟩] scope pos) gu) (λD σ H=>tLC wi g tte te k R σ H λv H1=>D.nx (σ.set i (some v)) H1):=by
 intro pins s σ H D I h;have sc:=qkz hk m5;obtain⟨cl,lm,f9,b9⟩:=kvi (scope:=scope) (env:=X.env) λy hy e=>I.ok.has y.1 (sc.caps y hy e)
 rw[exec_Assign_Name_used _ _ _ _ pd];refine X0 (wpAny_standAt (X0 ?_));show wpAny _ X.A (do let _ <-comprehension (.ListComp f8 [⟨tg,iter,em,0⟩] scope pos) scope X.env _ (newList []) false (eval iter X.env) (some (assign (.Name y py) X.env))) _ _ s;refine X0 (thn (wpAny_comprehension_free (use:=some (assign (.Name y py) X.env)) (Q:=λ_ s'=>SP X pins D .next s') rfl hs lm sc.kind sc.names
  (thn (hi pins s σ H _ I h) λv s1 h1=>thn h1 λitv s2 h2=>?_)) λ_ s' hq=>X5 (X5 hq))
 obtain⟨it,fp,tn,J,H2,e,I2,T,b7,f2,W,w0,fb⟩:=h2;subst e;refine kz4 (EX:=EX) (RR:=λacc C=>compPost (model X.prog X.w) X.A X.xe (some (assign (.Name y py) X.env)) (λ_ s'=>SP X pins D .next s') acc C) hc top sc f9 b9 (hg cl) (ht cl) (he cl) I2 T b7 f2 w0 fb ?_ ?_
 rotate_left
 ·intro D' C s' ci σ' H' x T Cc fl hC t q;exact vvq gx I2 f2 hC t q
 intro L C oC m ys H' s' I' eC nC fC q;show wpAny _ X.A (assign (.Name y py) X.env (.ref L)) _ _ s';refine wpAny_assign_Name (kvq I' hN hy hx (v:=.ref L) rfl (λml I''=>?_) hf);have pC:=I''.pin (C,oC) (lr9 _ (lr9 _ (List.mem_singleton.mpr rfl)));refine⟨m,nC.at' λo e=>?_,λh' sb=>⟨_,_,I''.unpinned.turned (it:=C) (t':=ml.toks) (λb o hb e=>(sb.2 b hb).trans e) fC.1 fC.2.1 fC.2.2.2.1 fC.2.2.2.2.1 fC.2.2.2.2.2,q⟩⟩;rw[eC]at e;cases e;exact pC.1
theorem qjb{i:Nat}{y:Str}{py gu:Pos}(N:List Str)(hN:X.N.Nodup)(hy:X.N[i]?=some y)(hx:Loc X.env.scope y)(hi:QI X Z q tg it iter)
  (hg:∀cl C s0 H0 fp,QG (lcE X scope N cl C s0 H0 fp Z.EX) Z ((List.range R.length).map (k + ·)) tt tg) (ht:∀cl C s0 H0 fp,PTs (lcE X scope N cl C s0 H0 fp Z.EX) em (tT Z q u)) (he:∀cl C s0 H0 fp,QE (lcE X scope N cl C s0 H0 fp Z.EX) Z q c f8)
  (gx:zX X Z.EX) (top:JW X) (hR:R.Nodup) (hr:∀j∈R,j<X.N.length) (hp:autoParam (i∉pn) ŕ)
  (pd:autoParam (swapsWith (.ListComp f8 [⟨tg,iter,em,0⟩] scope pos) (some (.Name y py)) gu.line X.env=pure true) Ŕ)
  (hc:autoParam (X.calm=true) Ŕ) (hk:autoParam (scope.kind=.function) Ŕ) (m5:autoParam (W9 X.N X.env.scope scope N k R=true) Ŕ) (hs:autoParam (∀x,foldedSetIterable iter X.env x=pure x) Ŗ)
  (hf:autoParam (X.fn y=true\/X.env.scope.names.lookup y=some .local) ś):
  QS X Z pn (jk i (cLC o k R it tt u c)) (.Assign [.Name y py] (.ListComp f8 [⟨tg,iter,em,0⟩] scope pos) gu):=
 wk5 (q:=q) hp λpins s σ H D I hw=>qx1 N k R hN hy hx (wz2 hi) hg ht he gx top pd hc hk m5 hs hf pins s σ H D I (qz4 I.len hR hr hw)
end
end
section
variable {X:Cx}{Z:Fx0}{K:PySem.W.Frag}{pn:List Nat}{q qa qb:Bool}{a b c:Ex}{u:Ts}{tg e ea eb:Expr}{σ:L2.St}{H:Hp}{L:Ls}{E:En}{pos p:Pos}{x:Str}{id T:String}{r:List V->Hp->VK->Prop}{f:Sd->Option Sd}{g:Sd->Sd->Option Sd}
theorem vkp:PTs X [] (tT Z q _root_.Q.tYes):=λpins s σ H Q I ai=>ex8 ai λE L r m w hc xc k=>by
 cases oq9 hc;exact vwr pins s σ H Q I (k _ _ rfl L H m w Step.refl λ_=>zQ)
theorem vwk(h:QT X Z q u e):PTs X [e] (tT Z q u):=vwq h
theorem wvl(hc:CallR X (.builtin id) r)(ad:Ad1 Z.K (λv H Q=>r [v] H Q) f)(ha:QV X Z q a ea)(hm:X.mg x=none)(hv:bootBuiltins x=some (.builtin id))(hg:autoParam (Gl X x) Ŕ)(hn:autoParam (x≠"__name__") ŕ)(fy:autoParam ((x==("__debug__":Str))=false) ŕ)
  (he:autoParam (starEach [ea] X.env=(false,eval ea X.env)::starEach [] X.env) Ŕ) (cg:autoParam ((backTo pos (starEach [] X.env)).any (·.1)=false) Ŕ):QE X Z q (cF1 f a) (.Call (.Name x p) [ea] [] pos):=
 vx (kw2 hc hg hm hv (xQ ha zw he) hn fy he cg) fun σ H Q h=>kk5 (r:=λv H Q=>r [v] H Q) ad h
theorem Jk(hc:CallR X (.type T) r)(ad:Ad1 Z.K (λv H Q=>r [v] H Q) f)(ha:QV X Z q a ea)(hm:X.mg x=none)(hv:bootBuiltins x=some (.type T))(hg:autoParam (Gl X x) Ŕ)(hn:autoParam (x≠"__name__") ŕ)(fy:autoParam ((x==("__debug__":Str))=false) ŕ)
  (he:autoParam (starEach [ea] X.env=(false,eval ea X.env)::starEach [] X.env) Ŕ) (cg:autoParam ((backTo pos (starEach [] X.env)).any (·.1)=false) Ŕ):QE X Z q (cF1 f a) (.Call (.Name x p) [ea] [] pos):=
 vx (qxa hc hg hm hv (xQ ha zw he) hn fy he cg) fun σ H Q h=>kk5 (r:=λv H Q=>r [v] H Q) ad h
theorem wz5(hc:CallR X (.builtin id) r)(ad:Ad2 Z.K (λv w H Q=>r [v,w] H Q) g)(ha:QV X Z q a ea)(hb:QV X Z true b eb)(hm:X.mg x=none)(hv:bootBuiltins x=some (.builtin id))(hg:autoParam (Gl X x) Ŕ)(hn:autoParam (x≠"__name__") ŕ)(fy:autoParam ((x==("__debug__":Str))=false) ŕ)
  (he:autoParam (starEach [ea,eb] X.env=(false,eval ea X.env)::starEach [eb] X.env) Ŕ) (ri:autoParam (starEach [eb] X.env=(false,eval eb X.env)::starEach [] X.env) Ŕ) (cg:autoParam ((backTo pos (starEach [eb] X.env)).any (·.1)=false) Ŕ):QE X Z q (cF2 g a b) (.Call (.Name x p) [ea,eb] [] pos):=
 vx (kw2 hc hg hm hv (xQ ha (xQ hb zw ri) he) hn fy he cg) fun σ H Q h=>kk4 (r:=λv w H Q=>r [v,w] H Q) ad h
theorem wv9:Ad1 K (λv H Q=>qwq K [v] H Q) (pu1 kY):=by
 intro H x s Q ok hf k;unfold pu1 at hf;have fin:∀n:Nat,kY x.d=some (.int n)->Q (.int n) H:=λn e=>by
  rw[show(x.o,x.d).2=x.d from rfl,e]at hf;cases oq9 hf;exact k ⟨.dp,.int n,.int n,[]⟩ H rfl rfl Kk
 cases hx:x.d with
 |lst ds=>
  obtain⟨l,xs,bs,e,q,r,_⟩:=items ok (.inl hx);refine .inl ⟨l,xs,by rw[e],?_,by rw[<-r.len];exact fin ds.length (by rw[hx];rfl)⟩;rcases q with⟨_,z⟩|⟨_,z⟩
  ·exact .inl (KJ z)
  ·exact .inr z
 |tup ds=>
  obtain⟨l,xs,bs,e,q,r,_⟩:=items ok (.inr hx);refine .inl ⟨l,xs,by rw[e],?_,by rw[<-r.len];exact fin ds.length (by rw[hx];rfl)⟩;rcases q with⟨_,z⟩|⟨_,z⟩
  ·exact .inl (KJ z)
  ·exact .inr z
 |str z=>
  obtain⟨e,hz⟩:=z9 ok hx;exact .inr (.inl ⟨z,by rw[e],hz,fin z.length (by rw[hx];rfl)⟩)
 |_=>rw[show(x.o,x.d).2=x.d from rfl,hx]at hf;cases hf
noncomputable def vwi(K:PySem.W.Frag):List V->Hp->VK->Prop:=λxs H Q=>wxz K xs H Q\/(∃p ys U,xs=[.ref p,.ty U]/\SqT K H p ys/\U∈kinds.tail/\Q (.bl (wqo "tuple" U)) H)\/∃p ys U,xs=[.ref p,.ty U]/\SqL K H p ys/\U∈kinds.tail/\Q (.bl (wqo "list" U)) H
theorem vjl(hK:autoParam (X.K=K) Ŕ):CallR X (.builtin "isinstance") (vwi K):=by
 subst hK;intro pins s σ H xs us Q I r h;rcases h with h|⟨p,ys,U,rfl,hq,hU,q⟩|⟨p,ys,U,rfl,hq,hU,q⟩
 ·exact vv1 pins s σ H xs us Q I r h
 ·obtain⟨u,w',rfl,r1,r2⟩:=qw7 r;cases(show w'=Value.type U from r2);cases r1;obtain⟨aa,_,⟨o,h1,h2,_⟩,_⟩:=I.tuple hq;exact Y6 PySem.W.kitx_tuple I.kIn ⟨o,h1,h2⟩ (qju (T:="tuple") (by decide) hU) (λz=>nomatch z) λtk=>⟨.bl _,H,I.tok _,rfl,q⟩
 ·obtain⟨u,w',rfl,r1,r2⟩:=qw7 r;cases(show w'=Value.type U from r2);cases r1;obtain⟨aa,_,⟨o,n,h1,h2,_⟩,_⟩:=I.list hq;exact Y6 PySem.W.kitx_list I.kIn ⟨o,h1,h2⟩ (qju (T:="list") (by decide) hU) (λz=>nomatch z) λtk=>⟨.bl _,H,I.tok _,rfl,q⟩
theorem wva{U:String}(hU:U∈kinds.tail):Ad1 K (λv H Q=>vwi K [v,.ty U] H Q) (pu1 (Qk U)):=by
 intro H x s Q ok hf k;unfold pu1 Qk at hf;have fin:∀(T:String),kind x.d=T->(∀c f,x.d≠.obj c f)->Q (.bl (wqo T U)) H:=λT e ho=>by
  cases hx:x.d with
  |obj c f=>exact absurd hx (ho c f)
  |dct kvs=>rw[show(x.o,x.d).2=x.d from rfl,hx]at hf;cases hf
  |_=>
   rw[show(x.o,x.d).2=x.d from rfl,hx]at hf;cases oq9 hf;rw[<-e,hx];exact k ⟨.dp,.bl _,.bl _,[]⟩ H rfl rfl xY
 cases hx:x.d with
 |non=>exact .inl ⟨x.v,"NoneType",U,rfl,by rw[vvl ok hx];exact .non,by decide,hU,fin _ (by rw[hx];rfl) (by rw[hx];exact λ_ _ z=>nomatch z)⟩
 |bl k=>exact .inl ⟨x.v,"bool",U,rfl,by rw[Wj ok hx];exact .bl _,by decide,hU,fin _ (by rw[hx];rfl) (by rw[hx];exact λ_ _ z=>nomatch z)⟩
 |int k=>exact .inl ⟨x.v,"int",U,rfl,by rw[vw ok hx];exact .int _,by decide,hU,fin _ (by rw[hx];rfl) (by rw[hx];exact λ_ _ z=>nomatch z)⟩
 |str k=>exact .inl ⟨x.v,"str",U,rfl,by rw[(z9 ok hx).1];exact .str _,by decide,hU,fin _ (by rw[hx];rfl) (by rw[hx];exact λ_ _ z=>nomatch z)⟩
 |lst ds=>
  obtain⟨l,xs,bs,e,q,r,_⟩:=items ok (.inl hx);have f:=fin "list" (by rw[hx];rfl) (by rw[hx];exact λ_ _ z=>nomatch z);rcases q with⟨_,z⟩|⟨z,_⟩
  ·exact .inr (.inr ⟨l,xs,U,by rw[e],z.sq,hU,f⟩)
  ·rw[hx]at z;cases z
 |tup ds=>
  obtain⟨l,xs,bs,e,q,r,_⟩:=items ok (.inr hx);have f:=fin "tuple" (by rw[hx];rfl) (by rw[hx];exact λ_ _ z=>nomatch z);rcases q with⟨z,_⟩|⟨_,z⟩
  ·rw[hx]at z;cases z
  ·exact .inr (.inl ⟨l,xs,U,by rw[e],z,hU,f⟩)
 |dct kvs=>
  rw[show(x.o,x.d).2=x.d from rfl,hx]at hf;cases hf
 |obj c f=>
  rw[show(x.o,x.d).2=x.d from rfl,hx]at hf;cases hf
theorem vkr{U:String}{y:Str}{p2:Pos}(ha:QV X Z q a ea)(hm:X.mg "isinstance"=none)(hmy:X.mg y=none)(hy:bootBuiltins y=some (.type U))(hK:X.K=Z.K)(hU:autoParam (U∈kinds.tail) ŕ)(hg:autoParam (Gl X "isinstance") Ŕ)(hgy:autoParam (Gl X y) Ŕ)(hny:autoParam (y≠"__name__") ŕ)(kh:autoParam ((y==("__debug__":Str))=false) ŕ)
  (he:autoParam (starEach [ea,.Name y p2] X.env=(false,eval ea X.env)::starEach [.Name y p2] X.env) Ŕ) (ri:autoParam (starEach [.Name y p2] X.env=(false,eval (.Name y p2) X.env)::starEach [] X.env) Ŕ) (cg:autoParam ((backTo pos (starEach [.Name y p2] X.env)).any (·.1)=false) Ŕ):
  QE X Z q (cF1 (pu1 (Qk U)) a) (.Call (.Name "isinstance" p) [ea,.Name y p2] [] pos):=
 vx (kw2 (vjl hK) hg hm kwu (xQ ha (xQ (vx8 (v:=.ty U) hgy hmy hy rfl hny kh) zw ri) he) (by decide) (by decide) he cg) fun σ H Q h=>kk5 (r:=λv H Q=>vwi Z.K [v,.ty U] H Q) (wva hU) h
theorem qqp:Ad1 K (λv H Q=>qwr [v] H Q) (pu1 J0):=by
 intro H x s Q ok hf k;unfold pu1 J0 at hf;dsimp only at hf
 split at hf
 ·rename_i i e;cases oq9 hf;exact .inl ⟨i,by rw[vw ok e],k ⟨.dp,.int _,.int _,[]⟩ H rfl rfl Kk⟩
 ·rename_i i e;cases oq9 hf;exact .inr (.inl ⟨i,by rw[Wj ok e],k ⟨.dp,.int _,.int _,[]⟩ H rfl rfl Kk⟩)
 ·rename_i z e
  split at hf
  ·rename_i hz;cases ht:PySem.intText? z with
   |none=>rw[ht]at hf;cases hf
   |some n=>
    rw[ht]at hf;cases oq9 hf;exact .inr (.inr ⟨z,n,by rw[(z9 ok e).1],ht,hz,k ⟨.dp,.int _,.int _,[]⟩ H rfl rfl Kk⟩)
  ·cases hf
 ·cases hf
theorem kqb:Ad1 K (λv H Q=>qwp K [v] H Q) V8:=by
 intro H x s Q ok hf k;unfold V8 at hf;dsimp only at hf
 split at hf
 ·rename_i ds e
  split at hf
  ·rename_i hl;cases oq9 hf;obtain⟨l,xs,bs,ev,q3,r3,h3⟩:=J4 ok (.inl e) hl;have q3:LsR K H l xs:=by rcases q3 with⟨_,z⟩|⟨z,_⟩;exact z;rw[e]at z;cases z
   exact⟨l,xs,by rw[ev],.inl (KJ q3),λp hp=>k ⟨.rt,.lst ds,.ref p,p::bs⟩ _ rfl rfl (Q4 hp r3 h3)⟩
  ·cases hf
 ·rename_i ds e
  split at hf
  ·rename_i hl;cases oq9 hf;obtain⟨l,xs,bs,ev,q3,r3,h3⟩:=J4 ok (.inr e) hl;have q3:SqT K H l xs:=by rcases q3 with⟨z,_⟩|⟨_,z⟩;rw[e]at z;cases z;exact z
   exact⟨l,xs,by rw[ev],.inr q3,λp hp=>k ⟨.rt,.lst ds,.ref p,p::bs⟩ _ rfl rfl (Q4 hp r3 h3)⟩
  ·cases hf
 ·cases hf
noncomputable def qkp(K:PySem.W.Frag):List V->Hp->VK->Prop:=λxs H Q=>∃p ys,xs=[.ref p]/\((SqL K H p ys/\∀l,H l=none->Q (.ref l) (upd H l (.tup ys)))\/(SqT K H p ys/\Q (.ref p) H))
theorem vjn(hK:X.K=K):CallR X (.type "tuple") (qkp K):=by subst hK;exact kws
theorem vv4:Ad1 K (λv H Q=>qkp K [v] H Q) z3:=by
 intro H x s Q ok hf k;unfold z3 at hf;dsimp only at hf
 split at hf
 ·rename_i ds e
  split at hf
  ·rename_i hl;cases oq9 hf;obtain⟨l,xs,bs,ev,q3,r3,h3⟩:=J4 ok (.inl e) hl;have q3:LsR K H l xs:=by rcases q3 with⟨_,z⟩|⟨z,_⟩;exact z;rw[e]at z;cases z
   exact⟨l,xs,by rw[ev],.inl ⟨KJ q3,λp hp=>k ⟨.no,.tup ds,.ref p,bs⟩ _ rfl rfl (kkl hp r3 h3)⟩⟩
  ·cases hf
 ·rename_i ds e
  split at hf
  ·rename_i hl;cases oq9 hf;obtain⟨l,xs,bs,ev,q3,r3,h3⟩:=J4 ok (.inr e) hl;have q3:SqT K H l xs:=by rcases q3 with⟨z,_⟩|⟨_,z⟩;rw[e]at z;cases z;exact z
   refine⟨l,xs,by rw[ev],.inr ⟨q3,k ⟨.no,.tup ds,.ref l,bs⟩ H rfl rfl ⟨zQ,?_,λb hb=>(nomatch hb),Xx,λb hb=>h3 b hb⟩⟩⟩;show RepL K H true (.tup ds) (.ref l) bs;unfold RepL;exact⟨l,xs,rfl,q3,r3⟩
  ·cases hf
 ·cases hf
theorem wvb{h:Int->Int->Int}{f:Int->Int->Option Int}(hh:∀i j,f i j=some (h i j)):Ad2 K (λv w H Q=>(λxs H Q=>∃i j,xs=[.int i,.int j]/\Q (.int (h i j)) H:List V->Hp->VK->Prop) [v,w] H Q) (pu2 (i2 f)):=by
 intro H x y s Q ox oy hf k;unfold pu2 i2 at hf;dsimp only at hf
 split at hf
 ·rename_i i j e1 e2;rw[hh]at hf;cases oq9 hf;exact⟨i,j,by rw[vw ox e1,vw oy e2],k ⟨.dp,.int _,.int _,[]⟩ H rfl rfl Kk⟩
 ·cases hf
theorem QJ{g:Int->Int->Bool}:∀x y s,pu2 (c2 g) x y=some s->∃k,s.2=.bl k:=by
 intro x y s h;unfold pu2 c2 at h
 split at h
 ·cases oq9 h;exact⟨_,rfl⟩
 ·cases h
theorem xw:∀x y s,pu2 fEq x y=some s->∃k,s.2=.bl k:=by
 intro x y s h;unfold pu2 fEq at h
 split at h
 ·cases oq9 h;exact⟨_,rfl⟩
 ·cases h
theorem ZJ:∀x y s,pu2 fNe x y=some s->∃k,s.2=.bl k:=by
 intro x y s h;unfold pu2 fNe at h
 split at h
 ·cases oq9 h;exact⟨_,rfl⟩
 ·cases h
theorem vvu{x y d:D}(h:fIn x y=some d):∃k,d=.bl k:=by
 unfold fIn at h
 split at h
 ·split at h
  ·cases oq9 h;exact⟨_,rfl⟩
  ·cases h
 ·split at h
  ·cases oq9 h;exact⟨_,rfl⟩
  ·cases h
 ·split at h
  ·cases oq9 h;exact⟨_,rfl⟩
  ·cases h
 ·cases oq9 h;exact⟨_,rfl⟩
 ·cases h
theorem vv2:∀x y s,pu2 JZ x y=some s->∃k,s.2=.bl k:=by
 intro x y s h;unfold pu2 JZ at h
 split at h
 ·cases h
 ·cases hf:fIn x.2 y.2 with
  |none=>rw[hf]at h;cases h
  |some d=>
   rw[hf]at h;cases oq9 h;exact vvu hf
theorem jxl:∀x y s,pu2 wW x y=some s->∃k,s.2=.bl k:=by
 intro x y s h;unfold pu2 wW Wx at h
 split at h
 ·cases h
 ·cases hf:fIn x.2 y.2 with
  |none=>rw[hf]at h;cases h
  |some d=>
   obtain⟨k,rfl⟩:=vvu hf;rw[hf]at h;cases oq9 h;exact⟨_,rfl⟩
theorem QK:∀x y s,f2First fIsNon x y=some s->∃k,s.2=.bl k:=by
 intro x y s h;unfold f2First fIsNon at h
 split at h
 ·cases oq9 h;exact⟨_,rfl⟩
 ·cases h
theorem kq9:∀x y s,f2First fNotNon x y=some s->∃k,s.2=.bl k:=by
 intro x y s h;unfold f2First fNotNon at h
 split at h
 ·cases oq9 h;exact⟨_,rfl⟩
 ·cases h
theorem qk8:∀{xs:List V} {us:List Value},xs.length=us.length->(∀(i:Nat) (x:V) (u:Value),xs[i]?=some x->us[i]?=some u->RelV x u)->Vals xs us
 |[],[],_,_=>.nil
 |[],_::_,h,_=>by simp at h
 |_::_,[],h,_=>by simp at h
 |x::xs,u::us,h,f=>.cons (f 0 x u (by simp) (by simp)) (qk8 (by simpa using h) λi x u e1 e2=>f (i+1) x u (by simpa using e1) (by simpa using e2))
theorem vkq{p2 ju:Pos}(ha:QV X Z q a ea)(hmr:X.mg "range"=none)(hml:X.mg "list"=none)(hc:autoParam (X.calm=true) Ŕ)(hgr:autoParam (Gl X "range") Ŕ)(hgl:autoParam (Gl X "list") Ŕ)
  (ao:autoParam (starEach [ea] X.env=(false,eval ea X.env)::starEach [] X.env) Ŕ) (cg:autoParam ((backTo ju (starEach [] X.env)).any (·.1)=false) Ŕ)
  (jy:autoParam (starEach [.Call (.Name "range" p2) [ea] [] ju] X.env=(false,eval (.Call (.Name "range" p2) [ea] [] ju) X.env)::starEach [] X.env) Ŕ) (hpl2:autoParam ((backTo pos (starEach [] X.env)).any (·.1)=false) Ŕ):
  QE X Z q (W0 a) (.Call (.Name "list" p) [.Call (.Name "range" p2) [ea] [] ju] [] pos):=by
 have hr:PE X (.Call (.Name "range" p2) [ea] [] ju) (fun σ H Q=>tV Z q a σ H λv H1=>∃j:Int,v=.int j/\∀pp,H1 pp=none->Q (.ref pp) (upd H1 pp (.rng 0 j))):=by
  intro pins s σ H Q I h;refine Call_ (Vv I hgr hmr boot_range (Y8 (thn (xQ ha zw ao ju pins s σ H (λvs H1=>∃j:Int,vs=[.int j]/\∀pp,H1 pp=none->Q (.ref pp) (upd H1 pp (.rng 0 j))) I ?_) λus s1 ⟨vs,H1,I1,r1,j,e,q1⟩=>?_) ao cg))
  ·obtain⟨E,L,r,m,w,gp,xc,k⟩:=h;exact⟨E,L,r,m,w,gp,xc,λE' s' z x L' H' e1 e2 m' w' ok fr sr st sm=>by
    obtain⟨j,ej,qj⟩:=k E' s' z x L' H' e1 e2 m' w' ok fr sr st sm;exact⟨j,by rw[ej],qj⟩⟩
  ·subst e;obtain⟨u,rfl,t,rfl⟩:=r1.one;refine call_range_1 ⟨.ref s1.heap.objs.size,_,I1.laid (o:=.rng 0 j) (λb o e=>X6 _ e) (X8 _) ⟨_,_,_,Xj _ rfl⟩,rfl,q1 _ I1.fresh⟩
 intro pins s σ H Q I ⟨E,L,r,m,w,gp,xc,k⟩;refine wpAny_Call_Name_kw (Vv I hgl hml W4 ?_);refine Y8 (thn (xQ hr zw jy pos pins s σ H (λvs H1=>∃pp j,vs=[.ref pp]/\H1 pp=some (.rng 0 j)/\vQ j=true/\j.toNat<=big/\∀l,H1 l=none->Q (.ref l) (upd H1 l (.lst ((List.range j.toNat).map λ(i:Nat)=>V.int (0+(i:Int)))))) I ?_) λus s1 ⟨vs,H1,I1,r1,pp,j,e,hp,h62,hbig,q1⟩=>?_) jy hpl2
 ·refine x9 m w (show bnd (a E) _=some r from gp) xc λE1 s h1 x L1 H1 e1 e2 m1 w1 ok fr sr st sm=>?_
  cases hx:s.2 with
  | int j=>
   rw [hx]at h1;dsimp only at h1
   split at h1
   ·rename_i hj;cases oq9 h1;refine⟨j,vw ok (e2.trans hx),λpp hpp=>⟨pp,j,rfl,xJ,hj.1,hj.2,λl hl=>?_⟩⟩;have s1:kJ H1 (upd H1 pp (.rng 0 j)):=wY hpp;have w2:World Z.K (upd H1 pp (.rng 0 j)) L1:=⟨λx hx=>RepO.kp (w1.ok x hx) (Kp.of_same s1),w1.nd,w1.ds⟩;have b7:Step H L (upd H1 pp (.rng 0 j)) L1:=st.trans ⟨λb ob z _=>s1 b ob z,λb z=>.inl z,λb z=>.inl z⟩;have ra:∀(n:Nat) (ns:List Nat) (Hx:Hp),RepA Z.K Hx true (ns.map λ(i:Nat)=>D.int (0+(i:Int))) (ns.map λ(i:Nat)=>V.int (0+(i:Int))) []:=by
     intro n ns Hx
     induction ns with
     |nil=>unfold RepA;exact⟨rfl,rfl⟩
     |cons i ns ih=>
      rw[List.map_cons,List.map_cons];unfold RepA;exact⟨_,_,[],[],rfl,rfl,V1,ih⟩
    have o:=Q4 (K:=Z.K) (H:=upd H1 pp (.rng 0 j)) (fr:=[]) hl (ra 0 (List.range j.toNat) (upd H1 pp (.rng 0 j))) (λ_ z=>(nomatch z));obtain⟨w3,cw⟩:=Vj w2 b7 o (λ_ z=>(nomatch z)) (λ_ z=>(nomatch z)) (λ_ z=>(nomatch z));refine k _ _ rfl ⟨.rt,.lst (jQ 0 j),.ref l,[l]⟩ L1 _ rfl rfl m1 (by simpa [jQ]using w3) (by simpa [jQ]using cw) λhq=>⟨v8 (sm hq) (v8 s1 o.same),λb hb=>?_⟩
    have:b=l:=by simpa [Sl.own]using hb
    subst this;exact zZ (v8 (sm hq) s1) hl
   ·cases h1
  | _=>rw[hx]at h1;cases h1
 ·subst e;obtain⟨u,rfl,rx⟩:=r1.one;cases rx;obtain⟨t1,t2,t3,hg⟩:=(show ObjOk X.prog X.w H1 s1.heap pp (.rng 0 j)from I1.hok pp _ hp);obtain⟨j1,j2⟩:=jxd h62;have e2:Builtin.Range.rangeSize 0 j 1=((j.toNat:Nat):Int):=by rw[rangeSize_one];split<;>omega
  refine call_list_range (n:=j.toNat) (I1.ok.hd hc) (show IsRange s1.heap pp 0 j 1 t1 t2 t3 from hg) (small_one (by omega) (by omega) j1 j2) e2 hbig λh' tk gc c' kp e4 rm=>?_
  obtain⟨hs,lw⟩:=rm;have hv:Vals ((List.range j.toNat).map λ(i:Nat)=>V.int (0+(i:Int))) gc.toList:=qk8 (by simp[hs]) λi x u ex eu=>by
   rw[Yp]at eu;obtain⟨t,rfl⟩:=lw i u eu;rw[Xg]at ex;cases hr:(List.range j.toNat)[i]? with
   | none=>rw[hr]at ex;cases ex
   | some m=>
    rw[hr]at ex;have hm:m=i:=by
     obtain⟨_,h2⟩:=List.getElem?_eq_some_iff.mp hr
     simpa using h2.symm
    subst hm;cases oq9 ex;exact⟨t,by rw[Int.mul_one]⟩
  refine⟨.ref s1.heap.objs.size,_,I1.laid (a:=s1.heap.objs.size) (o:=.lst ((List.range j.toNat).map λ(i:Nat)=>V.int (0+(i:Int)))) (t':=tk) kp (X8 _) ⟨by rw[X4,Z4];exact hbig,gc.toList,c',hv,by simpa using e4⟩,rfl,q1 _ I1.fresh⟩
end
end Q
namespace Q
open PySem
def qwj:Sm:=λ_=>none
noncomputable def JK(n d:Nat):Option Int->Nat
 |none=>d
 |some v=>if v<0 then(v+(n:Int)).toNat else min v.toNat n
noncomputable def K4(xs:List D)(lo hi:Option Int):List D:=(xs.drop (JK xs.length 0 lo)).take (JK xs.length xs.length hi - JK xs.length 0 lo)
noncomputable def fSl:Sd->Option Int->Option Int->Option Sd:=λx lo hi=>match x.2 with
 |.lst xs=>if v5 x then some (.rt,.lst (K4 xs lo hi))else none
 |.tup xs=>if v5 x/\¬(JK xs.length 0 lo=0/\JK xs.length xs.length hi=xs.length)then some (.no,.tup (K4 xs lo hi))else none
 |.str z=>if(Txt.slice z lo hi).length<=big then some (.dp,.str (Txt.slice z lo hi))else none
 |_=>none
noncomputable def XJ:Option Ex->Ev (Option Int)
 |none,E=>some (.ok E none)
 |some c,E=>bnd (c E) λE x=>match x.2 with
  |.int i=>some (.ok E (some i))
  |_=>none
noncomputable def cSl(a:Ex)(lo hi:Option Ex):Ex:=λE=>bnd (a E) λE x=>bnd (XJ lo E) λE l=>bnd (XJ hi E) λE h=>val E (fSl x l h)
noncomputable def zq:Nat->List D->List D
 |_,[]=>[]
 |k,d::ds=>.tup [.int k,d]::zq (k+1) ds
noncomputable def lstOf:D->Option (List D)
 |.lst xs=>some xs
 |_=>none
noncomputable def wqn(c:Ex):Ev (List D):=λE=>bnd (c E) λE x=>val E ((lstOf x.2).map (zq 0))
noncomputable def K9:List D->Option (List Str)
 |[]=>some []
 |.str z::ds=>(K9 ds).map (z :: ·)
 |_=>none
noncomputable def Wk:List D->Option (List Int)
 |[]=>some []
 |.int z::ds=>(Wk ds).map (z :: ·)
 |_=>none
noncomputable def QX(a:Str):List Str->List Str
 |[]=>[a]
 |b::r=>if Spec.ltCps b.cps.toList a.cps.toList then b::QX a r else a::b::r
noncomputable def K0:List Str->List Str
 |[]=>[]
 |a::r=>QX a (K0 r)
noncomputable def insI(a:Int):List Int->List Int
 |[]=>[a]
 |b::r=>if b<a then b::insI a r else a::b::r
noncomputable def WZ:List Int->List Int
 |[]=>[]
 |a::r=>insI a (WZ r)
noncomputable def kq2:Sd->Option Sd:=λx=>match x.2 with
 | .lst ds=>(match K9 ds with
  |some ss=>if ss.length<64 then some (.rt,.lst ((K0 ss).map .str))else none
  |none=>(match Wk ds with
   |some is=>if is.length<64 then some (.rt,.lst ((WZ is).map .int))else none
   |none=>none))
 |_=>none
noncomputable def kve:D->D->Option D:=λxs x=>match xs with
 |.lst ys=>if x.flat 30&&D.flats 30 ys then(ys.findIdx? λz=>peq z x).map λ(j:Nat)=>D.int (j:Int)else none
 |.tup ys=>if x.flat 30&&D.flats 30 ys then(ys.findIdx? λz=>peq z x).map λ(j:Nat)=>D.int (j:Int)else none
 |_=>none
noncomputable def isSq:D->Bool
 |.lst _=>true
 |.tup _=>true
 |_=>false
noncomputable def W5(a b:Ex):Ex:=λE=>bnd (a E) λE x=>if isSq x.2 then bnd (b E) λE y=>val E (pu2 kve x y)else none
noncomputable def cPop(i:Nat)(c:Ex):Ex:=λE=>if vqj E[i]? then bnd (c E) λE x=>match E[i]?,x.2 with
 | some (some (o,.lst xs)),.int k=>if o=.no then none else(match ixN xs.length k with
  |some j=>(match xs[j]? with
   |some d=>if d.pure&&vQ k then some (.ok (E.set i (some (o,.lst (xs.eraseIdx j)))) (.dp,d))else none
   |none=>none)
  |none=>none)
 |_,_=>none
 else none
noncomputable def jX:Sd->Sd->Option Sd:=λx y=>match x.2,y.2 with
 |.tup a,.int k=>if -(2 ^ 63)<=k/\k<2 ^ 63/\a.length*k.toNat<=big/\v5 x then some (.no,.tup (List.replicate k.toNat a).flatten)else none
 |_,_=>zY x y
def wx0:D->Bool
 |.tup _=>true
 |_=>false
def vW(x:D):Bool:=k7 6 x&&wx0 x
noncomputable def Wz:D->D->Option D:=λx y=>match y with
 |.dct kvs=>if vW x=true/\unm kvs=true then some (.bl (!decide (x∈kvs.map (·.1))))else none
 |_=>none
def vzp:Ex:=λE=>some (.ok E (.rt,.dct []))
noncomputable def K5(kvs:List (D×D))(k v:D):List (D×D):=if k∈kvs.map (·.1)then kvs.map λe=>if e.1=k then(k,v)else e else kvs++[(k,v)]
noncomputable def vxx:Option (Option Sd)->Bool
 |some (some (.rt,.dct _))=>true
 |_=>false
noncomputable def vkm(i:Nat)(kc vc:Ex):Sm:=λE=>ofE (vc E) λE v=>if vxx E[i]?=true then ofE (kc E) λE k=>match E[i]? with
 |some (some (.rt,.dct kvs))=>if vW k.2=true/\kvs.length<big/\unm kvs=true then some (.nx (E.set i (some (.rt,.dct (K5 kvs k.2 v.2)))))else none
 |_=>none
 else none
noncomputable def vjq(kc vc:Ex):Ex:=λE=>bnd (kc E) λE k=>bnd (vc E) λE v=>if vW k.2=true then some (.ok E (.rt,.dct [(k.2,v.2)]))else none
noncomputable def XQ:Sd->Option Sd:=λx=>match x.2 with
 |.dct kvs=>if kvs.length<=big/\unm kvs=true then some (.rt,.lst (kvs.map (·.1)))else none
 |_=>none
noncomputable def kwh(c:Ex):Ev (List D):=λE=>bnd (c E) λE x=>val E (match x.2 with
 |.dct kvs=>if kvs.length<=big/\unm kvs=true then some (kvs.map λe=>.tup [e.1,e.2])else none
 |_=>none)
end Q
namespace Q
open PySem
noncomputable def wxb(z:Str):D->Option D:=λd=>match d with
 |.lst ds=>(match K9 ds with
  |some ys=>if(ys.map (·.length)).sum+ys.length*z.length<=100000 then some (.str (Txt.join z ys))else none
  |none=>none)
 |_=>none
noncomputable def wxg(z:Str)(c:Ex):Ex:=λE=>bnd (c E) λE x=>val E ((wxb z x.2).map λd=>(.dp,d))
end Q
namespace Q
open PySem
noncomputable def D.at:List Nat->D->Option D
 |[],d=>some d
 |n::p,.tup ds=>match ds[n]? with
  |some d=>D.at p d
  |none=>none
 |n::p,.lst ds=>match ds[n]? with
  |some d=>D.at p d
  |none=>none
 |_::_,_=>none
noncomputable def D.put(d':D):List Nat->D->D
 |[],_=>d'
 |n::p,.tup ds=>match ds[n]? with
  |some d=>.tup (ds.set n (D.put d' p d))
  |none=>.tup ds
 |n::p,.lst ds=>match ds[n]? with
  |some d=>.lst (ds.set n (D.put d' p d))
  |none=>.lst ds
 |_::_,d=>d
noncomputable def Zx:D->Option D
 |.dct kvs=>if unm kvs=true then some (.int kvs.length)else none
 |_=>none
noncomputable def wvo:Option (Option Sd)->Bool
 |some (some (.rt,.dct kvs))=>unm kvs
 |_=>false
noncomputable def xx(kvs:List (D×D))(k:D):Option D:=(kvs.find? λp=>decide (p.1=k)).map (·.2)
noncomputable def vjp(i:Nat)(kc vc:Ex):Ex:=λE=>if wvo E[i]?=true then bnd (kc E) λE k=>bnd (vc E) λE v=>(match E[i]? with
 |some (some (.rt,.dct kvs))=>if vW k.2=true/\kvs.length<big/\unm kvs=true/\v.2.pure=true/\D.pures (kvs.map (·.2))=true then(match xx kvs k.2 with
  |some d=>some (.ok E (.dp,d))
  |none=>some (.ok (E.set i (some (.rt,.dct (kvs++[(k.2,v.2)])))) (.dp,v.2)))else none
 |_=>none)else none
noncomputable def kzl(f:Fn)(i:Nat)(cs:List Ex):Ex:=λE=>bnd (wj cs E) λE xs=>match E[i]? with
 | some (some x)=>(match f (letAll xs++[x])with
  |some (.ok E' y)=>(match E'[xs.length]? with
   |some (some x')=>some (.ok (E.set i (some x')) y)
   |_=>none)
  |some (.exc _ c)=>some (.exc (E.set i none) c)
  |none=>none)
 |_=>none
noncomputable def WV(i:Nat):Sm:=λE=>match E[i]? with
 |some (some (.rt,.lst ds))=>some (.nx (E.set i (some (.rt,.lst ds.reverse))))
 |_=>none
end Q
namespace Q
open PySem PySem.Spec PyProof.Rows L2 L3
section
variable {X:Cx}{Z:Fx0}{K:PySem.W.Frag}{pn:List Nat}{q qa qb:Bool}{a b c:Ex}{u:Ts}{tg e ea eb:Expr}{st:Stmt}{σ:L2.St}{H:Hp}{L:Ls}{E:En}{pos p p2:Pos}{x:Str}
theorem wk0:QS X Z pn qwj st:=λpins s σ H D I ai=>ex7 ai λE L r m w hc k=>by cases hc
theorem kkv(a:Str):∀r,(QX a r).Perm (a::r)
 |[]=>List.Perm.refl _
 |b::r=>by
  unfold QX
  split
  ·exact((kkv a r).cons b).trans (List.Perm.swap ..)
  ·exact List.Perm.refl _
theorem jvw:∀r,(K0 r).Perm r
 |[]=>List.Perm.refl _
 |a::r=>(kkv a _).trans ((jvw r).cons a)
noncomputable def leS(a b:Str):Prop:=Spec.ltCps b.cps.toList a.cps.toList=false
theorem leS_iff{a b:Str}:leS a b↔a.cps.toList<=b.cps.toList:=by
 unfold leS;rw[ltCps_eq,decide_eq_false_iff_not,List.not_lt]
theorem kz3{a b c:Str}(h:leS a b)(h':leS b c):leS a c:=leS_iff.mpr (List.le_trans (leS_iff.mp h) (leS_iff.mp h'))
theorem vqe{a b:Str}(h:leS a b)(h':leS b a):a=b:=by
 have:=List.le_antisymm (leS_iff.mp h) (leS_iff.mp h');cases a;cases b;simp only at this
 congr 1
 exact Array.toList_inj.mp this
theorem qz3{a b:Str}(h:¬leS a b):leS b a:=by
 rw[leS_iff]at h ⊢;exact List.le_of_lt (List.not_le.mp h)
theorem kxe:∀{a:Str} {r:List Str},risingS a r=true->(a::r).Pairwise leS
 |a,[],_=>by simp
 |a,b::r,h=>by
  have h:(!(Spec.ltCps b.cps.toList a.cps.toList)&&risingS b r)=true:=h;rw[Bool.and_eq_true,Bool.not_eq_true']at h;have ih:=kxe h.2;refine List.pairwise_cons.mpr ⟨λc hc=>?_,ih⟩;rcases List.mem_cons.mp hc with rfl|hc
  ·exact h.1
  ·exact kz3 h.1 ((List.pairwise_cons.mp ih).1 c hc)
theorem qwf{r:List Str}(h:sortedS r=true):r.Pairwise leS:=by
 cases r with
 |nil=>exact .nil
 |cons a r=>exact kxe h
theorem qzj{a:Str}:∀{r:List Str},r.Pairwise leS->(QX a r).Pairwise leS
 | [],_=>by simp[QX]
 | b::r,h=>by
  rw[List.pairwise_cons]at h;unfold QX
  by_cases hl:Spec.ltCps b.cps.toList a.cps.toList=true
  ·rw[X9 hl];refine List.pairwise_cons.mpr ⟨λc hc=>?_,qzj h.2⟩;rcases List.mem_cons.mp ((kkv a r).mem_iff.mp hc)with rfl|hc
   ·exact qz3 (by unfold leS;rw[hl];exact λz=>nomatch z)
   ·exact h.1 c hc
  ·rw[Xd hl];have hab:leS a b:=by unfold leS;exact Bool.eq_false_iff.mpr hl
   refine List.pairwise_cons.mpr ⟨λc hc=>?_,List.pairwise_cons.mpr h⟩;rcases List.mem_cons.mp hc with rfl|hc
   ·exact hab
   ·exact kz3 hab (h.1 c hc)
theorem qkd:∀{r:List Str},(K0 r).Pairwise leS
 |[]=>.nil
 |a::r=>qzj qkd
theorem vkg{r s:List Str}(p:s.Perm r)(h:sortedS s=true):s=K0 r:=
 List.Perm.eq_of_pairwise (λa b _ _ h1 h2=>vqe h1 h2) (qwf h) qkd (p.trans (jvw r).symm)
theorem kkw(a:Int):∀r,(insI a r).Perm (a::r)
 |[]=>List.Perm.refl _
 |b::r=>by
  unfold insI
  split
  ·exact((kkw a r).cons b).trans (List.Perm.swap ..)
  ·exact List.Perm.refl _
theorem jzw:∀r,(WZ r).Perm r
 |[]=>List.Perm.refl _
 |a::r=>(kkw a _).trans ((jzw r).cons a)
theorem qzk{a:Int}:∀{r:List Int},r.Pairwise (·<=·)->(insI a r).Pairwise (·<=·)
 | [],_=>by simp[insI]
 | b::r,h=>by
  rw[List.pairwise_cons]at h;unfold insI
  by_cases hl:b<a
  ·rw[X9 hl];refine List.pairwise_cons.mpr ⟨λc hc=>?_,qzk h.2⟩;rcases List.mem_cons.mp ((kkw a r).mem_iff.mp hc)with rfl|hc
   ·exact Int.le_of_lt hl
   ·exact h.1 c hc
  ·rw[Xd hl];refine List.pairwise_cons.mpr ⟨λc hc=>?_,List.pairwise_cons.mpr h⟩;rcases List.mem_cons.mp hc with rfl|hc
   ·omega
   ·have:=h.1 c hc;omega
theorem qke:∀{r:List Int},(WZ r).Pairwise (·<=·)
 |[]=>.nil
 |a::r=>qzk qke
theorem vkh{r s:List Int}(p:s.Perm r)(h:s.Pairwise (·<=·)):s=WZ r:=
 List.Perm.eq_of_pairwise (λa b _ _ h1 h2=>Int.le_antisymm h1 h2) h qke (p.trans (jzw r).symm)
theorem qqw{ns:List Str}:∀{us:List Value},Vals (ns.map V.str) us->StrsAre us ns:=by
 induction ns with
 | nil=>intro us r;rw[List.map_nil]at r;cases r;exact .nil
 | cons n ns ih=>
  intro us r;rw[List.map_cons]at r;cases r with
  |cons r1 r2=>
   obtain⟨t,e⟩:=r1;subst e;exact .cons n t (ih r2)
theorem qw6{us:List Value}{ns:List Str}(h:StrsAre us ns):Vals (ns.map V.str) us:=by
 induction h with
 |nil=>exact .nil
 |cons y t _ ih=>exact .cons ⟨t,rfl⟩ ih
theorem kx6{us:List Value}{ns:List Int}(h:IntsAre us ns):Vals (ns.map V.int) us:=by
 induction h with
 |nil=>exact .nil
 |cons y t _ ih=>exact .cons ⟨t,rfl⟩ ih
noncomputable def qwo(K:PySem.W.Frag):List V->Hp->VK->Prop:=λxs H Q=>
 (∃p ss,xs=[.ref p]/\SqL K H p (ss.map V.str)/\ss.length<64/\∀l,H l=none->Q (.ref l) (upd H l (.lst ((K0 ss).map V.str)))) \/
 ∃p ss,xs=[.ref p]/\SqL K H p (ss.map V.int)/\ss.length<64/\∀l,H l=none->Q (.ref l) (upd H l (.lst ((WZ ss).map V.int)))
theorem qk2(hK:X.K=K):CallR X (.builtin "sorted") (qwo K):=by
 subst hK;intro pins s σ H xs us Q I r h;rcases h with⟨p,ss,rfl,hq,hl,q⟩|⟨p,ss,rfl,hq,hl,q⟩
 ·obtain⟨u,rfl,rx⟩:=Jx r;cases rx;obtain⟨aa,r',pl,hz⟩:=I.list hq;have ae:=r'.length;rw[X4]at ae hz;refine sorted_strs (vs:=aa) pl.isList (qqw r') (by omega) λout ss' h1 h2 h3=>?_
  have e:=vkg h2 h3;subst e;obtain⟨n,hn⟩:=sortedAll_at s.heap aa out;have dy:s.heap.objs.size<=s.heap.objs.size+1:=Nat.le_succ _;refine⟨.ref (s.heap.objs.size+1),_,I.laid (t':=s.toks) (o:=.lst ((K0 ss).map V.str)) (λb o e=>sortedAll_old e) dy ?_,rfl,q _ (I.hok.fresh dy)⟩;exact⟨by rw[X4,(jvw ss).length_eq];exact hz,out.toList,n,qw6 h1,by simpa using hn⟩
 ·obtain⟨u,rfl,rx⟩:=Jx r;cases rx;obtain⟨aa,r',pl,hz⟩:=I.list hq;have ae:=r'.length;rw[X4]at ae hz;refine sorted_ints (vs:=aa) pl.isList (qvn r') (by omega) λout ss' h1 h2 h3=>?_
  have e:=vkh h2 h3;subst e;obtain⟨n,hn⟩:=sortedAll_at s.heap aa out;have dy:s.heap.objs.size<=s.heap.objs.size+1:=Nat.le_succ _;refine⟨.ref (s.heap.objs.size+1),_,I.laid (t':=s.toks) (o:=.lst ((WZ ss).map V.int)) (λb o e=>sortedAll_old e) dy ?_,rfl,q _ (I.hok.fresh dy)⟩;exact⟨by rw[X4,(jzw ss).length_eq];exact hz,out.toList,n,kx6 h1,by simpa using hn⟩
theorem qkb{g:Bool}:∀{ds:List D} {bs:List Str} {xs:List V} {as:List Addr},K9 ds=some bs->RepA K H g ds xs as->xs=bs.map V.str/\∀z∈bs,z.length<=sizeLine
 | [],bs,xs,as,h,r=>by
  cases oq9 h;unfold RepA at r;exact⟨r.1,λ_ z=>nomatch z⟩
 | d::ds,bs,xs,as,h,r=>by
  cases d with
  | str b=>
   unfold K9 at h;cases hb:K9 ds with
   |none=>rw[hb]at h;cases h
   |some db=>
    rw[hb]at h;cases oq9 h;unfold RepA at r;obtain⟨x,rr,c1,c2,rfl,rfl,h1,h2⟩:=r;unfold RepL at h1;obtain⟨i1,i2⟩:=qkb hb h2;exact⟨by rw[h1.1,i1];rfl,λz hz=>(List.mem_cons.mp hz).elim (λe=>e▸h1.2.2) (i2 z)⟩
  |_=>unfold K9 at h;cases h
theorem qq3{g:Bool}:∀{ds:List D} {bs:List Int} {xs:List V} {as:List Addr},Wk ds=some bs->RepA K H g ds xs as->xs=bs.map V.int
 | [],bs,xs,as,h,r=>by
  cases oq9 h;unfold RepA at r;exact r.1
 | d::ds,bs,xs,as,h,r=>by
  cases d with
  | int b=>
   unfold Wk at h;cases hb:Wk ds with
   |none=>rw[hb]at h;cases h
   |some db=>
    rw[hb]at h;cases oq9 h;unfold RepA at r;obtain⟨x,rr,c1,c2,rfl,rfl,h1,h2⟩:=r;unfold RepL at h1;rw[h1.1,qq3 hb h2];rfl
  |_=>unfold Wk at h;cases h
theorem qkk{g:Bool}:∀{bs:List Str},(∀z∈bs,z.length<=sizeLine)->RepA K H g (bs.map D.str) (bs.map V.str) []
 |[],_=>by unfold RepA;exact⟨rfl,rfl⟩
 |b::bs,h=>by
  rw[List.map_cons,List.map_cons];unfold RepA;exact⟨_,_,[],[],rfl,rfl,kkh (h b X3),qkk λz hz=>h z (lc9 _ hz)⟩
theorem qkm{g:Bool}:∀{bs:List Int},RepA K H g (bs.map D.int) (bs.map V.int) []
 |[]=>by unfold RepA;exact⟨rfl,rfl⟩
 |b::bs=>by
  rw[List.map_cons,List.map_cons];unfold RepA;exact⟨_,_,[],[],rfl,rfl,V1,qkm⟩
theorem vjw:Ad1 K (λv H Q=>qwo K [v] H Q) kq2:=by
 intro H x s Q ok hf k;unfold kq2 at hf;dsimp only at hf;cases hx:x.d with
 | lst ds=>
  rw [hx]at hf;dsimp only at hf;obtain⟨l,xs,bs,ev,q3,r3,_⟩:=items ok (.inl hx);have q3:LsR K H l xs:=by rcases q3 with⟨_,z⟩|⟨z,_⟩;exact z;rw[hx]at z;cases z
  cases hs:K9 ds with
  | some ss=>
   rw[hs]at hf;dsimp only at hf
   split at hf
   ·rename_i hl;cases oq9 hf;obtain⟨e1,e2⟩:=qkb hs r3;subst e1;refine .inl ⟨l,ss,by rw[ev],KJ q3,hl,λp hp=>?_⟩;exact k ⟨.rt,.lst _,.ref p,p::[]⟩ _ rfl rfl (Q4 hp (qkk λz hz=>e2 z ((jvw ss).mem_iff.mp hz)) λb hb=>nomatch hb)
   ·cases hf
  | none=>
   rw[hs]at hf;dsimp only at hf;cases hi:Wk ds with
   | none=>rw[hi]at hf;cases hf
   | some ss=>
    rw[hi]at hf;dsimp only at hf
    split at hf
    ·rename_i hl;cases oq9 hf;have e1:=qq3 hi r3;subst e1;refine .inr ⟨l,ss,by rw[ev],KJ q3,hl,λp hp=>?_⟩;exact k ⟨.rt,.lst _,.ref p,p::[]⟩ _ rfl rfl (Q4 hp qkm λb hb=>nomatch hb)
    ·cases hf
 |_=>rw[hx]at hf;cases hf
noncomputable def tPo(Z:Fx0):Option Ex->TO
 |none=>qwb
 |some c=>wj8 (tV Z true c)
theorem wjz:PO X none (tPo Z none):=vwz
theorem ZK(h:QV X Z true c e):PO X (some e) (tPo Z (some c)):=vwx h
theorem qx6{α:Type}{co:Option Ex}{F:En->Option Int->Option (Res α)}{r:Res α}{G:Option Int->Hp->Prop}(m:Mt E σ L)(w:World Z.K H L)(h:bnd (XJ co E) F=some r)(xc:Xc Z σ H L r)
  (k:∀E1 l,F E1 l=some r->∀L1 H1,Mt E1 σ L1->World Z.K H1 L1->Step H L H1 L1->kJ H H1->G l H1):tPo Z co σ H G:=by
 cases co with
 | none=>exact k E none h L H m w Step.refl zQ
 | some c=>
  have h:bnd (bnd (c E) λE x=>match x.2 with|.int i=>some (.ok E (some i))|_=>none) F=some r:=h;have h':bnd (c E) (λE x=>bnd (match x.2 with|.int i=>some (.ok E (some i))|_=>none) F)=some r:=by
   cases hc:c E with
   |none=>rw[hc]at h;exact h
   |some y=>rw[hc]at h;cases y<;>exact h
  show tV Z true c σ H λx H1=>∃i,x=.int i/\G (some i) H1
  refine x9 m w h' xc λE1 s h1 x L1 H1 e1 e2 m1 w1 ok fr sr st sm=>?_
  cases hs:s.2 with
  |int i=>
   rw[hs]at h1;exact⟨i,vw ok (e2.trans hs),k E1 (some i) h1 L1 H1 m1 w1 st (sm rfl)⟩
  |_=>rw[hs]at h1;cases h1
theorem qkh(n d:Nat)(v:Option Int):HT.sIx n d v=JK n d v:=by
 cases v<;>rfl
theorem RepA.drop{K:PySem.W.Frag}{H:Hp}{g:Bool}:∀(n:Nat) {ds:List D} {xs:List V} {as:List Addr},RepA K H g ds xs as->∃bs,RepA K H g (ds.drop n) (xs.drop n) bs/\∀b∈bs,b∈as
 |0,ds,xs,as,h=>⟨as,h,λ_ h=>h⟩
 |n+1,[],xs,as,h=>by
  unfold RepA at h;obtain⟨rfl,rfl⟩:=h;exact⟨[],by simp only[List.drop_nil];unfold RepA;exact⟨rfl,rfl⟩,λ_ h=>h⟩
 |n+1,d::ds,xs,as,h=>by
  unfold RepA at h;obtain⟨x,r,bs,cs,rfl,rfl,h1,h2⟩:=h;obtain⟨es,r2,hb⟩:=RepA.drop n h2;exact⟨es,r2,λb h=>lr9 _ (hb b h)⟩
theorem RepA.take{K:PySem.W.Frag}{H:Hp}{g:Bool}:∀(n:Nat) {ds:List D} {xs:List V} {as:List Addr},RepA K H g ds xs as->∃bs,RepA K H g (ds.take n) (xs.take n) bs/\∀b∈bs,b∈as
 |0,ds,xs,as,h=>⟨[],by simp only[List.take_zero];unfold RepA;exact⟨rfl,rfl⟩,λ_ h=>nomatch h⟩
 |n+1,[],xs,as,h=>by
  unfold RepA at h;obtain⟨rfl,rfl⟩:=h;exact⟨[],by simp only[List.take_nil];unfold RepA;exact⟨rfl,rfl⟩,λ_ h=>h⟩
 |n+1,d::ds,xs,as,h=>by
  unfold RepA at h;obtain⟨x,r,bs,cs,rfl,rfl,h1,h2⟩:=h;obtain⟨es,r2,hb⟩:=RepA.take n h2;refine⟨bs++es,?_,λb h=>(List.mem_append.mp h).elim (λz=>ll9 _ z) λz=>lr9 _ (hb b z)⟩;rw[List.take_succ_cons,List.take_succ_cons];unfold RepA;exact⟨x,r.take n,bs,es,rfl,rfl,h1,r2⟩
theorem RepA.cut{K:PySem.W.Frag}{H:Hp}{g:Bool}{ds:List D}{xs:List V}{as:List Addr}(h:RepA K H g ds xs as)(lo hi:Option Int):∃bs,RepA K H g (K4 ds lo hi) (W2 xs lo hi) bs/\∀b∈bs,b∈as:=by
 have hl:=h.len;unfold K4 W2;rw[qkh,qkh,<-hl];obtain⟨bs,r,hb⟩:=h.drop (JK ds.length 0 lo);obtain⟨cs,r2,hc⟩:=r.take (JK ds.length ds.length hi - JK ds.length 0 lo);exact⟨cs,r2,λb h=>hb b (hc b h)⟩
theorem vwa{x:Sl}{s:Sd}{lo hi:Option Int}{Q:VK}(ok:x.ok K H)(hf:fSl (x.o,x.d) lo hi=some s)(k:∀(z:Sl) H',z.o=s.1->z.d=s.2->Out K H H' z x.frz->Q z.v H'):vva K x.v lo hi H Q:=by
 unfold fSl at hf;dsimp only at hf;cases hx:x.d with
 | lst ds=>
  rw[hx]at hf;dsimp only at hf
  split at hf
  ·rename_i hl;cases oq9 hf;obtain⟨l,xs,bs,ev,q3,r3,h3⟩:=J4 ok (.inl hx) (by rw[hx];exact hl);have q3:LsR K H l xs:=by rcases q3 with⟨_,z⟩|⟨z,_⟩;exact z;rw[hx]at z;cases z
   obtain⟨cs,r4,h4⟩:=r3.cut lo hi;exact .inl ⟨l,xs,ev,KJ q3,λp hp=>k ⟨.rt,.lst _,.ref p,p::cs⟩ _ rfl rfl (Q4 hp r4 λb hb=>h3 b (h4 b hb))⟩
  ·cases hf
 | tup ds=>
  rw[hx]at hf;dsimp only at hf
  split at hf
  ·rename_i hl;cases oq9 hf;obtain⟨l,xs,bs,ev,q3,r3,h3⟩:=J4 ok (.inr hx) (by rw[hx];exact hl.1);have q3:SqT K H l xs:=by rcases q3 with⟨z,_⟩|⟨_,z⟩;rw[hx]at z;cases z;exact z
   obtain⟨cs,r4,h4⟩:=r3.cut lo hi;refine .inr (.inl ⟨l,xs,ev,q3,?_,λp hp=>k ⟨.no,.tup _,.ref p,cs⟩ _ rfl rfl (kkl hp r4 λb hb=>h3 b (h4 b hb))⟩);rw[qkh,qkh,<-r3.len];exact hl.2
  ·cases hf
 | str z=>
  rw[hx]at hf;dsimp only at hf
  split at hf
  ·rename_i hl;cases oq9 hf;obtain⟨e,hz⟩:=z9 ok hx;exact .inr (.inr ⟨z,e,hz,k ⟨.dp,.str _,.str _,[]⟩ H rfl rfl (wwq hl)⟩)
  ·cases hf
 |_=>rw[hx]at hf;cases hf
theorem wvj{lo hi:Option Ex}{elo ehi:Option Expr}(ha:QV X Z q a ea)(hl:PO X elo (tPo Z lo))(hh:PO X ehi (tPo Z hi))(hK:autoParam (X.K=Z.K) Ŕ):QE X Z q (cSl a lo hi) (.Subscript ea (.Slice elo ehi none p2) pos):=
 vx (vq0 (ww4 Z.K hK) ha hl hh) fun σ H Q ai=>ex8 ai λE L r m w hc xc k=>by
  refine x9 m w (show bnd (a E) _=some r from hc) xc λE1 s h1 x L1 H1 e1 e2 m1 w1 ok fr sr st sm=>?_
  refine qx6 m1 w1 h1 (xc.step st) λE2 l h2 L2 H2 m2 w2 b7 fj=>?_
  refine qx6 m2 w2 h2 (xc.step (st.trans b7)) λE3 u h3 L3 H3 m3 w3 cw sm3=>?_
  obtain⟨z,hz,rfl⟩:=K6 h3;have k1:=ZX ok fr b7 fj;have k2:=ZX k1.1 k1.2 cw sm3;refine vwa k2.1 (by rw[e1,e2];exact hz) λy H' ho hd o=>?_
  obtain⟨w4,jo⟩:=Vj w3 ((st.trans b7).trans cw) o k2.2 (λb hb=>k2.1.some (Sl.frz_as hb)) (jz6 sr λb hb=>Sl.frz_as hb);have gq:q=true->kJ H H3:=λhq=>v8 (sm hq) (v8 fj sm3)
  exact k _ _ rfl y L3 H' ho hd m3 w4 jo λhq=>⟨v8 (gq hq) o.same,λb hb=>zZ (gq hq) (o.new b hb)⟩
end
theorem wj5{prog:Program}{w:PySem.World}{A:Around}{E:Value->Shared->Prop}{s:Shared}{t:Addr}{items:Array Value}{x:Value}{e:Value->Bool}{j:Nat}{Q:Value->Shared->Prop}
  (ht:IsTup s.heap t items) (he:∀y∈items,SeqAt.EqAt A.in1 s y x (e y)) (hj:j<items.size) (h1:e items[j]=true) (h2:∀m (hm:m<items.size),m<j->e items[m]=false)
  (h:Q (.int j s.toks) { s with toks:=s.toks+1 }):wpAny (model prog w) A (call (.builtin "tuple.index") [.ref t,x]) Q E s:=by
 refine Y7 PySem.F.slot_tuple_index ht.typeIs PySem.F.entry_tuple_index ?_ (PySem.F.args_tuple_index_2 _ _);show wpAny _ _ (Builtin.Tuple.tupleItemsOf (.ref t) >>= _) _ _ s;refine X0 (tupleItemsOf_ ht ?_);dsimp only;refine X0 (X5 ?_);refine X0 (X5 ?_);rw[Std.Legacy.Range.forIn_eq_forIn_range'];refine X0 (wpAny_forIn_list _ (λjw b s'=>b=(none,())/\s'=s/\∃k,k<=j/\jw=List.range' k (items.size - k)) _ ?_ ?_ _ _ ⟨rfl,rfl,0,Y9 _,?_⟩)
 ·rintro i jw b s' ⟨rfl,rfl,k,hk,hr⟩;obtain⟨n,hn⟩:∃n,items.size - k=n+1:=⟨items.size - k - 1,by omega⟩;rw[hn,List.range'_succ]at hr;injection hr with hi oe;subst hi;have hi:i<items.size:=by omega
  rw[show items[i]?=some items[i]from Yn hi];dsimp only;refine X0 (he items[i] (Array.getElem_mem hi) _ _ _ _ ?_)
  by_cases p9:i=j
  ·subst p9;rw[h1,X9 rfl];unfold retInt;refine X0 (X0 (wpAny_mkInt (X5 (X5 ?_))));exact X5 ⟨_,rfl,h⟩
  ·rw[h2 i hi (by omega),Xd (by decide)];refine X5 ⟨rfl,rfl,i+1,by omega,?_⟩;rw[oe]
   congr 1
   omega
 ·rintro b s' ⟨rfl,rfl,k,hk,hr⟩;have:items.size - k=0:=by
   have:=congrArg List.length hr
   simpa using this.symm
  omega
 ·simp
theorem ww6{prog:Program}{w:PySem.World}{A:Around}{E:Value->Shared->Prop}{s:Shared}{l:Addr}{items:Array Value}{k:Int}{t:Tok}{Q:Value->Shared->Prop}
  (ht:IsTup s.heap l items) (h:Q .notImplemented s):wpAny (model prog w) A (call (.builtin "int.__rmul__") [.int k t,.ref l]) Q E s:=by
 refine Y7 PySem.F.slot_int_rmul (typeIs_int s k t) PySem.F.entry_int_rmul ?_ (PySem.F.args_int_rmul_2 _ _);obtain⟨o,e,c,n,hd⟩:=ht;show wpAny _ _ (asInt? (.ref l) >>= _) _ _ s;unfold asInt?;refine X0 (X0 (wpAny_load e ?_));rw[hd];refine X5 ?_;dsimp only;refine X0 (wpAny_rule ?_);exact X5 ⟨_,rfl,h⟩
theorem mulT{prog:Program}{w:PySem.World}{A:Around}{E:Value->Shared->Prop}{s:Shared}{l:Addr}{items:Array Value}{k:Int}{t:Tok}{Q:Value->Shared->Prop}
  (ht:IsTup s.heap l items) (h1:-(2 ^ 63)<=k) (h2:k<2 ^ 63) (hz:items.size*k.toNat<=sizeLine)
  (t7:(items.isEmpty=true\/k=1)->Q (.ref l) s)
  (hsz:(List.foldl (λx1 x2=>x1++x2) #[] (List.replicate k.toNat items)).size<=sizeLine)
  (lq:Q (.ref s.heap.objs.size) { s with heap:=s.heap.push { cls:=.type "tuple",data:=.seq (List.foldl (λx1 x2=>x1++x2) #[] (List.replicate k.toNat items)) } })
  : wpAny (model prog w) A (call (.builtin "tuple.__mul__") [.ref l,.int k t]) Q E s:=by
 refine Y7 PySem.F.slot_tuple_mul ht.typeIs PySem.F.entry_tuple_mul ?_ (PySem.F.args_tuple_mul_2 _ _);show wpAny _ _ (if(decide (k < -2 ^ 63)||decide (k>=2 ^ 63))=true then _ else _) _ _ s;rw [Xd (by simp;omega)];show wpAny _ _ (Builtin.Tuple.tupleItemsOf (.ref l) >>= _) _ _ s;refine X0 (tupleItemsOf_ ht ?_)
 by_cases hs:(items.isEmpty||k==1)=true
 ·rw[X9 hs];unfold Builtin.Tuple.tupleIsExact;refine X0 (X0 (wpAny_typeOf ht.typeIs (X5 ?_)));rw[X9 (by decide)];refine X0 (wpAny_rule ?_);refine X5 ⟨_,rfl,t7 ?_⟩
  simpa using hs
 ·rw[Xd hs];have c9:items.isEmpty=false:=by
   cases h:items.isEmpty<;>simp_all
  have hm:((items.size:Int)*k)<=(sizeLine:Int)\/k<=0:=by
   by_cases hk:k<=0
   ·exact .inr hk
   ·refine .inl ?_;have e:((k.toNat:Nat):Int)=k:=Int.toNat_of_nonneg (by omega);have:((items.size*k.toNat:Nat):Int)<=(sizeLine:Int):=Int.ofNat_le.mpr hz;rw[Int.natCast_mul,e]at this;exact this
  dsimp only
  by_cases hk:k<=0
  ·rw[X9 (by simp[hk])];have e:k.toNat=0:=by omega
   rw[e]at lq;unfold Builtin.Tuple.tupleExact;exact X0 (Y0 (X5 ⟨_,rfl,lq⟩) (show(0:Nat)<=sizeLine from Y9 _))
  ·rw[Xd (by simp[hk,c9])];have hm:=hm.resolve_right hk;have ic:(sizeLine:Int)=16777216:=by decide
   rw[Xd (by omega)];rw[Xd (by unfold Builtin.Tuple.tupleTooMany;simp;omega)];unfold Builtin.Tuple.tupleExact;exact X0 (Y0 (X5 ⟨_,rfl,lq⟩) hsz)
section
variable {X:Cx}{Z:Fx0}{K:PySem.W.Frag}{pn:List Nat}{q qa qb:Bool}{a b c:Ex}{u:Ts}{tg e ea eb:Expr}{st:Stmt}{σ:L2.St}{H:Hp}{L:Ls}{E:En}{pos p p2:Pos}{x:Str}
noncomputable def wjo(K:PySem.W.Frag):R2:=λx y H Q=>∃l k xs,x=.ref l/\y=.int k/\SqT K H l xs/\-(2 ^ 63)<=k/\k<2 ^ 63/\xs.length*k.toNat<=sizeLine/\((xs=[]\/k=1)->Q (.ref l) H)/\∀p,H p=none->Q (.ref p) (upd H p (.tup (List.replicate k.toNat xs).flatten))
theorem op_repT:OpR X (binaryOp .Mult) (wjo X.K):=by
 intro pins s σ H x y v u Q I rx ry h;obtain⟨l,k,xs,rfl,rfl,hq,h1,h2,hz,q1,q2⟩:=h;cases rx;obtain⟨t,rfl⟩:=ry;obtain⟨aa,r,ht,hl⟩:=I.tuple hq;have ae:=r.length;have f0:List.foldl (λx1 x2=>x1++x2) #[] (List.replicate k.toNat aa.toArray)=(List.replicate k.toNat aa).flatten.toArray:=by
  have:=kkz aa k.toNat [];rw[List.nil_append]at this;exact this
 have hz2:(List.replicate k.toNat xs).flatten.length<=sizeLine:=by rw[qz0,Nat.mul_comm];exact hz
 refine wpAny_binaryOp_repeat_ref (T:="tuple") (U:="int") (by decide) ht.typeIs (λs'=>typeIs_int s' k t) rfl F.fills_int_mul F.slot_int_rmul (show seqRepeat? (Value.type "tuple")=pure (some (Value.builtin "tuple.__mul__"))from rfl) F.slot_int_index.lookup
  (ww6 ht ⟨rfl,ht.typeIs,mulT ht h1 h2 (by rw[X7,<-ae];exact hz) (λhs=>?_) ?_ ?_⟩)
 ·refine⟨.ref l,H,I,rfl,q1 ?_⟩;rcases hs with hs|hs
  ·left;have:aa=[]:=by simpa using hs
   subst this
   simpa using ae
  ·exact .inr hs
 ·rw[f0,X7,<-(r.rep k.toNat).length];exact hz2
 ·rw[f0];exact⟨.ref _,_,I.laid (t':=s.toks) (o:=.tup _) (λb o e=>X6 _ e) (X8 _) ⟨hz2,_,r.rep k.toNat,IsTupD.new _ _⟩,rfl,q2 _ (I.hok.fresh (X8 _))⟩
noncomputable def wjr(K:PySem.W.Frag):R2:=λx y H Q=>wjo K x y H Q\/vwh K x y H Q
theorem wkw(hK:autoParam (X.K=K) Ŕ):OpR X (binaryOp .Mult) (wjr K):=by subst hK;exact op_repT.or wkx
theorem vzv:Ad2 K (wjr K) jX:=by
 intro H x y s Q ox oy hf k;cases hx:x.d with
 | tup ds=>
  cases hy:y.d with
  | int n=>
   unfold jX at hf;rw [show(x.o,x.d).2=x.d from rfl,show(y.o,y.d).2=y.d from rfl,hx,hy]at hf;dsimp only at hf
   split at hf
   ·rename_i hc;cases oq9 hf;obtain⟨l,xs,bs,e3,q3,r3,h3⟩:=J4 ox (.inr hx) (by rw[hx];exact hc.2.2.2);have q3:SqT K H l xs:=by rcases q3 with⟨z,_⟩|⟨_,z⟩;rw[hx]at z;cases z;exact z
    obtain⟨cs,r4,h4⟩:=r3.reps n.toNat;refine .inl ⟨l,n,xs,e3,vw oy hy,q3,hc.1,hc.2.1,by rw[<-r3.len];exact hc.2.2.1,λhs=>?_,λp hp=>?_⟩
    ·refine k ⟨.no,.tup _,.ref l,cs⟩ H rfl rfl ⟨zQ,?_,λb hb=>(nomatch hb),Xx,λb hb=>ll9 _ (h3 b (h4 b hb))⟩;show RepL K H true (.tup _) (.ref l) cs;unfold RepL;refine⟨l,xs,rfl,q3,?_⟩;have e:(List.replicate n.toNat xs).flatten=xs:=by
      rcases hs with hs|hs
      ·subst hs;simp
      ·subst hs;simp
     rw[e]at r4;exact r4
    ·exact k ⟨.no,.tup _,.ref p,cs⟩ _ rfl rfl (kkl hp r4 λb hb=>ll9 _ (h3 b (h4 b hb)))
   ·cases hf
  |_=>
   refine .inr (vw1 H x y s Q ox oy ?_ k);unfold jX at hf;rw[show(x.o,x.d).2=x.d from rfl,show(y.o,y.d).2=y.d from rfl,hx,hy]at hf;rw[hx,hy];exact hf
 |_=>
  refine .inr (vw1 H x y s Q ox oy ?_ k);unfold jX at hf;rw[show(x.o,x.d).2=x.d from rfl,hx]at hf;rw[hx];exact hf
theorem qxt{h:Heap}:∀{ds:List D} {us:List Value},CReps h ds us->us.map (dec h)=ds
 |[],_,r=>by unfold CReps at r;rw[r];rfl
 |z::ds,_,r=>by
  unfold CReps at r;obtain⟨u,rr,rfl,h1,h2⟩:=r;rw[List.map_cons,kzf h1,qxt h2]
noncomputable def ww9(K:PySem.W.Frag)(C:Hp->List V->Prop):List V->Hp->VK->Prop:=λvs H Q=>∃v d ds as bs xs j,vs=[v]/\RepL K H true d v as/\C H xs/\RepA K H true ds xs bs/\d.flat 30=true/\D.flats 30 ds=true/\(ds.findIdx? λz=>peq z d)=some j/\Q (.int j) H
theorem vq1{o:Expr}{to:TE}{t:TA}{apos ab:Pos}(hu:X.A.units+64<cLine)(ho:PE X o to)(ha:PA X [e] t)
  (ay:autoParam (attributeBase o "index" X.env (eval o X.env)=eval o X.env) Ŕ)
  (fz:autoParam (((backTo ab (starEach [e] X.env)).all (λx=>!x.1)&&(backToKw ab (keywordEach [] X.env)).all (λx=>x.1.isSome)
   && decide ([e].length+([]:List Keyword).length+(if([]:List Keyword).isEmpty then 0 else 1)<30))=true) Ŕ)
  (ax:autoParam ((apos.endLine==ab.line)=true) Ŕ) (hs:autoParam (starEach [e] X.env=(false,eval e X.env)::starEach [] X.env) Ŕ) (bg:autoParam ((backTo ab (starEach [] X.env)).any (·.1)=false) Ŕ):
  PE X (.Call (.Attribute o "index" apos) [e] [] ab) (fun σ H Q=>to σ H λx H1=>(∃p xs,x=.ref p/\LsR X.K H1 p xs/\t σ H1 λvs H2=>ww9 X.K (λH xs=>LsR X.K H p xs) vs H2 Q)\/∃p xs,x=.ref p/\SqT X.K H1 p xs/\t σ H1 λvs H2=>ww9 X.K (λH xs=>SqT X.K H p xs) vs H2 Q):=by
 intro pins s σ H Q I h;refine wpAny_Call_method_late ay fz ax rfl (thn (ho pins s σ H _ I h) λv s1 ⟨x,H1,I1,r1,qq⟩=>?_);have eqs:∀{s2:Shared} {H2:Hp} {d:D} {v:V} {as:List Addr} {w:Value} {us:List Value} {ds:List D},L2.Inv X pins σ H2 s2->RepL X.K H2 true d v as->RelV v w->d.flat 30=true->D.flats 30 ds=true->CReps s2.heap ds us->∀y∈us.toArray,SeqAt.EqAt X.A.in1 s2 y w (peq (dec s2.heap y) d):=fun {s2 H2 d v as w us ds} I2 rd rw f1 f2 cr y hy=>by
  have c1:=Vk I2 rd f1 rw;obtain⟨d',hd,c⟩:=kjy cr (by simpa using hy);rw[kzf c];exact XX 30 (jzh f2 hd) c c1 (by have:=L3.in1_units X.A;omega)
 have idx:∀{h:Heap} {ds:List D} {us:List Value} {d:D} {j:Nat},CReps h ds us->(ds.findIdx? λz=>peq z d)=some j->∃hj:j<us.toArray.size,peq (dec h us.toArray[j]) d=true/\∀m (hm:m<us.toArray.size),m<j->peq (dec h us.toArray[m]) d=false:=fun {h ds us d j} cr hf=>by
  have e:=qxt cr;subst e;rw[List.findIdx?_eq_some_iff_getElem]at hf;obtain⟨hj,h1,h2⟩:=hf;have hj':j<us.length:=by simpa using hj
  refine⟨by simpa using hj',by simpa using h1,λm hm hmj=>?_⟩;have:=h2 m hmj
  simpa using this
 rcases qq with⟨pp,zs,rfl,ty,q1⟩|⟨pp,zs,rfl,ty,q1⟩
 ·cases r1;have hA:=ha ab pins s1 σ H1 _ I1 q1;rw[hs]at hA ⊢;obtain⟨z,aa,n,r,e0⟩:=ty.is I1;refine⟨"list","list.index",F.plainAttrs_list,F.slot_list_index,F.type_list_index,⟨_,e0,rfl⟩,λa e2=>?_,?_⟩
  ·cases e2;exact⟨_,e0,rfl⟩
  refine Yi (by show(false||(backTo ab (starEach [] X.env)).any (·.1))=false;rw[bg]<;>rfl) (Calls.evalArgs_plain ?_);refine thn hA λus s2 ⟨vs,H2,I2,r2,d2⟩=>?_
  obtain⟨v,d,ds,as,bs,xs,j,rfl,rd,hq,ra,f1,f2,hf,q2⟩:=d2;obtain⟨w,rfl,rw1⟩:=r2.one;obtain⟨z2,gf,n2,r3,e3⟩:=hq.is I2;have cr:=creps_of I2 ra f2 r3;obtain⟨hj,h1,h2⟩:=idx cr hf;have hsz:gf.toArray.size<=16777216:=by rw[X7,<-r3.length];exact z2
  exact call_meets F.slot_list_index ⟨_,e3,rfl⟩ F.entry_list_index (F.args_list_index_2 _ _) (SeqAt.list_indexAt pp gf.toArray n2 none #[] w (λy=>peq (dec s2.heap y) d) j hj (by omega) h1 h2) ⟨e3,eqs I2 rd rw1 f1 f2 cr,.int _,H2,I2.tok _,⟨_,rfl⟩,q2⟩
 ·cases r1;have hA:=ha ab pins s1 σ H1 _ I1 q1;rw[hs]at hA ⊢;obtain⟨aa,r,ht,hz⟩:=I1.tuple ty;have hd0:=I1.tupleD ty;refine⟨"tuple","tuple.index",F.plainAttrs_tuple,F.slot_tuple_index,F.type_tuple_index,ht.typeIs,λa e2=>?_,?_⟩
  ·cases e2;exact hd0
  refine Yi (by show(false||(backTo ab (starEach [] X.env)).any (·.1))=false;rw[bg]<;>rfl) (Calls.evalArgs_plain ?_);refine thn hA λus s2 ⟨vs,H2,I2,r2,d2⟩=>?_
  obtain⟨v,d,ds,as,bs,xs,j,rfl,rd,hq,ra,f1,f2,hf,q2⟩:=d2;obtain⟨w,rfl,rw1⟩:=r2.one;obtain⟨gf,r3,ht2,hz2⟩:=I2.tuple hq;have cr:=creps_of I2 ra f2 r3;obtain⟨hj,h1,h2⟩:=idx cr hf;exact wj5 (e:=λy=>peq (dec s2.heap y) d) ht2 (eqs I2 rd rw1 f1 f2 cr) hj h1 h2 ⟨.int _,H2,I2.tok _,⟨_,rfl⟩,q2⟩
theorem kkk{apos ab:Pos}(hu:X.A.units+64<cLine)(ha:QV X Z q a ea)(hb:QV X Z true b eb)(hK:autoParam (X.K=Z.K) Ŕ)
  (ay:autoParam (attributeBase ea "index" X.env (eval ea X.env)=eval ea X.env) Ŕ)
  (fz:autoParam (((backTo ab (starEach [eb] X.env)).all (λx=>!x.1)&&(backToKw ab (keywordEach [] X.env)).all (λx=>x.1.isSome)
   && decide ([eb].length+([]:List Keyword).length+(if([]:List Keyword).isEmpty then 0 else 1)<30))=true) Ŕ)
  (ax:autoParam ((apos.endLine==ab.line)=true) Ŕ) (hs:autoParam (starEach [eb] X.env=(false,eval eb X.env)::starEach [] X.env) Ŕ) (bg:autoParam ((backTo ab (starEach [] X.env)).any (·.1)=false) Ŕ):
  QE X Z q (W5 a b) (.Call (.Attribute ea "index" apos) [eb] [] ab):=vx (vq1 hu ha (xQ hb zw hs) ay fz ax hs bg) fun σ H Q ai=>ex8 ai λE L r m w hc xc k=>by
 refine x9 m w (show bnd (a E) _=some r from hc) xc λE1 s h1 x L1 H1 e1 e2 m1 w1 ok fr sr st sm=>?_
 split at h1
 rotate_left
 ·cases h1
 rename_i hsq;rw [hK];have fin:∀{ds:List D},(x.d=.lst ds\/x.d=.tup ds)->∀(C:Hp->List V->Prop),(∀H2,x.ok Z.K H2->∃xs bs,C H2 xs/\RepA Z.K H2 true ds xs bs)->tV Z true b σ H1 λv H2=>ww9 Z.K C [v] H2 Q:=fun {ds} hx C hC=>by
  refine x9 m1 w1 h1 (xc.step st) λE2 s2 h2 y L2 H2 e3 e4 m2 w2 jm sv sy b7 fj=>?_
  obtain⟨z,hz,rfl⟩:=K6 h2;have kx:=ZX ok fr b7 (fj rfl);obtain⟨xs,bs,c1,c2⟩:=hC H2 kx.1;have key:∃j:Nat,y.d.flat 30=true/\D.flats 30 ds=true/\(ds.findIdx? λz=>peq z y.d)=some j/\z=(.dp,.int j):=by
   unfold pu2 kve at hz;rw[<-e2,<-e4]at hz;have hz':(if y.d.flat 30&&D.flats 30 ds then(ds.findIdx? λz=>peq z y.d).map λ(j:Nat)=>D.int (j:Int)else none).map (λd=>((Own.dp,d):Sd))=some z:=by
    rcases hx with hx|hx<;>(rw[hx]at hz;exact hz)
   split at hz'
   ·rename_i hf;rw[Bool.and_eq_true]at hf;cases hj:ds.findIdx? λz=>peq z y.d with
    |none=>rw[hj]at hz';cases hz'
    |some j=>rw[hj]at hz';exact⟨j,hf.1,hf.2,rfl,(oq9 hz').symm⟩
   ·cases hz'
  obtain⟨j,f1,f2,f3,rfl⟩:=key;refine⟨y.v,y.d,ds,y.as,bs,xs,j,rfl,RepO.wk jm,c1,c2,f1,f2,f3,?_⟩;have gq:q=true->kJ H H2:=λhq=>v8 (sm hq) (fj rfl)
  exact k _ _ rfl ⟨.dp,.int j,.int j,[]⟩ L2 H2 rfl rfl m2 (w2.consPu (x:=⟨.dp,.int j,.int j,[]⟩) (show RepL Z.K H2 false (.int j) (.int j) []from V1) rfl) (V2 (x:=⟨.dp,.int j,.int j,[]⟩) (st.trans b7) (λb hb=>nomatch hb) rfl) λhq=>⟨gq hq,λ_ z=>(nomatch z)⟩
 have wkA:∀{ds:List D} {xs:List V} {bs:List Addr} {H2:Hp},RepA Z.K H2 (x.o != .dp) ds xs bs->RepA Z.K H2 true ds xs bs:=fun {ds xs bs H2} r=>by
  cases ho:(x.o != .dp)with
  |true=>rw[ho]at r;exact r
  |false=>rw[ho]at r;exact r.wk
 cases hx:x.d with
 |lst ds=>
  obtain⟨l,xs,bs,ev,q3,r3,h3,_⟩:=items ok (.inl hx);have q3:LsR Z.K H1 l xs:=by rcases q3 with⟨_,z⟩|⟨z,_⟩;exact z;rw[hx]at z;cases z
  refine .inl ⟨l,xs,ev,q3,fin (.inl hx) _ λH2 jm=>?_⟩;obtain⟨l2,ys,cs,ev2,q4,r4,_⟩:=items jm (.inl hx);have:l2=l:=by have:=ev2.symm.trans ev;exact V.ref.inj this
  subst this;rcases q4 with⟨_,z⟩|⟨z,_⟩
  ·exact⟨ys,cs,z,wkA r4⟩
  ·rw[hx]at z;cases z
 |tup ds=>
  obtain⟨l,xs,bs,ev,q3,r3,h3,_⟩:=items ok (.inr hx);have q3:SqT Z.K H1 l xs:=by rcases q3 with⟨z,_⟩|⟨_,z⟩;rw[hx]at z;cases z;exact z
  refine .inr ⟨l,xs,ev,q3,fin (.inr hx) _ λH2 jm=>?_⟩;obtain⟨l2,ys,cs,ev2,q4,r4,_⟩:=items jm (.inr hx);have:l2=l:=by have:=ev2.symm.trans ev;exact V.ref.inj this
  subst this;rcases q4 with⟨z,_⟩|⟨_,z⟩
  ·rw[hx]at z;cases z
  ·exact⟨ys,cs,z,wkA r4⟩
 |_=>rw[<-e2,hx]at hsq;cases hsq
end
noncomputable def Ite(K:PySem.W.Frag)(l:Addr):It:=⟨λi H=>∃xs x,SqL K H l xs/\xs[i]?=some x,
 λi H v H'=>∃T x,H T=none/\v=.ref T/\H'=upd H T (.tup [.int i,x])/\∀xs,SqL K H l xs->xs[i]?=some x,
 λi H=>∃xs,SqL K H l xs/\xs.length<=i⟩
theorem qw9{P:Program}{w:PySem.World}{K:PySem.W.Frag}{df:List Expr}{k1:Nat}{pos:Pos}{e it l:Addr}(n1:e≠it)(n2:l≠e)(n3:l≠it):
  Turn P w K (.Tuple df k1 pos) (Ite K l) [e,it] e (λi h=>(∃gh,IsEnum h e it (i:Int) gh)/\h.IsListIter it l i) where
 mem:=by simp
 obj:=λi h st b hb=>by
  obtain⟨⟨gh,h1⟩,o4,e4,c4,d4⟩:=st;simp only[Yh,Xw,or_false]at hb;rcases hb with rfl|rfl
  ·exact⟨_,h1,λv z=>by cases z⟩
  ·exact⟨_,e4,λv z=>by rw[d4]at z;cases z⟩
 keep:=λi h h' st k=>by
  obtain⟨⟨gh,h1⟩,o4,e4,c4,d4⟩:=st;exact⟨⟨gh,k _ (by simp) _ h1⟩,o4,k _ (by simp) _ e4,c4,d4⟩
 item:=by
  intro X hP hw hK hc i pins s σ H E I hf st hg;subst hP hw hK;obtain⟨xs,x,q1,hx⟩:=hg;obtain⟨ug,rv1,p1,hz1⟩:=I.list q1;obtain⟨u1,hu1,ru1⟩:=rv1.get hx;obtain⟨⟨gh,t1⟩,t2⟩:=st;refine wpAny_pyNext_enum_item t1 t2 p1.isList (x:=u1) (by simpa using hu1) n1 λh1 g1 g2 gT gs gk=>?_
  refine⟨_,rfl,wpAny_letOwnedTupleGo_enum (s:={ s with heap:=h1,toks:=s.toks+1 }) g1 λh2 f1 sb=>?_⟩;have fT:wX X pins H s.heap.objs.size:=I.fpOk (X8 _) (I.hok.fresh (X8 _));have nT:∀b∈[e,it],b≠s.heap.objs.size:=λb hb ee=>by
   obtain⟨o,eo,_⟩:∃o,s.heap.get? b=some o/\True:=by
    simp only[Yh,Xw,or_false]at hb;obtain⟨o4,e4,_⟩:=t2;rcases hb with rfl|rfl
    ·exact⟨_,t1,trivial⟩
    ·exact⟨_,e4,trivial⟩
   exact absurd (Xl eo) (by rw[ee];exact Yg _)
  have kk:∀b o,b∉[e,it]->s.heap.get? b=some o->h2.get? b=some o:=λb o hb ee=>by
   simp only[Yh,Xw,or_false,not_or]at hb;exact(sb.2 b hb.1).trans (gk b o hb.1 hb.2 ee)
  have I1:L2.Inv X pins σ H { s with heap:=h2,toks:=s.toks+1 }:=jwi [e,it] I kk hf;have nz:s.heap.objs.size≠e:=λee=>nT e (by simp) ee.symm
  have I2:=kkt (a:=s.heap.objs.size) (o:=.tup [.int (i:Int),x]) I1 fT.1 fT.2.1 fT.2.2.2.1 fT.2.2.2.2.1 fT.2.2.2.2.2
   (show ObjOk X.prog X.w _ h2 _ (.tup [.int (i:Int),x])from⟨by show(2:Nat)<=sizeLine;decide,[.int i s.toks,u1],.cons ⟨_,rfl⟩ (.cons ru1 .nil),⟨_,(sb.2 _ nz).trans gT,rfl,rfl,0,rfl⟩⟩)
  refine⟨.ref s.heap.objs.size,_,I2,rfl,⟨_,x,fT.1,rfl,rfl,λzs hzs=>by rw[I.list_inj hzs q1];exact hx⟩,?_,λb hb=>by rw[v4 (nT b hb)];exact(hf b hb).1⟩;exact⟨⟨u1,f1⟩,g2.at λo ee=>(sb.2 _ n1.symm).trans ee⟩
 done:=by
  intro X hP hw hK hc i pins s σ H E I hf st hg;subst hP hw hK;obtain⟨xs,q1,hx⟩:=hg;obtain⟨ug,rv1,p1,hz1⟩:=I.list q1;obtain⟨⟨gh,t1⟩,t2⟩:=st;have um:=rv1.length;refine wpAny_pyNext_enum_end (I.ok.hd hc) t1 t2 p1.isList (by simp;omega) λh' kk=>⟨rfl,?_⟩
  refine jwi (t':=s.toks) [it] I (λb o hb ee=>kk b o (by simpa using hb) ee) λb hb=>hf b (by
   simp only[Yh,Xw,or_false]at hb ⊢;exact .inr hb)
 self:=λ_ _ _ _ _ st h=>by obtain⟨⟨gh,h1⟩,_⟩:=st;exact wpAny_pyIter_enum h1 h
abbrev wx5(K:PySem.W.Frag)(ta:TA):TI:=fun σ H R=>ta σ H λvs H1=>∃l,vs=[.ref l]/\(∃xs,SqL K H1 l xs/\(xs.length<=sizeLine->R (Ite K l) H1))
theorem kzm:bootBuiltins "enumerate"=some (.type "enumerate"):=boot_enumerate
section
variable {X:Cx}{Z:Fx0}{K:PySem.W.Frag}{pn:List Nat}{q qa qb:Bool}{a b c:Ex}{u:Ts}{tg e ea eb:Expr}{st:Stmt}{σ:L2.St}{H:Hp}{L:Ls}{E:En}{pos p p2 kf:Pos}{x:Str}{df:List Expr}{k1:Nat}
theorem vx0(K:PySem.W.Frag){ta:TA}(hg:Gl X "enumerate")(hm:X.mg "enumerate"=none)(ha:PA X [e] ta)(hK:autoParam (X.K=K) Ŕ)
  (hs:autoParam (starEach [e] X.env=[(false,eval e X.env)]) Ŕ):PI X (.Tuple df k1 kf) (.Call (.Name "enumerate" p) [e] [] pos) (wx5 K ta):=by
 subst hK;intro pins s σ H R I h;refine Call_ (Vv I hg hm kzm (Y8 (thn (ha pos pins s σ H _ I h) λus s1 ⟨vs,H1,I1,r1,q1⟩=>?_) (by rw[hs];rfl) rfl));obtain⟨l,rfl,xs,q1,q⟩:=q1;obtain⟨u1,rfl,e1⟩:=Jx r1;cases e1;obtain⟨ug,rv1,p1,hz1⟩:=I1.list q1;have lt:l<s1.heap.objs.size:=by obtain⟨_,ee,_⟩:=p1.isList;exact Xl ee
 refine call_enumerate_list p1.isList λh' g1 g2 gs gk=>?_
 refine wpAny_pyIter_enum g1 ⟨_,[_,s1.heap.objs.size],_,_,H1,rfl,I1.kept (t':=s1.toks) gk,
  qw9 (e:=s1.heap.objs.size+1) (it:=s1.heap.objs.size) (l:=l) (Nat.succ_ne_self _) (Y1 (Nat.lt_succ_of_lt lt)) (Y1 lt),⟨⟨_,g1⟩,g2⟩,λb hb=>?_,q hz1⟩
 have dy:s1.heap.objs.size<=b:=by
  simp only[Yh,Xw,or_false]at hb;rcases hb with rfl|rfl<;>omega
 exact I1.fpOk dy (I1.hok.fresh dy)
theorem jzk:∀(ds:List D) (k:Nat),(zq k ds).length=ds.length
 |[],_=>rfl
 |d::ds,k=>by rw[zq,Xr,Xr,jzk ds]
theorem kzc:∀(ds:List D) (k i:Nat),(zq k ds)[i]?=(ds[i]?).map λd=>.tup [.int ((k+i:Nat):Int),d]
 |[],_,_=>by simp[zq]
 |d::ds,k,0=>by simp[zq]
 |d::ds,k,i+1=>by
  rw[zq,List.getElem?_cons_succ,List.getElem?_cons_succ,kzc ds,show k+1+i=k+(i+1)from by omega]
theorem qxw{x:Sl}{es:List D}{l:Addr}{H1:Hp}(hx:x.d=.lst es)(ev:x.v=.ref l):∀H2:Hp,x.let.ok K H2->∃ys cs,SqL K H2 l ys/\RepA K H2 true es ys cs/\∀b∈cs,b∈x.as:=λH2 hok=>by
 obtain⟨a',ys,cs,ue,q4,r4,h4,_⟩:=items hok (.inl hx);have:a'=l:=by have:=ue.symm.trans ev;exact V.ref.inj this
 subst this;rcases q4 with⟨_,z⟩|⟨z,_⟩
 ·exact⟨ys,cs,z.sq,r4,h4⟩
 ·rw[show x.let.d=D.lst es from hx]at z;cases z
theorem qkl{H2:Hp}{T:Addr}{d1 d2:D}{v1 v2:V}{b1 b2:List Addr}(hT:H2 T=none)(r1:RepL K H2 true d1 v1 b1)(r2:RepL K H2 true d2 v2 b2):RepL K (upd H2 T (.tup [v1,v2])) true (.tup [d1,d2]) (.ref T) (b1++b2):=by
 have sm:kJ H2 (upd H2 T (.tup [v1,v2])):=wY hT;unfold RepL;refine⟨T,[v1,v2],rfl,.inl (.inl xJ),?_⟩;unfold RepA;refine⟨v1,[v2],b1,b2,rfl,rfl,r1.kp (Kp.of_same sm),?_⟩;unfold RepA;refine⟨v2,[],b2,[],rfl,by simp,r2.kp (Kp.of_same sm),?_⟩;unfold RepA;exact⟨rfl,rfl⟩
theorem vvc(h:QE X Z q c e)(hg:Gl X "enumerate")(hm:X.mg "enumerate"=none)(hK:autoParam (X.K=Z.K) Ŕ)(hs:autoParam (starEach [e] X.env=[(false,eval e X.env)]) Ŕ):QI X Z q (.Tuple df k1 kf) (wqn c) (.Call (.Name "enumerate" p) [e] [] pos):=λpins s σ H R I ai=>ex8 ai λE L r m w hc xc k=>by
 refine(vx0 Z.K hg hm (xQ h zw hs) hK hs) pins s σ H R I ?_;refine VX m w (show bnd (c E) _=some r from hc) xc λE1 s h1 x L1 H1 e1 e2 m1 w1 st sm=>?_
 obtain⟨ds,hd,rfl⟩:=K6 h1;have ok:=w1.head;have wT:World Z.K H1 (L1++[x.let].map some):=by
  refine World.comm (L:=[some x.let]) ?_;exact w1.tail.consNo (Kv ok) rfl λb hb=>w1.apart b hb
 have sT:Step H L H1 (L1++[x.let].map some):=by
  refine⟨st.keep,λb hb=>?_,λb hb=>?_⟩
  ·have:b∈jq L1:=by simpa [V6]using hb
   exact st.own b (by rw[qk];exact lr9 _ this)
  ·have:b∈kj L1\/b∈x.as:=by simpa [V6]using hb
   rcases this with z|z
   ·exact st.frz b (by rw[wJ];exact lr9 _ z)
   ·exact jz7 st b z
 cases hx:x.d with
 | lst es=>
  rw[<-e2,hx]at hd;have ik:zq 0 es=ds:=oq9 hd;subst ik;obtain⟨a,xs,bs,ev,q3,r3,h3,_⟩:=items ok (.inl hx);have q3:LsR Z.K H1 a xs:=by rcases q3 with⟨_,z⟩|⟨z,_⟩;exact z;rw[hx]at z;cases z
  have be:=qxw (K:=Z.K) (H1:=H1) hx ev;refine⟨a,by rw[ev],xs,q3.sq,λae=>k _ _ rfl (Ite Z.K a) [x.let] L1 H1 m1 wT sT (by rw[jzk,r3.len];exact ae) (λhq=>(sm hq).1) ⟨λt ht=>by rw[List.mem_singleton.mp ht];rfl,λi H2 hok hi=>?_,λH2 hok=>?_,λi H2 v H3 d hok hy fq=>?_⟩⟩
  ·obtain⟨ys,cs,s1,s2,_⟩:=be H2 (hok _ (List.mem_singleton.mpr rfl));have hl:=s2.len;rw[jzk]at hi;exact⟨ys,ys[i]'(by omega),s1,X1 (by omega)⟩
  ·obtain⟨ys,cs,s1,s2,_⟩:=be H2 (hok _ (List.mem_singleton.mpr rfl));exact⟨ys,s1,by rw[jzk,s2.len];exact X8 _⟩
  ·obtain⟨ys,cs,s1,s2,s3⟩:=be H2 (hok _ (List.mem_singleton.mpr rfl));obtain⟨T,x',hT,rfl,rfl,hy⟩:=hy;rw[kzc]at fq;cases mj:es[i]? with
   |none=>rw[mj]at fq;cases fq
   |some d0=>
    rw[mj]at fq;cases oq9 fq;obtain⟨v',db,f1,f2,f3⟩:=s2.get mj;have:v'=x':=by have:=hy ys s1;rw[f1]at this;exact oq9 this
    subst this;have rp:=qkl (v1:=.int ((0+i:Nat):Int)) hT V1 f2;rw[show((0+i:Nat):Int)=(i:Int)from by omega]at rp ⊢;exact⟨⟨.no,_,.ref T,[]++db⟩,rfl,rfl,rfl,wY hT,rp,λb hb=>⟨x.let,List.mem_singleton.mpr rfl,s3 b (f3 b (by simpa using hb))⟩⟩
 |_=>rw[<-e2,hx]at hd;cases hd
end
end Q
namespace Q
open PySem PySem.Spec PyProof.Rows L2 L3
section
variable {X:Cx}{pins:List (Addr×Obj)}{σ:L2.St}{H:Hp}{s:Shared}{a b:Addr}{es:List Ent}{A:Around}{E:Value->Shared->Prop}{k:Kd}
mutual
theorem jxg(I:Inv X pins σ H s):∀{d:D} {v:V} {u:Value},PuR X.K H d v->RelV v u->jJ s.heap d u
 |.non,_,_,h,r=>by unfold PuR at h;rw[h]at r;unfold jJ;exact r
 |.int _,_,_,h,r=>by unfold PuR at h;rw[h]at r;unfold jJ;exact r
 |.tup ds,_,_,h,r=>by
  unfold PuR at h;obtain⟨a,xs,rfl,q,ra⟩:=h;cases r;obtain⟨aa,rv,p,_⟩:=I.tuple q;unfold jJ;exact⟨a,aa,rfl,p,purs_creps I ra rv⟩
 |.bl _,_,_,h,_=>by unfold PuR at h;exact h.elim
 |.str _,_,_,h,_=>by unfold PuR at h;exact h.elim
 |.lst _,_,_,h,_=>by unfold PuR at h;exact h.elim
 |.dct _,_,_,h,_=>by unfold PuR at h;exact h.elim
 |.obj _ _,_,_,h,_=>by unfold PuR at h;exact h.elim
theorem purs_creps(I:Inv X pins σ H s):∀{ds:List D} {xs:List V} {us:List Value},PuRs X.K H ds xs->Vals xs us->CReps s.heap ds us
 | [],_,_,h,r=>by unfold PuRs at h;rw[h]at r;cases r;unfold CReps;rfl
 | d::ds,_,_,h,r=>by
  unfold PuRs at h;obtain⟨x,rr,rfl,h1,h2⟩:=h;cases r with
  |cons r1 r2=>
   unfold CReps;exact⟨_,_,rfl,jxg I h1 r1,purs_creps I h2 r2⟩
end
mutual
theorem vvf{K:PySem.W.Frag}{g:Bool}:∀{n:Nat} {d:D} {v:V} {as:List Addr},k7 n d=true->RepL K H g d v as->PuR K H d v
 |_,.non,_,_,_,h=>by unfold RepL at h;unfold PuR;exact h.1
 |_,.int _,_,_,_,h=>by unfold RepL at h;unfold PuR;exact h.1
 |0,.tup _,_,_,hk,_=>by unfold k7 at hk;cases hk
 |n+1,.tup ds,_,_,hk,h=>by
  unfold k7 at hk;unfold RepL at h;obtain⟨a,xs,e,q,ra⟩:=h;unfold PuR;exact⟨a,xs,e,q,purs_of hk ra⟩
 |n,.bl _,_,_,hk,_=>by cases n<;>(unfold k7 at hk;cases hk)
 |n,.str _,_,_,hk,_=>by cases n<;>(unfold k7 at hk;cases hk)
 |n,.lst _,_,_,hk,_=>by cases n<;>(unfold k7 at hk;cases hk)
 |n,.dct _,_,_,hk,_=>by cases n<;>(unfold k7 at hk;cases hk)
 |n,.obj _ _,_,_,hk,_=>by cases n<;>(unfold k7 at hk;cases hk)
theorem purs_of{K:PySem.W.Frag}{g:Bool}:∀{n:Nat} {ds:List D} {xs:List V} {as:List Addr},keyDs n ds=true->RepA K H g ds xs as->PuRs K H ds xs
 |_,[],_,_,_,h=>by unfold RepA at h;unfold PuRs;exact h.1
 |n,d::ds,_,_,hk,h=>by
  unfold keyDs at hk;rw[Bool.and_eq_true]at hk;unfold RepA at h;obtain⟨x,r,bs,cs,rfl,rfl,h1,h2⟩:=h;unfold PuRs;exact⟨x,r,rfl,vvf hk.1 h1,purs_of hk.2 h2⟩
end
theorem qqc{ep:Nat}(I:Inv X pins σ H s)(h:H a=some (q9 a es ep))(hn:(es.map (·.1)).Nodup)(hk:∀x∈es,PuR X.K H x.1.1 (.ref x.2.1)):s.heap.DictOfH (kv0 X.prog X.w) a es:=by
 obtain⟨⟨o,ds,h1,h2,h3,h4⟩,_⟩:=(show ObjOk X.prog X.w H s.heap a (q9 a es ep)from I.hok a _ h);exact⟨o,ds,ep,h1,h2,h3,h4,λx hx=>jxg I (hk x hx) rfl,hn⟩
theorem qqk:∀(es:List Ent) (k:Kd),(atKey es k).isSome=decide (k.1∈es.map (·.1.1))
 | [],k=>by simp[atKey]
 | x::es,k=>by
  have ih:=qqk es k
  by_cases h:x.1=k
  ·have:k.1∈(x::es).map (·.1.1):=by rw[<-h];simp
   rw[Xb this];simp[atKey,List.find?_cons,h]
  ·have e1:atKey (x::es) k=atKey es k:=by simp[atKey,List.find?_cons,h]
   have e2:(k.1∈(x::es).map (·.1.1))↔k.1∈es.map (·.1.1):=by
    rw[List.map_cons,Yh];exact⟨λz=>z.elim (λq=>absurd (Subtype.ext q.symm) h) id,.inr⟩
   rw[e1,ih];exact decide_eq_decide.mpr e2.symm
theorem qj7(hu:A.units+64<cLine):(kv0 X.prog X.w).room A.in1:=by show A.units+1+40<cLine;omega
theorem vj7{ks:List D}{vs:List V}{Q:Value->Shared->Prop}(hu:A.units+64<cLine)(I:Inv X pins σ H s)(d:DcN X.K H a ks vs)(hk:PuR X.K H k.1 (.ref b))(h:∀s',Inv X pins σ H s'->Q (.bool (!decide (k.1∈ks))) s'):wpAny (model X.prog X.w) A (compareOp .NotIn (.ref b) (.ref a)) Q E s:=by
 obtain⟨es,ep,e,h1,h2,h3,rfl,h5,h6⟩:=d;refine wpAny_notIn_heap (knd:=kv0 X.prog X.w) (qj7 hu) (jxg I hk rfl) h1 (qqc I e h3 h5) ?_;rw[qqk];exact h _ (I.tok _)
end
noncomputable def wz0(K:PySem.W.Frag)(lf:Bool):R2:=λx y H Q=>∃(k:Kd) (b a:Addr) (ks:List D) (vs:List V),x=.ref b/\y=.ref a/\PuR K H k.1 (.ref b)/\DcN K H a ks vs/\Q (.bl (if lf then !decide (k.1∈ks)else decide (k.1∈ks))) H
theorem vq3{X:Cx}{K:PySem.W.Frag}(hu:X.A.units+64<cLine)(hK:autoParam (X.K=K) Ŕ):OpR X (compareOp .NotIn) (wz0 K true):=by
 subst hK;intro pins s σ H x y u v Q I rx ry ⟨k,b,a,ks,vs,e1,e2,hk,hd,q⟩;subst e1 e2;cases rx;cases ry;exact vj7 hu I hd hk λs' I'=>⟨.bl _,H,I',rfl,q⟩
theorem vj9{K:PySem.W.Frag}{H:Hp}{y:Sl}{kvs:List (D×D)}(ok:y.ok K H)(hd:y.d=.dct kvs)(hu:unm kvs=true):∃a xs,y.v=.ref a/\DcN K H a (kvs.map (·.1)) xs:=by
 have h:=RepO.wk ok;rw[hd]at h;unfold RepL at h;obtain⟨a,xs,bs,e,_,q,_⟩:=h;exact⟨a,xs,e,DcA.un q hu⟩
theorem jxi{K:PySem.W.Frag}{H:Hp}{x:Sl}(ok:x.ok K H)(hk:vW x.d=true):∃b,x.v=.ref b/\PuR K H x.d (.ref b):=by
 unfold vW at hk;rw[Bool.and_eq_true]at hk;have h:=vvf hk.1 (RepO.wk ok);cases hd:x.d with
 |tup ds=>
  rw[hd]at h;have h':=h;unfold PuR at h;obtain⟨a,xs,e,_⟩:=h;exact⟨a,e,e▸h'⟩
 |_=>rw[hd]at hk;cases hk.2
theorem vjx{K:PySem.W.Frag}:Ad2 K (wz0 K true) (pu2 Wz):=by
 intro H x y s Q ox oy hf k;unfold pu2 Wz at hf;dsimp only at hf;cases hy:y.d with
 | dct kvs=>
  rw[hy]at hf;dsimp only at hf
  by_cases hk:vW x.d=true/\unm kvs=true
  ·rw[X9 hk]at hf;cases oq9 hf;obtain⟨a,xs,e,q⟩:=vj9 oy hy hk.2;obtain⟨b,eb,pb⟩:=jxi ox hk.1;have ii:k7 6 x.d=true:=by have hk:=hk.1;unfold vW at hk;rw[Bool.and_eq_true]at hk;exact hk.1
   exact⟨⟨x.d,ii⟩,b,a,_,xs,eb,e,pb,q,k ⟨.dp,.bl _,.bl _,[]⟩ H rfl rfl xY⟩
  ·rw[Xd hk]at hf;cases hf
 |_=>rw[hy]at hf;cases hf
theorem vju(x y s:Sd)(h:pu2 Wz x y=some s):∃k,s.2=.bl k:=by
 unfold pu2 Wz at h;cases hy:y.2 with
 |dct kvs=>
  rw[hy]at h;dsimp only at h
  by_cases hk:vW x.2=true/\unm kvs=true
  ·rw[X9 hk]at h;cases oq9 h;exact⟨_,rfl⟩
  ·rw[Xd hk]at h;cases h
 |_=>rw[hy]at h;cases h
theorem vj8{P:Program}{w:PySem.World}{H:Hp}(h:Heap):ObjOk P w H (h.push { cls:=.type "dict",data:=.dict #[] }) h.objs.size (q9 h.objs.size [] 0):=
 ⟨⟨_,#[],Xj _ rfl,⟨rfl,rfl,rfl⟩,rfl,rfl⟩,⟨_,Xj _ rfl⟩,λh1 h2 ⟨o,ds,a1,a2⟩ k=>⟨o,ds,k o a1,a2⟩⟩
abbrev wvz:TE:=λ_ H Q=>∀p,H p=none->(p==sysModules)=false->Q (.ref p) (upd H p (q9 p [] 0))
theorem vx4{X:Cx}{pos:Pos}:PE X (.Dict [] [] pos) wvz:=λpins s σ H Q I h=>
 wpAny_Dict_empty ⟨.ref s.heap.objs.size,_,I.laid (a:=s.heap.objs.size) (o:=q9 s.heap.objs.size [] 0) (t':=s.toks) (λ_ _ q=>X6 _ q) (X8 _) (vj8 s.heap),rfl,h _ (I.hok.fresh (X8 _)) (by
  have:=I.big;exact beq_false_of_ne (Nat.ne_of_gt this))⟩
theorem wk3{X:Cx}{Z:Fx0}{pos:Pos}:QE X Z true vzp (.Dict [] [] pos):=vx vx4 fun σ H Q ai=>ex8 ai λE L r m w hc xc k=>by
 intro p hp hs;cases oq9 hc;have sm:kJ H (upd H p (q9 p [] 0)):=wY hp;refine k _ _ rfl ⟨.rt,.dct [],.ref p,[p]⟩ L _ rfl rfl m ?_ ?_ λ_=>⟨sm,λb hb=>?_⟩
 ·refine World.cons ⟨λt ht=>RepO.kp (w.ok t ht) (Kp.of_same sm),w.nd,w.ds⟩ ?_ ?_ ?_ ?_ ?_ ?_
  ·exact⟨p,[],[],rfl,by unfold RepP;exact⟨rfl,rfl⟩,.inl ⟨[],0,xJ,hs,Y9 _,Xx,rfl,λ_ z=>absurd z Xw,Paired.nil⟩,rfl⟩
  ·simp[Sl.own]
  ·intro b hb ho;have:b=p:=by simpa [Sl.own]using hb
   subst this;exact w.own_some ho hp
  ·intro b hb ho;have:b=p:=by simpa [Sl.own]using hb
   subst this;exact w.frz_some ho hp
  ·intro b hb;simp[Sl.frz]at hb
  ·intro b _ hb;simp[Sl.frz]at hb
 ·refine⟨λb ob h _=>sm b ob h,λb hb=>?_,λb hb=>?_⟩
  ·rw[qk]at hb;rcases List.mem_append.mp hb with z|z
   ·have:b=p:=by simpa [Sl.own]using z
    exact .inr (this▸hp)
   ·exact .inl z
  ·rw[wJ]at hb;rcases List.mem_append.mp hb with z|z
   ·simp[Sl.frz]at z
   ·exact .inl z
 ·have:b=p:=by simpa [Sl.own]using hb
  exact this▸hp
end Q
namespace Q
open PySem PySem.Spec PyProof.Rows L2 L3
section
variable {K:PySem.W.Frag}{H:Hp}{g:Bool}{k:Kd}{b:Addr}{d:D}{x:V}{r:Value}{cs:List Addr}
theorem qwm (hx : RepL K H g d x cs) (hr : RelV x r): ∀{kvs : List (D × D)} {xs : List V} {bs : List Addr} {es : List Ent}, RepP K H g kvs xs bs -> kvs.map (·.1) = es.map (·.1.1) -> Vals xs (es.map (·.2.2)) ->
    ∃ xs' db, RepP K H g (kvs.map λe=>if e.1 = k.1 then(k.1, d)else e) xs' db /\ Vals xs' ((es.map (putAt k r)).map (·.2.2)) /\ ∀a ∈ db, a ∈ bs \/ a ∈ cs
  | [], _, _, [], h, _, _=>⟨[], [], by unfold RepP; exact⟨rfl, rfl⟩, Paired.nil, λ_ z=>nomatch z⟩
  | [], _, _, _::_, _, h, _=>by simp at h
  | _ :: _, _, _, [], _, h, _=>by simp at h
  | (q, e)::kvs, _, _, n::es, h, hk, hv=>by
    unfold RepP at h;obtain⟨y, rr, b1, b2, rfl, rfl, h1, h2⟩:= h;rw [List.map_cons, List.map_cons]at hk;injection hk with k1 k2;rw [List.map_cons]at hv;cases hv with
    | cons v1 v2=>
      obtain⟨xs', db, i1, i2, i3⟩:= qwm hx hr h2 k2 v2
      by_cases hq : q = k.1
      · have hn : n.1 = k:= Subtype.ext (by rw[<-hq]; exact k1.symm)
        refine⟨x::xs', cs ++ db, ?_, ?_, λa ha=> ?_⟩
        · rw[List.map_cons, X9 hq]
          unfold RepP;exact⟨x, xs', cs, db, rfl, rfl, hx, i1⟩
        · rw[List.map_cons, List.map_cons]
          refine .cons ?_ i2;unfold putAt;rw[X9 hn];exact hr
        · rcases List.mem_append.mp ha with z|z
          · exact .inr z
          · exact(i3 a z).imp (lr9 _) id
      · have hn : ¬n.1 = k:= λz=>hq (by rw[<-z]; exact k1)
        refine⟨y::xs', b1 ++ db, ?_, ?_, λa ha=> ?_⟩
        · rw[List.map_cons, Xd hq]
          unfold RepP;exact⟨y, xs', b1, db, rfl, rfl, h1, i1⟩
        · rw[List.map_cons, List.map_cons]
          refine .cons ?_ i2;unfold putAt;rw[Xd hn];exact v1
        · rcases List.mem_append.mp ha with z|z
          · exact .inl (ll9 _ z)
          · exact(i3 a z).imp (lr9 _) id
theorem kki{q : D}(hx : RepL K H g d x cs): ∀{kvs : List (D × D)} {xs : List V} {bs : List Addr}, RepP K H g kvs xs bs -> RepP K H g (kvs ++ [(q, d)]) (xs ++ [x]) (bs ++ cs)
  | [], _, _, h=>by
    unfold RepP at h;obtain⟨rfl, rfl⟩:= h;show RepP K H g [(q, d)] [x] cs;unfold RepP;exact⟨x, [], cs, [], rfl, by simp, hx, by unfold RepP; exact⟨rfl, rfl⟩⟩
  | (p, e)::kvs, _, _, h=>by
    unfold RepP at h;obtain⟨y, rr, b1, b2, rfl, rfl, h1, h2⟩:= h;rw[List.cons_append];unfold RepP;exact⟨y, rr ++ [x], b1, b2 ++ cs, rfl, by rw[Xz], h1, kki hx h2⟩
theorem kk6:∀{xs:List V} {us:List Value},Vals xs us->RelV x r->Vals (xs++[x]) (us++[r])
 |_,_,.nil,h=>.cons h .nil
 |_,_,.cons a t,h=>.cons a (kk6 t h)
theorem vwo{kvs:List (D×D)}{xs:List V}{bs:List Addr}{es:List Ent}(hx:RepL K H g d x cs)(hr:RelV x r)(h:RepP K H g kvs xs bs)(hk:kvs.map (·.1)=es.map (·.1.1))(hv:Vals xs (es.map (·.2.2)))(hn:(es.map (·.1)).Nodup)(hp:∀n∈es,PuR K H n.1.1 (.ref n.2.1))(hb:PuR K H k.1 (.ref b)):
  ∃ xs' db,RepP K H g (K5 kvs k.1 d) xs' db/\(K5 kvs k.1 d).map (·.1)=(storedH es k b r).map (·.1.1)/\Vals xs' ((storedH es k b r).map (·.2.2))/\((storedH es k b r).map (·.1)).Nodup/\(∀n∈storedH es k b r,PuR K H n.1.1 (.ref n.2.1))/\(storedH es k b r).length<=es.length+1/\∀a∈db,a∈bs\/a∈cs:=by
 have hm:=qqk es k;rw [<-hk]at hm;cases ha:atKey es k with
 | some p=>
  rw[ha]at hm;have fi:k.1∈kvs.map (·.1):=Z3 hm.symm;rw[storedH_old ha];unfold K5;rw[X9 fi];obtain⟨xs',db,i1,i2,i3⟩:=qwm (k:=k) hx hr h hk hv;refine⟨xs',db,i1,?_,i2,by rw[keys_map_putAt];exact hn,λn qd=>?_,by rw[X4];omega,i3⟩
  ·have e1:(es.map (putAt k r)).map (·.1.1)=es.map (·.1.1):=by
    rw[Y2];refine Y5 λn _=>?_
    show(putAt k r n).1.1=n.1.1;unfold putAt
    by_cases z:n.1=k
    ·rw[X9 z]
    ·rw[Xd z]
   rw[e1,<-hk,Y2];refine Y5 λe _=>?_
   show(if e.1=k.1 then(k.1,d)else e).1=e.1
   by_cases z:e.1=k.1
   ·rw[X9 z];exact z.symm
   ·rw[Xd z]
  ·obtain⟨m,lh,rfl⟩:=List.mem_map.mp qd;have:=hp m lh;unfold putAt
   by_cases z:m.1=k
   ·rw[X9 z];exact this
   ·rw[Xd z];exact this
 | none=>
  rw[ha]at hm;have fi:¬k.1∈kvs.map (·.1):=of_decide_eq_false hm.symm;rw[storedH_new ha];unfold K5;rw[Xd fi];refine⟨xs++[x],bs++cs,kki hx h,by rw[Xp,Xp,hk];rfl,by rw[Xp];exact kk6 hv hr,?_,λn qd=>?_,by simp,λa z=>List.mem_append.mp z⟩
  ·rw[Xp,Xf];refine⟨hn,by simp,λp og q hq e=>?_⟩;have:q=k:=by simpa using hq
   subst this e;obtain⟨n,j',mz⟩:=List.mem_map.mp og;exact fi (by rw[hk];exact List.mem_map.mpr ⟨n,j',by rw[mz]⟩)
  ·rcases List.mem_append.mp qd with z|z
   ·exact hp n z
   ·rw[List.mem_singleton.mp z];exact hb
end
section
variable {X:Cx}{pins:List (Addr×Obj)}{σ:L2.St}{H:Hp}{s:Shared}{a b:Addr}{es:List Ent}{A:Around}{E:Value->Shared->Prop}{k:Kd}{r:Value}
theorem vzk{ep:Nat}{Q:Unit->Shared->Prop}(hu:A.units+64<cLine)(I:Inv X pins σ H s)(e:H a=some (q9 a es ep))(h2:es.length<=sizeLine)(h3:(es.map (·.1)).Nodup)(h5:∀x∈es,PuR X.K H x.1.1 (.ref x.2.1))(hk:PuR X.K H k.1 (.ref b))
  (h:∀ep' s',Inv X pins σ (upd H a (q9 a (storedH es k b r) ep')) s'->Q () s'):wpAny (model X.prog X.w) A (setItem (.ref a) (.ref b) r) Q E s:=by
 refine wpAny_setItem_heap (knd:=kv0 X.prog X.w) (hsz:=h2) (qj7 hu) (jxg I hk rfl) (qqc I e h3 h5) λh' dd hs=>?_
 obtain⟨q,ds,ep',hq,g2,g3,g4,_,_⟩:=dd;exact h ep' _ (qk1 I (by rw[e];exact True.intro) hs ⟨q,hq⟩ ⟨⟨q,ds,hq,g2,g3,g4⟩,⟨q,hq⟩,λh1 h2 ⟨o,ds,a1,a2⟩ k=>⟨o,ds,k o a1,a2⟩⟩)
end
theorem qje{K:PySem.W.Frag}{H:Hp}{T L:Ls}{i:Nat}{y:Sl}{l:Addr}{es es':List Ent}{ep ep':Nat}{xs':List V}{bs cs:List Addr}{kvs':List (D×D)}(w:World K H (T++L))(hy:L[i]?=some (some y))(hH:H l=some (q9 l es ep))(ho:y.o=.rt)(ha:y.as=l::bs)(hv:y.v=.ref l)
  (r:RepP K H true kvs' xs' cs) (hc:∀a∈cs,a∈bs\/a∈jq T\/a∈kj T) (hs:(l==sysModules)=false) (h2:es'.length<=sizeLine) (h3:(es'.map (·.1)).Nodup) (h4:kvs'.map (·.1)=es'.map (·.1.1)) (h5:∀n∈es',PuR K H n.1.1 (.ref n.2.1)) (h6:Vals xs' (es'.map (·.2.2))):
  World K (upd H l (q9 l es' ep')) (L.set i (some ⟨.rt,.dct kvs',y.v,l::cs⟩))/\Step H (T++L) (upd H l (q9 l es' ep')) (L.set i (some ⟨.rt,.dct kvs',y.v,l::cs⟩)):=by
 have hl:l∈y.own:=by unfold Sl.own;rw[ho,ha];simp
 have oL:l∈jq L:=mem_owned.mpr ⟨y,xq hy,hl⟩;have oy:l∈jq (T++L):=by rw[kq];exact lr9 _ oL
 have nd:=w.nd;rw[kq,Xf]at nd;have nT:l∉jq T:=λz=>nd.2.2 l z l oL rfl
 have nF:l∉kj T:=λz=>w.ds l oy (by rw[qY];exact ll9 _ z)
 have nb:l∉bs:=λz=>by
  have:l∈y.frz:=by unfold Sl.frz;rw[ho,ha];exact z
  exact w.ds l oy (by rw[qY];exact lr9 _ (mem_frozen.mpr ⟨y,xq hy,this⟩))
 have nc:l∉cs:=λz=>by
  rcases hc l z with q|q|q
  ·exact nb q
  ·exact nT q
  ·exact nF q
 have kp:Kp H (upd H l (q9 l es' ep')) cs:=by
  have k2:∀a o,H a=some o->a≠l->upd H l (q9 l es' ep') a=some o:=λa o e ne=>by rw[v4 ne];exact e
  refine⟨λa zs e=>k2 a _ e λz=>?_,λa o u e=>k2 a _ e λz=>?_,λa ha o e=>k2 a o e λz=>nc (z▸ha)⟩
  ·subst z;rw[hH]at e;cases e
  ·subst z;rw[hH]at e;cases e
 refine World.writeAt w hy hl (y':=⟨.rt,.dct kvs',y.v,l::cs⟩) ⟨l,xs',cs,hv,r.kp kp,.inl ⟨es',ep',xJ,hs,h2,h3,h4,λn hn=>PuR.kp kp (h5 n hn),h6⟩,rfl⟩ (by simp[Sl.own]) (λa h=>?_) (λa h=>?_) (λa h z=>?_)
 ·have:a=l:=by simpa [Sl.own]using h
  subst this;exact .inl hl
 ·rcases hc a (by simpa [Sl.frz]using h)with q|q
  ·exact .inl (by rw[ha];exact lc9 _ q)
  ·exact .inr q
 ·have:a=l:=by simpa [Sl.own]using h
  subst this;exact nc (by simpa [Sl.frz]using z)
abbrev vwf(K:PySem.W.Frag)(td ty tv:TE):TS:=λD σ H=>tv σ H λv H1=>td σ H1 λx H2=>ty σ H2 λy H3=>∃a b k es ep,x=.ref a/\y=.ref b/\H3 a=some (q9 a es ep)/\es.length<=sizeLine/\(es.map (·.1)).Nodup/\(∀n∈es,PuR K H3 n.1.1 (.ref n.2.1))/\PuR K H3 k.1 (.ref b)/\∀r ep',RelV v r->D.nx σ (upd H3 a (q9 a (storedH es k b r) ep'))
theorem qx3{X:Cx}{o i value:Expr}{td ty tv:TE}{pos cf:Pos}(hu:X.A.units+64<cLine)(ho:PE X o td)(hi:PE X i ty)(hv:PE X value tv)(hs:swapsWith value (some (.Subscript o i cf)) pos.line X.env=pure false):
  PS X (.Assign [.Subscript o i cf] value pos) (vwf X.K td ty tv):=by
 intro pins s σ H D I h;refine wpAny_Assign_Subscript (thn (hv pins s σ H _ I h) λr s1 hq1=>?_) hs;obtain⟨v,H1,I1,rv,q1⟩:=hq1;refine thn (ho pins s1 σ H1 _ I1 q1) λu s2 uf=>?_
 obtain⟨x,H2,I2,rx,q2⟩:=uf;refine thn (hi pins s2 σ H2 _ I2 q2) λiv s3 hq3=>?_
 obtain⟨y,H3,I3,ry,a,b,k,es,ep,ex,ey,e,h2,h3,h5,hk,q3⟩:=hq3;subst ex ey;obtain rfl:u=Value.ref a:=rx;obtain rfl:iv=Value.ref b:=ry;exact vzk hu I3 e h2 h3 h5 hk λep' s4 I4=>⟨σ,_,I4,q3 r ep' rv⟩
section
variable {X:Cx}{Z:Fx0}{pn:List Nat}{q:Bool}{kc vc:Ex}{o ke ve:Expr}{pos cf:Pos}
theorem wk2 {i:Nat} (hu:X.A.units+64<cLine) (hK:X.K=Z.K) (ho:PE X o (Kx i)) (hk:QV X Z true kc ke) (hv:QE X Z q vc ve) (hs:autoParam (swapsWith ve (some (.Subscript o ke cf)) pos.line X.env=pure false) Ŕ):
  QS X Z pn (vkm i kc vc) (.Assign [.Subscript o ke cf] ve pos):=Kz (qx3 hu ho hk hv hs) λD σ H ai=>ex7 ai λE L r m w hr k=>
 YZ m w hr k λE1 s1 h1 x L1 H1 e1 e2 m1 w1 js _=>by
  by_cases hd:vxx E1[i]?=true
  ·rw [X9 hd]at h1;obtain ⟨d0,hd0⟩:∃d0,E1[i]?=some (some (.rt,d0)):=by
    cases h0:E1[i]? with
    | none=>rw[h0]at hd;cases hd
    | some s0=>
     cases s0 with
     | none=>rw[h0]at hd;cases hd
     | some s0=>
      obtain⟨oo,dd⟩:=s0;cases oo with
      | rt=>exact⟨dd,rfl⟩
      | no=>rw[h0]at hd;cases hd
      | dp=>rw[h0]at hd;cases hd
   obtain ⟨y0,a1,a2,a3,a4⟩:=m1.get hd0;refine ⟨y0.v,a4,?_⟩;have stL:Step H L H1 L1:=js.trans Step.drop;rcases jzd h1 with⟨E2,ky,ie,ij⟩|⟨E2,c,ie,rfl⟩
   ·refine⟨E1,L1,_,m1,w1.tail,ie,(λ_ _ z=>by cases z),λE' s' z zk L2 H2 f1 f2 m2 w2 okz frz _ b7 sm=>?_⟩;injection z with z1 z2;subst z1 z2;cases hE:E2[i]? with
    | none=>rw[hE]at ij;cases ij
    | some s2=>
     cases s2 with
     | none=>rw[hE]at ij;cases ij
     | some s2=>
      obtain⟨oo,dd⟩:=s2;rw [hE]at ij;cases oo with
      | no=>cases dd<;>cases ij
      | dp=>cases dd<;>cases ij
      | rt=>
       cases dd with
       | dct kvs=>
        dsimp only at ij
        by_cases hc:vW ky.2=true/\kvs.length<big/\unm kvs=true
        ·rw[X9 hc]at ij;cases oq9 ij;obtain⟨y,b1,b2,b3,b4⟩:=m2.get hE;have hyv:y.v=y0.v:=by rw[a4]at b4;exact(oq9 (oq9 b4)).symm
         obtain⟨w3,cw⟩:=WQ (T:=[some x]) w1 b7 w2;have oky:y.ok Z.K H2:=w2.ok y (xq b1);obtain⟨yo,yd,yv,yas⟩:=y;dsimp only at b2 b3 hyv;subst b2 b3;obtain⟨a,xs,bs,e4,rp,q4,e5⟩:=(show RepR Z.K H2 (.dct kvs) yv yas from oky);obtain⟨es,ep,g1,g2,g3,g4,g5,g6,g7⟩:=DcA.un q4 hc.2.2;have n9:vW zk.d=true:=by rw[f2];exact hc.1
         obtain⟨b,eb,pb⟩:=jxi okz n9;have ii:k7 6 zk.d=true:=by unfold vW at n9;rw[Bool.and_eq_true]at n9;exact n9.1
         have ae:es.length<sizeLine:=by
          have:=congrArg List.length g5;rw[X4,X4]at this;rw[<-this];exact hc.2.1
         have rx:RepL Z.K H2 true s1.2 x.v x.as:=by rw[<-e2];exact RepO.wk (w3.ok x X3)
         refine⟨a,b,⟨zk.d,ii⟩,es,ep,hyv▸e4,eb,g1,g3,g4,by rw[hK];exact g6,by rw[hK];exact pb,λrr ep' uh=>?_⟩;obtain⟨xs',db,p1,p2,p3,p4,p5,p6,p7⟩:=vwo (k:=⟨zk.d,ii⟩) (b:=b) rx uh rp g5 g7 g4 g6 pb;obtain⟨w4,jo⟩:=qje (ep':=ep') (T:=[some x]) (i:=i) (y:=⟨.rt,.dct kvs,yv,yas⟩) w3 b1 g1 rfl e5 e4 p1 (λc ja=>(p7 c ja).imp id λz=>by
          rcases Sl.as_of z with z|z
          ·exact .inl (by simpa using z)
          ·exact .inr (by simpa using z)) g2 (by omega) p4 p2 p5 p3
         have n6:Step H L _ _:=(js.trans cw).trans jo;refine k σ _ _ Pn.refl ?_ w4 n6;have:=m2.set (x:=⟨.rt,.dct (K5 kvs zk.d s1.2),yv,a::db⟩) i;rw[XW b4]at this;rw[<-f2];exact this
        ·rw[Xd hc]at ij;cases ij
       |_=>cases ij
   ·exact⟨E1,L1,_,m1,w1.tail,ie,(λE' c' e C L' H' hm m' w' st=>by injection e with z1 z2;subst z1 z2;exact k C σ L' H' hm Pn.refl m' w' (stL.trans st)),λE' s' z=>by cases z⟩
  ·rw[Xd hd]at h1;cases h1
end
end Q
namespace Q
open PySem PySem.Spec PyProof.Rows L2 L3
noncomputable def zK(h:Heap)(a:Addr)(ts:List DictEntry)(ep:Nat):Prop:=∃ob cx,h.get? a=some ob/\ob.ExactDict/\ob.data=.dict cx ep/\cx.toList=ts
section
variable {prog:Program}{w:PySem.World}{A:Around}{E:Value->Shared->Prop}{s:Shared}{a v it:Addr}{ts:List DictEntry}{ep i:Nat}{k0 v0:Value}
theorem qvl{Q:Value->Shared->Prop}(hv:s.heap.IsItemsView v a)(hd:zK s.heap a ts ep)
  (q:Q (.ref s.heap.objs.size) { s with heap:=s.heap.push { cls:=.type "dict_itemiterator",data:=.fields #[.none,.bool false,.ref a,.int 0 0,.int ts.length 0,.int ep 0,.none,.none] } }):wpAny (model prog w) A (pyIter (.ref v)) Q E s:=by
 obtain⟨ob,cx,g1,g2,g3,g4⟩:=hd;have ty:=hv.typeIs;obtain⟨vo,hvo,_,hvd⟩:=hv;have hl:cx.size=ts.length:=by rw[<-g4];simp
 refine wpAny_pyIter_slot ty F.slot_dict_items_iter (Y7 F.slot_dict_items_iter ty F.entry_dict_items_iter ?_ (F.args_dict_items_iter_1 _));unfold Builtin.«dict_items.__iter__» Builtin.Dict_items.dictOf Builtin.Dict_items.newIterator;refine X0 (X5 (X0 (X0 (Yl hvo hvd (x:=.ref a) rfl (X5 (X0 (X0 (Yj g1 g3 (X0 (wpAny_dictEpoch g1 g3 ?_))))))))));simp only[show Builtin.Dict_items.ownsTuple "dict_itemiterator"=true by decide,if_true];refine Y0 (X5 ⟨_,rfl,"dict_itemiterator",_,⟨_,Xj _ rfl,rfl⟩,F.slot_dict_itemiterator_next.lookup,?_⟩) (by simp only[sizeOk,Builtin.Dict_items.ownedTupleFields,X7,Xi,Xr,List.length_nil,sizeLine_eq];omega)
 simpa [rawInt,hl,Builtin.Dict_items.ownedTupleFields]using q
theorem qvk{en:DictEntry}{Q:Option Value->Shared->Prop}(hi:IsItemIter s.heap it a i ts.length ep k0 v0)(hd:zK s.heap a ts ep)(hx:ts[i]?=some en)
  (q:∀h',IsItemIterOut h' it a (i+1) ts.length ep en.key en.val s.heap.objs.size->h'.get? s.heap.objs.size=some { cls:=.type "tuple",data:=.seq #[en.key,en.val] }->h'.objs.size=s.heap.objs.size+1 ->
   (∀b o,b≠it->s.heap.get? b=some o->h'.get? b=some o)->Q (some (.ref s.heap.objs.size)) { s with heap:=h' }):wpAny (model prog w) A (pyNext (.ref it)) Q E s:=by
 obtain⟨hp,gs,dw,tk,os⟩:=s;obtain⟨ob,cx,g1,g2,g3,g4⟩:=hd;have ty:Shared.TypeIs ⟨hp,gs,dw,tk,os⟩ (.ref it) "dict_itemiterator":=⟨_,hi,rfl⟩;have hl:cx.size=ts.length:=by rw[<-g4];simp
 have b8:i<cx.size:=by rw[hl];exact(List.getElem?_eq_some_iff.mp hx).1
 have la:cx[i]=en:=by
  rw[<-g4,Yp,Yn b8]at hx;exact oq9 hx
 have ow:Builtin.Dict_items.ownsTuple "dict_itemiterator"=true:=by decide
 unfold pyNext;refine X0 (wpAny_attempt (Yf (name:=Str.ofString "__next__") ty Yt (Y7 Yt ty F.entry_dict_itemiterator_next ?_ (F.args_dict_itemiterator_next_1 _))));refine X0 (X5 (X0 (X0 ?_)))
 first
  |refine X0 (Yq ty (X5 (X0 (Z0 hi rfl ?_))))
  |refine X0 (wpAny_typeNameOf_itemiter ty (X5 (X0 (Z0 hi rfl ?_))))
 simp only[ow,if_true];show wpAny _ _ (if(Value.ref a==Value.none)=true then _ else _) _ _ _;rw[Xd (show ¬((Value.ref a==Value.none)=true)from λz=>nomatch z)];refine X0 (X5 (X0 (Yj g1 g3 ?_)));rw[Xd (by rw[hl];simp)];refine X0 (X5 (X0 (wpAny_dictEpoch g1 g3 ?_)));rw[Xd (by simp)];refine X5 ?_;simp only[show ¬((i:Int)<0)from by omega,if_false,Xs,Yn b8,la];refine X0 ?_
 first
  |refine X0 (Yq ty (X5 (X0 (wpAny_isOneOf_itemiter ty ?_))))
  |refine X0 (wpAny_typeNameOf_itemiter ty (X5 (X0 (wpAny_isOneOf_itemiter ty ?_))))
 show wpAny _ _ (setField (.ref it) 3 (rawInt ((i:Int)+1)) >>= _) _ _ ⟨hp,gs,dw,tk,os⟩;have kt:it<hp.objs.size:=Xl hi;refine X0 (wpAny_setField_rec hi (by simp) λha ea sa=>?_);have sa:Heap.SameBut it hp ha:=sa;have ea:IsItemIter ha it a (i+1) ts.length ep k0 v0:=by
  unfold IsItemIter;rw[show((i+1:Nat):Int)=(i:Int)+1 by omega]
  simpa [rawInt]using ea
 have ta:Shared.TypeIs ⟨ha,gs,dw,tk,os⟩ (.ref it) "dict_itemiterator":=⟨_,ea,rfl⟩;refine X0 (Yr (X0 (wpAny_isOneOf_itemiter ta (X0 (wpAny_isOneOf_itemiter ta ?_)))));show wpAny _ _ (Builtin.Dict_items.pairFromOwner (.ref it) 6 en.key en.val) _ _ ⟨ha,gs,dw,tk,os⟩;unfold Builtin.Dict_items.pairFromOwner Builtin.Dict_items.ownedTupleIsFree;refine X0 (wpAny_newTuple ?_);have za:ha.objs.size=hp.objs.size:=sa.1;have eb:IsItemIter (ha.push { cls:=.type "tuple",data:=.seq #[en.key,en.val] }) it a (i+1) ts.length ep k0 v0:=X6 _ ea;have tb:(ha.push { cls:=.type "tuple",data:=.seq #[en.key,en.val] }).get? hp.objs.size=some { cls:=.type "tuple",data:=.seq #[en.key,en.val] }:=by rw[<-za];exact Xj _ rfl
 have zb:(ha.push { cls:=.type "tuple",data:=.seq #[en.key,en.val] }).objs.size=hp.objs.size+1:=by rw[Heap.size_push,za]
 have kb:∀b o,b≠it->hp.get? b=some o->(ha.push { cls:=.type "tuple",data:=.seq #[en.key,en.val] }).get? b=some o:=λb o hb e=>X6 _ (sa.extBut b o hb e)
 rw[za];show wpAny _ _ (_ >>= _) _ _ ⟨ha.push { cls:=.type "tuple",data:=.seq #[en.key,en.val] },gs,dw,tk,os⟩;generalize ha.push { cls:=.type "tuple",data:=.seq #[en.key,en.val] }=hb at eb tb zb kb;refine X0 (X0 (Yl eb rfl (x:=.none) rfl (X5 ?_)));simp only[if_true];refine X0 (Yl eb rfl (x:=k0) rfl (X0 (Yl eb rfl (x:=v0) rfl ?_)));refine X0 (wpAny_setField_rec eb (by simp) λhc ec sc=>X0 (wpAny_setField_rec (show IsItemIter hc it a (i+1) ts.length ep en.key v0 from ec) (by simp) λik ed sd=>?_));refine X0 (wpAny_setField_rec (show IsItemIter ik it a (i+1) ts.length ep en.key en.val from ed) (by simp) λhe ee se=>?_);refine X0 (wpAny_setField_rec (show IsItemIterOut he it a (i+1) ts.length ep en.key en.val hp.objs.size from ee) (by simp) λhf ef sf=>?_);have s1:Heap.SameBut it hb hc:=sc;have s2:Heap.SameBut it hc ik:=sd;have s3:Heap.SameBut it ik he:=se;have s4:Heap.SameBut it he hf:=sf;have all:∀b o,b≠it->hb.get? b=some o->hf.get? b=some o:=λb o n e=>s4.extBut b o n (s3.extBut b o n (s2.extBut b o n (s1.extBut b o n e)))
 exact X0 (wpAny_letGo (X5 (X5 ⟨_,rfl,X5 (q hf ef (all _ _ (Nat.ne_of_gt kt) tb) (by rw[s4.1,s3.1,s2.1,s1.1,zb]) λb o n e=>all b o n (kb b o n e))⟩)))
theorem qvj{Q:Option Value->Shared->Prop}(hh:A.handled=none)(hi:IsItemIter s.heap it a i ts.length ep k0 v0)(hd:zK s.heap a ts ep)(hx:ts.length<=i)(q:∀h',Heap.ExtBut it s.heap h'->Q none { s with heap:=h' }):wpAny (model prog w) A (pyNext (.ref it)) Q E s:=by
 obtain⟨ob,cx,g1,g2,g3,g4⟩:=hd;have ty:s.TypeIs (.ref it) "dict_itemiterator":=⟨_,hi,rfl⟩;have hl:cx.size=ts.length:=by rw[<-g4];simp
 have ow:Builtin.Dict_items.ownsTuple "dict_itemiterator"=true:=by decide
 unfold pyNext;refine X0 (wpAny_attempt (Yf (name:=Str.ofString "__next__") ty Yt (Y7 Yt ty F.entry_dict_itemiterator_next ?_ (F.args_dict_itemiterator_next_1 _))));refine X0 (X5 (X0 (X0 ?_)))
 first
  |refine X0 (Yq ty (X5 (X0 (Z0 hi rfl ?_))))
  |refine X0 (wpAny_typeNameOf_itemiter ty (X5 (X0 (Z0 hi rfl ?_))))
 simp only[ow,if_true];show wpAny _ _ (if(Value.ref a==Value.none)=true then _ else _) _ _ s;rw[Xd (show ¬((Value.ref a==Value.none)=true)from λz=>nomatch z)];refine X0 (X5 (X0 (Yj g1 g3 ?_)));rw[Xd (by rw[hl];simp)];refine X0 (X5 (X0 (wpAny_dictEpoch g1 g3 ?_)));rw[Xd (by simp)];refine X5 ?_;simp only[show ¬((i:Int)<0)from by omega,if_false,Xs,Array.getElem?_eq_none (show cx.size<=i by omega)];refine X0 ?_
 first
  |refine X0 (Yq ty (X5 ?_))
  |refine X0 (wpAny_typeNameOf_itemiter ty (X5 ?_))
 show wpAny _ _ (setField (.ref it) 2 .none >>= _) _ _ s;refine X0 (wpAny_setField hi rfl (by simp) ?_);show wpAny _ _ (newExc (.type "StopIteration") [] >>= _) _ _ _;refine X0 ?_;simp only[newExc,newTuple];refine X0 (Y0 (X0 (m:=firstArgMember _ _) (wpAny_of_eq (a:=Value.none) (by first|rfl|(simp only[firstArgMember];rfl)) (Y0 ?_ (by size_fits)))) (by size_fits));simp only[raiseNew];refine X0 (wpAny_handled ?_);rw[show A.in1.handled=none from hh];have tyS:∀(hq:Heap) (ob:Obj),ob.cls=.type "StopIteration"->(hq.push ob).get? hq.objs.size=some ob->Shared.TypeIs { s with heap:=hq.push ob } (.ref hq.objs.size) "StopIteration":=λhq ob h1 h2=>⟨_,h2,h1⟩
 refine X0 (X5 (wpAny_throw ?_));refine X0 (wpAny_isInstance (b:=true) (tyS _ _ rfl (Xj _ rfl)) isSubtype_stop ?_);exact X5 (q _ (((Yz ..).extBut.push _).push _))
end
noncomputable def Itd(a:Addr)(es:List Ent)(ep:Nat)(vs:List V):It:=⟨λi H=>H a=some (q9 a es ep)/\i<es.length,
 λi H v H'=>∃(T:Addr) (n:Ent) (x:V),H T=none/\v=.ref T/\H'=upd H T (.tup [.ref n.2.1,x])/\es[i]?=some n/\vs[i]?=some x,
 λi H=>H a=some (q9 a es ep)/\es.length<=i⟩
theorem qvs{X:Cx}{pins:List (Addr×Obj)}{σ:L2.St}{H:Hp}{s:Shared}{a:Addr}{es:List Ent}{ep:Nat}(I:Inv X pins σ H s)(h:H a=some (q9 a es ep)):zK s.heap a (es.map λx=>(⟨z0 x.1.1,.ref x.2.1,x.2.2⟩:DictEntry)) ep:=by
 obtain⟨⟨o,ds,h1,h2,h3,h4⟩,_⟩:=(show ObjOk X.prog X.w H s.heap a (q9 a es ep)from I.hok a _ h);exact⟨o,ds,h1,h2,h3,h4⟩
theorem qqv{P:Program}{w:PySem.World}{K:PySem.W.Frag}{df:List Expr}{k1:Nat}{pos:Pos}{it a:Addr}{es:List Ent}{ep:Nat}{vs:List V}(hv:Vals vs (es.map (·.2.2))):
  Turn P w K (.Tuple df k1 pos) (Itd a es ep vs) [it] it (λi h=>∃k0 v0,IsItemIter h it a i es.length ep k0 v0) where
 mem:=by simp
 obj:=λi h st b hb=>by
  obtain⟨k0,v0,h1⟩:=st;rw[List.mem_singleton.mp hb];exact⟨_,h1,λv z=>by cases z⟩
 keep:=λi h h' st k=>by
  obtain⟨k0,v0,h1⟩:=st;exact⟨k0,v0,k it X3 _ h1⟩
 item:=by
  intro X hP hw hK hc i pins s σ H E I hf st hg;subst hP hw hK;obtain⟨hH,hi⟩:=hg;obtain⟨k0,v0,t1⟩:=st;have hd:=qvs I hH;have ae:vs.length=es.length:=by have:=hv.length;simpa using this
  have mj:es[i]?=some es[i]:=X1 hi;obtain⟨u1,hu1,ru1⟩:=hv.get (X1 (show i<vs.length by omega));have eu:u1=es[i].2.2:=by rw[Xg,mj]at hu1;exact(oq9 hu1).symm
  subst eu;refine qvk (ts:=es.map λx=>(⟨z0 x.1.1,.ref x.2.1,x.2.2⟩:DictEntry)) (en:=⟨z0 es[i].1.1,.ref es[i].2.1,es[i].2.2⟩) (by rw[X4];exact t1) hd (by rw[Xg,mj];rfl) λh1 g1 gT gs gk=>?_
  rw[X4]at g1;refine⟨_,rfl,wpAny_letOwnedTupleGo_items (s:={ s with heap:=h1 }) g1 λh2 f1 sb=>?_⟩;have fT:wX X pins H s.heap.objs.size:=I.fpOk (X8 _) (I.hok.fresh (X8 _));have nT:∀b∈[it],b≠s.heap.objs.size:=λb hb ee=>by
   rw[List.mem_singleton.mp hb]at ee;exact absurd (Xl t1) (by rw[ee];exact Yg _)
  have kk:∀b o,b∉[it]->s.heap.get? b=some o->h2.get? b=some o:=λb o hb ee=>by
   have hb:b≠it:=λz=>hb (by rw[z];exact X3)
   exact(sb.2 b hb).trans (gk b o hb ee)
  have I1:L2.Inv X pins σ H { s with heap:=h2,toks:=s.toks }:=jwi (t':=s.toks) [it] I kk hf;have nz:s.heap.objs.size≠it:=λee=>nT it (by simp) ee.symm
  have I2:=kkt (a:=s.heap.objs.size) (o:=.tup [.ref es[i].2.1,vs[i]]) I1 fT.1 fT.2.1 fT.2.2.2.1 fT.2.2.2.2.1 fT.2.2.2.2.2
   (show ObjOk X.prog X.w _ h2 _ (.tup [.ref es[i].2.1,vs[i]])from⟨by show(2:Nat)<=sizeLine;decide,[.ref es[i].2.1,es[i].2.2],.cons rfl (.cons ru1 .nil),⟨_,(sb.2 _ nz).trans gT,rfl,rfl,0,rfl⟩⟩)
  refine⟨.ref s.heap.objs.size,_,I2,rfl,⟨_,es[i],vs[i],fT.1,rfl,rfl,mj,X1 (by omega)⟩,⟨_,_,f1⟩,λb hb=>by rw[v4 (nT b hb)];exact(hf b hb).1⟩
 done:=by
  intro X hP hw hK hc i pins s σ H E I hf st hg;subst hP hw hK;obtain⟨hH,hi⟩:=hg;obtain⟨k0,v0,t1⟩:=st;refine qvj (ts:=es.map λx=>(⟨z0 x.1.1,.ref x.2.1,x.2.2⟩:DictEntry)) (I.ok.hd hc) (by rw[X4];exact t1) (qvs I hH) (by rw[X4];exact hi) λh' kk=>⟨rfl,?_⟩
  exact jwi (t':=s.toks) [it] I (λb o hb ee=>kk b o (λz=>hb (by rw[z];exact X3)) ee) hf
 self:=λA i s Q E st h=>by
  obtain⟨k0,v0,t1⟩:=st;exact PySem.W.kcp_self t1 h
theorem qjs{prog:Program}{w:PySem.World}(a:Addr)(hs:(a==sysModules)=false):
  MeetsIn prog w (Builtin.«dict.items» ⟨[.ref a],[]⟩) (λ_ R s=>(∃ob,s.heap.get? a=some ob/\ob.cls=.type "dict")/\R (.ok (.ret (.ref s.heap.objs.size))) { s with heap:=s.heap.push { cls:=.type "dict_items",data:=.fields #[.ref a] } }):=
 .of_wp λA R s ⟨⟨ob,h1,h2⟩,h⟩=>by
  unfold Builtin.«dict.items» Builtin.Dict.noArgs;refine X0 (X0 (wpAny_notOrdered_dict ⟨ob,h1,h2⟩ ?_));show wpAny _ _ (pure a) _ _ s;refine X5 ?_;show wpAny _ _ (Builtin.Dict.showsAll a >>= _) _ _ s;unfold Builtin.Dict.showsAll;rw[Xd (by rw[hs];exact Bool.false_ne_true)];exact X0 (X5 (X0 (Y0 (X5 ⟨_,rfl,h⟩))))
abbrev wqr(to:TE):TI:=fun σ H R=>to σ H λx H1=>∃a es ep vs,x=.ref a/\H1 a=some (q9 a es ep)/\(a==sysModules)=false/\Vals vs (es.map (·.2.2))/\R (Itd a es ep vs) H1
section
variable {X:Cx}{Z:Fx0}{q:Bool}{c:Ex}{e:Expr}{to:TE}{apos ab kf:Pos}{df:List Expr}{k1:Nat}
theorem vky(ho:PE X e to)(ay:autoParam (attributeBase e "items" X.env (eval e X.env)=eval e X.env) Ŕ)(ax:autoParam ((apos.endLine==ab.line)=true) Ŕ):PI X (.Tuple df k1 kf) (.Call (.Attribute e "items" apos) [] [] ab) (wqr to):=by
 intro pins s σ H R I h;refine wpAny_Call_method0_late ay ax (thn (ho pins s σ H _ I h) λv s1 hz=>?_);obtain⟨x,H1,I1,r1,a,es,ep,vs,ex,hH,hs,hv,hR⟩:=hz;subst ex;cases r1;obtain⟨ob,cx,g1,g2,g3,g4⟩:=qvs I1 hH;refine⟨"dict","dict.items",PySem.F.plainAttrs_dict,PySem.F.slot_dict_items,PySem.F.type_dict_items,⟨ob,g1,g2.1⟩,λb z=>by cases z;exact⟨ob,g1,g2.2.1⟩,Yi rfl (PySem.evalArgs_none ?_)⟩;refine call_meetsIn PySem.F.slot_dict_items ⟨ob,g1,g2.1⟩ PySem.F.entry_dict_items (PySem.F.args_dict_items_1 _) (qjs a hs) ⟨⟨ob,g1,g2.1⟩,?_⟩;have d2:zK (s1.heap.push { cls:=.type "dict_items",data:=.fields #[.ref a] }) a (es.map λx=>(⟨z0 x.1.1,.ref x.2.1,x.2.2⟩:DictEntry)) ep:=⟨ob,cx,X6 _ g1,g2,g3,g4⟩;refine qvl (s:={ s1 with heap:=s1.heap.push { cls:=.type "dict_items",data:=.fields #[.ref a] } }) (v:=s1.heap.objs.size) ⟨_,Xj _ rfl,rfl,rfl⟩ d2 ?_;have I2:L2.Inv X pins σ H1 { s1 with heap:=(s1.heap.push { cls:=.type "dict_items",data:=.fields #[.ref a] }).push { cls:=.type "dict_itemiterator",data:=.fields #[.none,.bool false,.ref a,.int 0 0,.int (es.map λx=>(⟨z0 x.1.1,.ref x.2.1,x.2.2⟩:DictEntry)).length 0,.int ep 0,.none,.none] } }:=
  I1.kept (t':=s1.toks) λb o z=>X6 _ (X6 _ z)
 refine⟨_,[_],_,_,H1,rfl,I2,qqv (it:=(s1.heap.push { cls:=.type "dict_items",data:=.fields #[.ref a] }).objs.size) hv,⟨.none,.none,?_⟩,λb hb=>?_,hR⟩
 ·have:=Xj (h:=s1.heap.push { cls:=.type "dict_items",data:=.fields #[.ref a] }) (o:={ cls:=.type "dict_itemiterator",data:=.fields #[.none,.bool false,.ref a,.int 0 0,.int (es.map λx=>(⟨z0 x.1.1,.ref x.2.1,x.2.2⟩:DictEntry)).length 0,.int ep 0,.none,.none] }) rfl;rw[X4]at this ⊢;exact this
 ·rw[List.mem_singleton.mp hb];have dy:s1.heap.objs.size<=(s1.heap.push { cls:=.type "dict_items",data:=.fields #[.ref a] }).objs.size:=by rw[Heap.size_push];omega
  exact I1.fpOk dy (I1.hok.fresh dy)
end
theorem qkn{K : PySem.W.Frag}{H : Hp}{g : Bool}: ∀{kvs : List (D × D)} {xs : List V} {bs : List Addr} {i : Nat} {p : D × D}, RepP K H g kvs xs bs -> kvs[i]? = some p -> ∃x cs, xs[i]? = some x /\ RepL K H g p.2 x cs /\ ∀b ∈ cs, b ∈ bs
  | [], _, _, _, _, _, h=>by simp at h
  | (q, d)::kvs, _, _, i, p, h, e=>by
    unfold RepP at h;obtain⟨y, rr, b1, b2, rfl, rfl, h1, h2⟩:= h;cases i with
    | zero=>
      cases oq9 (show some (q, d) = some p by simpa using e);exact⟨y, b1, rfl, h1, λb hb=>ll9 _ hb⟩
    | succ i=>
      obtain⟨x, cs, f1, f2, f3⟩:= qkn (i:= i) h2 (by simpa using e);exact⟨x, cs, by simpa using f1, f2, λb hb=>lr9 _ (f3 b hb)⟩
mutual
theorem qj8{K:PySem.W.Frag}{H:Hp}:∀{d:D} {v:V},PuR K H d v->RepL K H true d v []
 |.non,_,h=>by unfold PuR at h;unfold RepL;exact⟨h,rfl⟩
 |.int _,_,h=>by unfold PuR at h;unfold RepL;exact⟨h,rfl⟩
 |.tup ds,_,h=>by
  unfold PuR at h;obtain⟨a,xs,e,s,r⟩:=h;unfold RepL;exact⟨a,xs,e,s,rep_purs r⟩
 |.bl _,_,h=>by unfold PuR at h;exact h.elim
 |.str _,_,h=>by unfold PuR at h;exact h.elim
 |.lst _,_,h=>by unfold PuR at h;exact h.elim
 |.dct _,_,h=>by unfold PuR at h;exact h.elim
 |.obj _ _,_,h=>by unfold PuR at h;exact h.elim
theorem rep_purs{K:PySem.W.Frag}{H:Hp}:∀{ds:List D} {xs:List V},PuRs K H ds xs->RepA K H true ds xs []
 |[],_,h=>by unfold PuRs at h;unfold RepA;exact⟨h,rfl⟩
 |d::ds,_,h=>by
  unfold PuRs at h;obtain⟨x,r,e,h1,h2⟩:=h;unfold RepA;exact⟨x,r,[],[],e,rfl,qj8 h1,rep_purs h2⟩
end
section
variable {X:Cx}{Z:Fx0}{q:Bool}{c:Ex}{e:Expr}{apos ab kf:Pos}{df:List Expr}{k1:Nat}
theorem kxj(h:QE X Z q c e)(ay:autoParam (attributeBase e "items" X.env (eval e X.env)=eval e X.env) Ŕ)(ax:autoParam ((apos.endLine==ab.line)=true) Ŕ):QID X Z q (.Tuple df k1 kf) (kwh c) (.Call (.Attribute e "items" apos) [] [] ab):=λpins s σ H R I ai=>ex8 ai λE L r m w hc xc k=>by
 refine(vky h ay ax) pins s σ H R I ?_;refine VX m w (show bnd (c E) _=some r from hc) xc λE1 s h1 x L1 H1 e1 e2 m1 w1 st sm=>?_
 obtain⟨ds,hd,rfl⟩:=K6 h1;have ok:=w1.head;have wT:World Z.K H1 (L1++[x.let].map some):=by
  refine World.comm (L:=[some x.let]) ?_;exact w1.tail.consNo (Kv ok) rfl λb hb=>w1.apart b hb
 have sT:Step H L H1 (L1++[x.let].map some):=by
  refine⟨st.keep,λb hb=>?_,λb hb=>?_⟩
  ·have:b∈jq L1:=by simpa [V6]using hb
   exact st.own b (by rw[qk];exact lr9 _ this)
  ·have:b∈kj L1\/b∈x.as:=by simpa [V6]using hb
   rcases this with z|z
   ·exact st.frz b (by rw[wJ];exact lr9 _ z)
   ·exact jz7 st b z
 cases hx:x.d with
 | dct kvs=>
  rw [<-e2,hx]at hd;have hd:(if kvs.length<=big/\unm kvs=true then some (kvs.map λe=>D.tup [e.1,e.2])else none)=some ds:=hd
  split at hd
  rotate_left
  ·cases hd
  rename_i ae;cases oq9 hd;have rk:RepL Z.K H1 true (.dct kvs) x.v x.as:=by rw[<-hx];exact Kv ok
  unfold RepL at rk;obtain⟨a,xs,bs,ev,rp,q4,eas⟩:=rk;obtain⟨es,ep,g1,g2,g3,g4,g5,g6,g7⟩:=DcA.un q4 ae.2;have hla:a∈x.as:=by rw[eas];exact X3
  have lb:kvs.length=es.length:=by have:=congrArg List.length g5;simpa using this
  have pin:∀{H2:Hp},wvt Z.K H1 [x.let] H2->Kp H1 H2 (a::bs):=λhh=>by rw[<-eas];exact hh.2 x.let (List.mem_singleton.mpr rfl)
  refine⟨a,es,ep,xs,ev,g1,g2,g7,k _ _ rfl (Itd a es ep xs) [x.let] L1 H1 m1 wT sT (by rw[X4];exact ae.1) (λhq=>(sm hq).1) ⟨λt ht=>by rw[List.mem_singleton.mp ht];rfl,λi H2 hok hi=>?_,λH2 hok=>?_,λi H2 v H3 d hok hy fq=>?_⟩⟩
  ·exact⟨(pin hok).2.2 a X3 _ g1,by rw[X4]at hi;omega⟩
  ·exact⟨(pin hok).2.2 a X3 _ g1,by rw[X4];omega⟩
  ·obtain⟨T,n,x',hT,rfl,rfl,hn,jh⟩:=hy;rw[Xg]at fq;cases hp:kvs[i]? with
   | none=>rw[hp]at fq;cases fq
   | some p=>
    rw[hp]at fq;cases oq9 fq;obtain⟨v',db,f1,f2,f3⟩:=qkn rp hp;have:v'=x':=by rw[f1]at jh;exact oq9 jh
    subst this;have hk:p.1=n.1.1:=by
     have:=congrArg (λl=>l[i]?) g5;simp only[Xg,hp,hn,Option.map_some]at this;exact oq9 this
    have kp:=pin hok;have r1:RepL Z.K H2 true p.1 (.ref n.2.1) []:=by
     rw[hk];exact qj8 (PuR.kp kp (g6 n (Xm hn)))
    have r2:RepL Z.K H2 true p.2 v' db:=f2.kp ⟨kp.1,kp.2.1,λb hb=>kp.2.2 b (lc9 _ (f3 b hb))⟩;exact⟨⟨.no,_,.ref T,[]++db⟩,rfl,rfl,rfl,wY hT,qkl hT r1 r2,λb hb=>⟨x.let,List.mem_singleton.mpr rfl,by
     show b∈x.as;rw[eas];exact lc9 _ (f3 b (by simpa using hb))⟩⟩
 |_=>rw[<-e2,hx]at hd;cases hd
end
end Q
namespace Q
open PySem PySem.Spec PyProof.Rows L2 L3
noncomputable def wqt(K:PySem.W.Frag)(p:Addr)(Q:VK)(ps:List (V×V))(H2:Hp):Prop:=∃x y,ps=[(x,y)]/\H2 p=some (q9 p [] 0)/\∃(b:Addr) (kd:Kd),x=.ref b/\PuR K H2 kd.1 (.ref b)/\∀r ep',RelV y r->Q (.ref p) (upd H2 p (q9 p [(kd,b,r)] ep'))
abbrev wvy(K:PySem.W.Frag)(tk tv:TE):TE:=fun σ H Q=>∀p,H p=none->(p==sysModules)=false->tk σ (upd H p (q9 p [] 0)) λx H1=>tv σ H1 λy H2=>wqt K p Q [(x,y)] H2
theorem vx3{X:Cx}{K:PySem.W.Frag}{pos:Pos}{k v:Expr}{tk tv:TE}(hu:X.A.units+64<cLine)(hk:PE X k tk)(hv:PE X v tv)(hK:autoParam (X.K=K) Ŕ):PE X (.Dict [some k] [v] pos) (wvy K tk tv):=by
 subst hK;intro pins s σ H Q I h;have hn:=I.hok.fresh (X8 s.heap.objs.size);have I1:=I.laid (a:=s.heap.objs.size) (o:=q9 s.heap.objs.size [] 0) (h':=s.heap.push { cls:=.type "dict",data:=.dict #[] }) (t':=s.toks) (λ_ _ q=>X6 _ q) (X8 _) (vj8 s.heap);refine wpAny_Dict_any rfl rfl (by simp) (by simp) (thn (vkv hk hv vwv pins _ σ _ (wqt X.K s.heap.objs.size Q) I1 (h _ hn (beq_false_of_ne (Nat.ne_of_gt I.big)))) λvs s2 hz=>?_);obtain⟨ps,H2,I2,ql,x,y,ep,e,b,kd,ex,pk,q⟩:=hz;subst ep ex;cases ql with
 |@cons p1 p2 t1 t2 h1 h2=>
  cases h2;obtain⟨u,r⟩:=p2;obtain rfl:u=Value.ref b:=h1.1;have h1:RelV y r:=h1.2;unfold storeAll;rw[List.forIn_cons];refine X0 (X0 (wpAny_dictSet_heap (knd:=kv0 X.prog X.w) (xs:=[]) (k:=kd) (by show X.A.units+40<cLine;omega) (jxg I2 pk rfl) (qqc I2 e Xx (λ_ z=>absurd z Xw)) (λh' dd hs=>X5 ?_) (Y9 _)));show wpAny (model X.prog X.w) X.A (forIn [] PUnit.unit _) _ _ _;rw[List.forIn_nil];refine X5 ?_;obtain⟨o,ds,ep',hq,g2,g3,g4,_,_⟩:=dd;exact⟨.ref s.heap.objs.size,_,qk1 (ob:=q9 s.heap.objs.size [(kd,b,r)] ep') I2 (by rw[e];exact True.intro) hs ⟨o,hq⟩ ⟨⟨o,ds,hq,g2,g3,g4⟩,⟨o,hq⟩,λh1 h2 ⟨o,ds,a1,a2⟩ k=>⟨o,ds,k o a1,a2⟩⟩,rfl,q r ep' h1⟩
section
variable {X:Cx}{Z:Fx0}{q:Bool}{kc vc:Ex}{ke ve:Expr}{pos:Pos}
theorem vvd(hu:X.A.units+64<cLine)(hk:QE X Z q kc ke)(hv:QE X Z q vc ve)(hK:autoParam (X.K=Z.K) Ŕ):QE X Z q (vjq kc vc) (.Dict [some ke] [ve] pos):=vx (vx3 hu hk hv hK) fun σ H Q ai=>ex8 ai λE L r m w hc xc k=>by
 intro p hp hs;have rh:kJ H (upd H p (q9 p [] 0)):=wY hp;have st0:Step H L (upd H p (q9 p [] 0)) L:=⟨λb ob h _=>rh b ob h,λ_ h=>.inl h,λ_ h=>.inl h⟩;have nL:p∉jq L:=λz=>w.own_some z hp
 have nF:p∉kj L:=λz=>w.frz_some z hp
 have w0:World Z.K (upd H p (q9 p [] 0)) L:=⟨λt ht=>RepO.kp (w.ok t ht) (Kp.of_same rh),w.nd,w.ds⟩;have wd:World Z.K (upd H p (q9 p [] 0)) ([some ⟨.rt,.dct [],.ref p,[p]⟩]++L):=by
  refine World.cons w0 ⟨p,[],[],rfl,by unfold RepP;exact⟨rfl,rfl⟩,.inl ⟨[],0,xJ,hs,Y9 _,Xx,rfl,λ_ z=>absurd z Xw,Paired.nil⟩,rfl⟩ (by simp[Sl.own]) (λb hb ho=>?_) (λb hb ho=>?_) (λb hb=>by simp[Sl.frz]at hb) (λb _ hb=>by simp[Sl.frz]at hb)
  ·have:b=p:=by simpa [Sl.own]using hb
   exact nL (this▸ho)
  ·have:b=p:=by simpa [Sl.own]using hb
   exact nF (this▸ho)
 refine VX m w0 (show bnd (kc E) _=some r from hc) (xc.step st0) λE1 s1 h1 x L1 H1 e1 e2 m1 w1 js sm1=>?_
 obtain⟨wd1,sd1⟩:=WQ wd js w1;have s1':Step H L H1 L1:=(st0.trans js).trans Step.drop;refine VX m1 w1.tail (show bnd (vc E1) _=some r from h1) (xc.step s1') λE2 s2 h2 y L2 H2 e3 e4 m2 w2 b7 fj=>?_
 have pm:(([some ⟨.rt,.dct [],.ref p,[p]⟩]:Ls)++(some x::L1)).Perm (([some x,some ⟨.rt,.dct [],.ref p,[p]⟩]:Ls)++L1):=List.Perm.swap _ _ _;obtain⟨wd2,sd2⟩:=WQ (wd1.perm pm) b7 w2;have oi:(([some x,some ⟨.rt,.dct [],.ref p,[p]⟩]:Ls)++(some y::L2)).Perm (([some x,some y]:Ls)++(some ⟨.rt,.dct [],.ref p,[p]⟩::L2)):=List.Perm.cons _ (List.Perm.swap _ _ _);have w3:=wd2.perm oi;have cw:Step (upd H p (q9 p [] 0)) ([some ⟨.rt,.dct [],.ref p,[p]⟩]++L) H2 ([some x,some y]++(some ⟨.rt,.dct [],.ref p,[p]⟩::L2)):=(sd1.perm (List.Perm.refl _) pm).trans (sd2.perm (List.Perm.refl _) oi)
 by_cases hkt:vW s1.2=true
 ·rw [X9 hkt]at h2;cases oq9 h2;have okx:x.ok Z.K H2:=w3.ok x (by simp);have n9:vW x.d=true:=by rw[e2];exact hkt
  obtain⟨b,eb,pb⟩:=jxi okx n9;have ii:k7 6 x.d=true:=by unfold vW at n9;rw[Bool.and_eq_true]at n9;exact n9.1
  obtain⟨a,xs0,bs0,ea,_,q4,_⟩:=(show RepR Z.K H2 (.dct []) (.ref p) [p]from w3.ok ⟨.rt,.dct [],.ref p,[p]⟩ (by simp));obtain⟨es,ep,g1,_⟩:=DcA.un (kvs:=[]) q4 rfl;have hH2:H2 p=some (q9 p [] 0):=by
   have n1:p∉jq (some x::L1):=λz=>by
    rcases js.own p z with z|z
    ·exact nL z
    ·rw[xJ]at z;cases z
   have hH1:H1 p=some (q9 p [] 0):=js.keep p _ xJ nL;exact b7.keep p _ hH1 λz=>n1 (by rw[qk];exact lr9 _ z)
  have rv:RepL Z.K H2 true s2.2 y.v y.as:=by rw[<-e4];exact RepO.wk (w3.ok y (by simp))
  refine⟨x.v,y.v,rfl,hH2,b,⟨x.d,ii⟩,eb,pb,λrr ep' uh=>?_⟩;obtain⟨w4,jo⟩:=qje (ep':=ep') (es':=[(⟨x.d,ii⟩,b,rr)]) (xs':=[y.v]) (cs:=y.as) (kvs':=[(x.d,s2.2)]) (bs:=[]) (i:=0) (y:=⟨.rt,.dct [],.ref p,[p]⟩) w3 rfl hH2 rfl rfl rfl
   (by unfold RepP;exact⟨y.v,[],y.as,[],rfl,by simp,rv,by unfold RepP;exact⟨rfl,rfl⟩⟩)
   (λc ja=>.inr (by
    rcases Sl.as_of ja with z|z
    ·exact .inl (by simpa using .inr z)
    ·exact .inr (by simpa using .inr z))) hs (by show(1:Nat)<=sizeLine;decide) (List.nodup_cons.mpr ⟨Xw,Xx⟩) rfl (λn hn=>by rw[List.mem_singleton.mp hn];exact pb) (.cons uh .nil)
  have stA:Step (upd H p (q9 p [] 0)) ([some ⟨.rt,.dct [],.ref p,[p]⟩]++L) _ _:=cw.trans jo;refine k _ _ rfl ⟨.rt,.dct [(x.d,s2.2)],.ref p,p::y.as⟩ L2 _ rfl (congrArg (λd=>D.dct [(d,s2.2)]) e2) m2 w4 ?_ λhq=>?_
  ·refine⟨λc ob h hn=>stA.keep c ob (rh c ob h) λz=>?_,λc ja=>?_,λc ja=>?_⟩
   ·rw[Ye,qk]at z;rcases List.mem_append.mp z with z|z
    ·have:c=p:=by simpa [Sl.own]using z
     rw[this,hp]at h;cases h
    ·exact hn z
   ·rcases stA.own c ja with z|z
    ·rw[Ye,qk]at z;rcases List.mem_append.mp z with z|z
     ·have:c=p:=by simpa [Sl.own]using z
      exact .inr (this▸hp)
     ·exact .inl z
    ·exact .inr (by
      cases pz:H c with
      |none=>rfl
      |some ob=>rw[rh c ob pz]at z;cases z)
   ·have hcp:c=p->H c=none:=λz=>z▸hp
    rcases stA.frz c ja with z|z|z
    ·rw[Ye,wJ]at z;rcases List.mem_append.mp z with z|z
     ·simp[Sl.frz]at z
     ·exact .inl z
    ·rw[Ye,qk]at z;rcases List.mem_append.mp z with z|z
     ·have:c=p:=by simpa [Sl.own]using z
      exact .inr (.inr (this▸hp))
     ·exact .inr (.inl z)
    ·exact .inr (.inr (by
      cases pz:H c with
      |none=>rfl
      |some ob=>rw[rh c ob pz]at z;cases z))
  ·refine⟨λc ob h=>?_,λc ja=>?_⟩
   ·have c9:c≠p:=λz=>by rw[z,hp]at h;cases h
    rw[v4 c9];exact(fj hq).1 c ob ((sm1 hq).1 c ob (rh c ob h))
   ·have:c=p:=by simpa [Sl.own]using ja
    exact this▸hp
 ·rw[Xd hkt]at h2;cases h2
end
end Q
namespace Q
open PySem PySem.Spec PyProof.Rows L2 L3
section
variable {prog:Program}{w:PySem.World}{A:Around}{E:Value->Shared->Prop}{s:Shared}{a it:Addr}{ts:List DictEntry}{ep i:Nat}
theorem qza{Q:Value->Shared->Prop}(hs:(a==sysModules)=false)(hd:zK s.heap a ts ep)
  (q:Q (.ref s.heap.objs.size) { s with heap:=s.heap.push { cls:=.type "dict_keyiterator",data:=.fields #[.ref a,.int 0 0,.int ts.length 0,.int ep 0] } }):wpAny (model prog w) A (pyIter (.ref a)) Q E s:=by
 obtain⟨ob,cx,g1,g2,g3,g4⟩:=hd;have ty:s.TypeIs (.ref a) "dict":=⟨ob,g1,g2.1⟩;have hl:cx.size=ts.length:=by rw[<-g4];simp
 refine wpAny_pyIter_slot ty F.slot_dict_iter (Y7 F.slot_dict_iter ty F.entry_dict_iter ?_ (F.args_dict_iter_1 _));unfold Builtin.«dict.__iter__» Builtin.Dict.dictSlotNone;refine X0 (X0 (wpAny_notOrdered_dict ty ?_));show wpAny _ _ (pure (Value.ref a)) _ _ s;refine X5 ?_;show wpAny _ _ (Builtin.Dict.showsAll a >>= _) _ _ s;unfold Builtin.Dict.showsAll;rw[Xd (by rw[hs];exact Bool.false_ne_true)];refine X0 (X5 (X0 (Yj g1 g3 (X0 (wpAny_dictEpoch g1 g3 ?_)))));refine X0 (Y0 (X5 ⟨_,rfl,"dict_keyiterator",_,⟨_,Xj _ rfl,rfl⟩,F.slot_dict_keyiterator_next.lookup,?_⟩))
 simpa [rawInt,hl]using q
theorem qz9{en:DictEntry}{Q:Option Value->Shared->Prop}(hi:s.heap.IsKeyIter it a i ts.length ep)(hd:zK s.heap a ts ep)(hx:ts[i]?=some en)
  (q:∀h',h'.IsKeyIter it a (i+1) ts.length ep->Heap.SameBut it s.heap h'->Q (some en.key) { s with heap:=h' }):wpAny (model prog w) A (pyNext (.ref it)) Q E s:=by
 have ty:=hi.typeIs;obtain⟨o,h1,h2,h3⟩:=hi;obtain⟨ob,cx,g1,g2,g3,g4⟩:=hd;have hl:cx.size=ts.length:=by rw[<-g4];simp
 have b8:i<cx.size:=by rw[hl];exact(List.getElem?_eq_some_iff.mp hx).1
 have la:cx[i]=en:=by
  rw[<-g4,Yp,Yn b8]at hx;exact oq9 hx
 have ow:Builtin.Dict_items.ownsTuple "dict_keyiterator"=false:=by decide
 unfold pyNext;refine X0 (wpAny_attempt (Yf (name:=Str.ofString "__next__") ty F.slot_dict_keyiterator_next (Y7 F.slot_dict_keyiterator_next ty F.entry_dict_keyiterator_next ?_ (F.args_dict_keyiterator_next_1 _))));refine X0 (X5 (X0 (X0 ?_)))
 first
  |refine X0 (Yu ty (X5 (X0 (Z0 h1 h3 ?_))))
  |refine X0 (wpAny_typeNameOf_keyiter ty (X5 (X0 (Z0 h1 h3 ?_))))
 simp only[ow,Bool.false_eq_true,if_false];show wpAny _ _ (if(Value.ref a==Value.none)=true then _ else _) _ _ s;rw[Xd (show ¬((Value.ref a==Value.none)=true)from λz=>nomatch z)];refine X0 (X5 (X0 (Yj g1 g3 ?_)));rw[Xd (by rw[hl];simp)];refine X0 (X5 (X0 (wpAny_dictEpoch g1 g3 ?_)));rw[Xd (by simp)];refine X5 ?_;simp only[show ¬((i:Int)<0)from by omega,if_false,Xs,Yn b8,la];refine X0 ?_
 first
  |refine X0 (Yu ty (X5 (X0 (wpAny_isOneOf_keyiter ty ?_))))
  |refine X0 (wpAny_typeNameOf_keyiter ty (X5 (X0 (wpAny_isOneOf_keyiter ty ?_))))
 show wpAny _ _ (setField (.ref it) 1 (rawInt ((i:Int)+1)) >>= _) _ _ s;refine X0 (wpAny_setField h1 h3 (by simp) ?_);have np:(s.heap.update it (Obj.mapFields (·.setIfInBounds 1 (rawInt ((i:Int)+1))))).IsKeyIter it a (i+1) ts.length ep:=⟨_,Heap.get?_update_self _ h1 (Obj.isFreed_of_fields (Obj.data_mapFields h3 _)),(Obj.cls_mapFields ..).trans h2,by rw[Obj.data_mapFields h3];simp[rawInt]⟩;refine X0 (Yr (X0 (wpAny_isOneOf_keyiter (s:={ s with heap:=s.heap.update it (Obj.mapFields (·.setIfInBounds 1 (rawInt ((i:Int)+1)))) }) np.typeIs ?_)));show wpAny _ _ (pure en.key) _ _ _;exact X5 (X5 ⟨_,rfl,X5 (q _ np (Yz ..))⟩)
theorem qz8{Q:Option Value->Shared->Prop}(hh:A.handled=none)(hi:s.heap.IsKeyIter it a i ts.length ep)(hd:zK s.heap a ts ep)(hx:ts.length<=i)(q:∀h',Heap.ExtBut it s.heap h'->Q none { s with heap:=h' }):wpAny (model prog w) A (pyNext (.ref it)) Q E s:=by
 have ty:=hi.typeIs;obtain⟨o,h1,h2,h3⟩:=hi;obtain⟨ob,cx,g1,g2,g3,g4⟩:=hd;have hl:cx.size=ts.length:=by rw[<-g4];simp
 have ow:Builtin.Dict_items.ownsTuple "dict_keyiterator"=false:=by decide
 unfold pyNext;refine X0 (wpAny_attempt (Yf (name:=Str.ofString "__next__") ty F.slot_dict_keyiterator_next (Y7 F.slot_dict_keyiterator_next ty F.entry_dict_keyiterator_next ?_ (F.args_dict_keyiterator_next_1 _))));refine X0 (X5 (X0 (X0 ?_)))
 first
  |refine X0 (Yu ty (X5 (X0 (Z0 h1 h3 ?_))))
  |refine X0 (wpAny_typeNameOf_keyiter ty (X5 (X0 (Z0 h1 h3 ?_))))
 simp only[ow,Bool.false_eq_true,if_false];show wpAny _ _ (if(Value.ref a==Value.none)=true then _ else _) _ _ s;rw[Xd (show ¬((Value.ref a==Value.none)=true)from λz=>nomatch z)];refine X0 (X5 (X0 (Yj g1 g3 ?_)));rw[Xd (by rw[hl];simp)];refine X0 (X5 (X0 (wpAny_dictEpoch g1 g3 ?_)));rw[Xd (by simp)];refine X5 ?_;simp only[show ¬((i:Int)<0)from by omega,if_false,Xs,Array.getElem?_eq_none (show cx.size<=i by omega)];refine X0 ?_
 first
  |refine X0 (Yu ty (X5 ?_))
  |refine X0 (wpAny_typeNameOf_keyiter ty (X5 ?_))
 show wpAny _ _ (setField (.ref it) 0 .none >>= _) _ _ s;refine X0 (wpAny_setField h1 h3 (by simp) ?_);show wpAny _ _ (newExc (.type "StopIteration") [] >>= _) _ _ _;refine X0 ?_;simp only[newExc,newTuple];refine X0 (Y0 (X0 (m:=firstArgMember _ _) (wpAny_of_eq (a:=Value.none) (by first|rfl|(simp only[firstArgMember];rfl)) (Y0 ?_ (by size_fits)))) (by size_fits));simp only[raiseNew];refine X0 (wpAny_handled ?_);rw[show A.in1.handled=none from hh];have tyS:∀(hq:Heap) (ob:Obj),ob.cls=.type "StopIteration"->(hq.push ob).get? hq.objs.size=some ob->Shared.TypeIs { s with heap:=hq.push ob } (.ref hq.objs.size) "StopIteration":=λhq ob h1 h2=>⟨_,h2,h1⟩
 refine X0 (X5 (wpAny_throw ?_));refine X0 (wpAny_isInstance (b:=true) (tyS _ _ rfl (Xj _ rfl)) isSubtype_stop ?_);exact X5 (q _ (((Yz ..).extBut.push _).push _))
theorem jzm{h h':Heap}(hd:zK h a ts ep)(k:∀o,h.get? a=some o->h'.get? a=some o):zK h' a ts ep:=by
 obtain⟨ob,cx,g1,g⟩:=hd;exact⟨ob,cx,k ob g1,g⟩
theorem qk0{h:Heap}(hd:zK h a ts ep):a<h.objs.size:=by
 obtain⟨ob,cx,g1,g⟩:=hd;exact Xl g1
theorem qqs(hh:A.handled=none)(I:Addr)(c9:a≠I):PySem.Walks prog w A I [I,a] [I] ts.length (λi v=>∃en,ts[i]?=some en/\v=en.key) (λi h=>h.IsKeyIter I a i ts.length ep/\zK h a ts ep) where
 sub:=λb hb=>by simp at hb;simp[hb]
 frame:=λ_ _ _ st hk=>⟨st.1.at λo e=>hk I (by simp) o e,jzm st.2 λo e=>hk a (by simp) o e⟩
 item:=λi s Q E hi st hQ=>qz9 st.1 st.2 (X1 hi) λh' np gv=>
  hQ _ h' s.toks ⟨_,X1 hi,rfl⟩ ⟨np,jzm st.2 λo e=>gv.extBut a o c9 e⟩ λb o hb e=>gv.extBut b o (λh=>hb (by simp[h])) e
 done:=λs Q E st hQ=>qz8 hh st.1 st.2 (X8 _) λh' he'=>hQ h' s.toks λb o hb e=>he' b o (λh=>hb (by simp[h])) e
 self:=λ_ _ _ _ st hQ=>wpAny_pyIter_keyiter st.1 hQ
theorem vkf(lo:(a==sysModules)=false):PySem.W.KdlSrc prog w "dict" a a ts.length (λi v=>∃en,ts[i]?=some en/\v=en.key) (λh=>zK h a ts ep) where
 type:=λ_ hm=>by obtain⟨ob,cx,g1,g2,_⟩:=hm;exact⟨ob,g1,g2.1⟩
 there:=λ_ hm=>⟨qk0 hm,qk0 hm⟩
 keep:=λ_ _ hm hk=>jzm hm λo e=>hk a (.inl rfl) o e
 notList:=by decide
 notTuple:=by decide
 hint:=λ_ _ _ _ hm hq=>PySem.W.kdl_hint_dict (by obtain⟨ob,cx,g1,g2,_⟩:=hm;exact⟨ob,g1,g2.1⟩) hq
 iter:=λ_ _ hh hm=>⟨_,_,(λ_ _ hq=>qza lo hm hq),qqs hh _ (Y1 (qk0 hm)),⟨⟨_,Xj _ rfl,rfl,rfl⟩,jzm hm λo e=>X6 _ e⟩⟩
end
noncomputable def vvb(K:PySem.W.Frag):List V->Hp->VK->Prop:=λxs H Q=>∃a es ep,xs=[.ref a]/\H a=some (q9 a es ep)/\(a==sysModules)=false/\es.length<=sizeLine/\∀l,H l=none->Q (.ref l) (upd H l (.lst (es.map λn=>V.ref n.2.1)))
theorem kx5:∀(es:List Ent),Vals (es.map λn=>V.ref n.2.1) (es.map λn=>Value.ref n.2.1)
 |[]=>.nil
 |n::es=>.cons rfl (kx5 es)
theorem kvk{X:Cx}{K:PySem.W.Frag}(hc:autoParam (X.calm=true) Ŕ):CallR X (.type "list") (vvb K):=by
 intro pins s σ H xs us Q I r h;obtain⟨a,es,ep,rfl,hH,hs,hl,q⟩:=h;obtain⟨u,rfl,rx⟩:=Jx r;cases rx;refine PySem.W.kdl_call (vkf (ts:=es.map λx=>(⟨z0 x.1.1,.ref x.2.1,x.2.2⟩:DictEntry)) (ep:=ep) hs) (I.ok.hd hc) (qvs I hH) (by rw[X4];exact hl) λh' tk acc c kp e az=>?_
 have he:acc.toList=es.map λn=>Value.ref n.2.1:=by
  refine List.ext_getElem? λi=>?_
  rw[Xg];have hn:acc.size=es.length:=by have:=az.1;simpa using this
  cases hv:acc[i]? with
  |none=>rw[Yp,hv,Yo (by have:=Array.getElem?_eq_none_iff.mp hv;omega)];rfl
  |some v=>
   obtain⟨en,h1,h2⟩:=az.2 i v hv;rw[Yp,hv,h2];rw[Xg]at h1;cases mj:es[i]? with
   |none=>rw[mj]at h1;cases h1
   |some n=>rw[mj]at h1;cases oq9 h1;rfl
 refine⟨.ref s.heap.objs.size,_,I.laid kp (X8 _) (show ObjOk X.prog X.w _ h' _ (.lst (es.map λn=>V.ref n.2.1))from⟨by rw[X4];exact hl,es.map λn=>Value.ref n.2.1,c,kx5 es,by rw[<-he];simpa using e⟩),rfl,q _ (I.hok.fresh (X8 _))⟩
theorem kxf{K:PySem.W.Frag}{H:Hp}:∀{es:List Ent},(∀n∈es,PuR K H n.1.1 (.ref n.2.1))->RepA K H true (es.map (·.1.1)) (es.map λn=>V.ref n.2.1) []
 |[],_=>by unfold RepA;exact⟨rfl,rfl⟩
 |n::es,h=>by
  rw[List.map_cons,List.map_cons];unfold RepA;exact⟨_,_,[],[],rfl,rfl,qj8 (h n X3),kxf λm hm=>h m (lc9 _ hm)⟩
theorem qqo{K:PySem.W.Frag}:Ad1 K (λv H Q=>vvb K [v] H Q) XQ:=by
 intro H x s Q ok hf k;unfold XQ at hf;cases hx:x.d with
 | dct kvs=>
  rw[show(x.o,x.d).2=D.dct kvs from hx]at hf;have hf:(if kvs.length<=big/\unm kvs=true then some (Own.rt,D.lst (kvs.map (·.1)))else none)=some s:=hf
  split at hf
  rotate_left
  ·cases hf
  rename_i ae;cases oq9 hf;have rk:RepL K H true (.dct kvs) x.v x.as:=by rw[<-hx];exact Kv ok
  unfold RepL at rk;obtain⟨a,xs,bs,ev,rp,q4,eas⟩:=rk;obtain⟨es,ep,g1,g2,g3,g4,g5,g6,g7⟩:=DcA.un q4 ae.2;refine⟨a,es,ep,by rw[ev],g1,g2,g3,λl hl=>k ⟨.rt,.lst (kvs.map (·.1)),.ref l,[l]⟩ _ rfl rfl ⟨wY hl,⟨l,_,[],rfl,?_,xJ,rfl⟩,λb hb=>?_,by simp[Sl.own],λb hb=>?_⟩⟩
  ·rw[g5];exact(kxf g6).kp (Kp.of_same (wY hl))
  ·have:b=l:=by simpa [Sl.own]using hb
   exact this▸hl
  ·simp[Sl.frz]at hb
 |_=>rw[show(x.o,x.d).2=_ from hx]at hf;cases hf
end Q
namespace Q
open PySem PySem.Spec PyProof.Rows L2 L3
theorem wwe{X:Cx}{Z:Fx0}{q:Bool}:QA X Z q [] []:=kxm zw fun σ H Q ai=>ex8 ai λE L r m w hc xc k=>by
 cases oq9 hc;exact k _ _ rfl [] L H rfl m w Step.refl λ_=>⟨λ_ _ z=>z,λ_ z=>(nomatch z)⟩
end Q
namespace PySem
section
variable {prog:Program}{w:World}{K:Type}[DecidableEq K]{knd:HeapKind prog w K}{A:Around}{E:Value->Shared->Prop}{s:Shared}
theorem jvk{d a:Addr}{xs:List (K×Addr×Value)}{k:K}{v:Value}{Q:Value->Shared->Prop}(hu:knd.room A)(da:knd.is s.heap k a)(hm:s.heap.DictOfH knd d xs)
  (h1:∀p,atKey xs k=some p->Q p.2 { s with toks:=s.toks+knd.draws k })
  (h2:atKey xs k=none->∀h',h'.DictOfH knd d (storedH xs k a v)->Heap.SameBut d s.heap h'->Q v { s with heap:=h',toks:=s.toks+knd.draws k })
  (hsz:xs.length<=sizeLine:=by size_fits):
  wpAny (model prog w) A (dictSetDefault d (.ref a) v) Q E s:=by
 obtain⟨o,es,ep,ho,hc,hd,he,his,hn⟩:=hm;unfold dictSetDefault
 try with_reducible refine Yr ?_
 refine X0 (knd.pyHash hu da ?_);refine X0 (wpAny_dictFind_heap (s:={ s with toks:=s.toks+knd.draws k }) hu da ho hd he his hn ?_ ?_)
 ·intro li;have hnot:k∉xs.map (·.1):=not_mem_keys_of_get li;refine X0 (wpAny_rule (X0 (wpAny_updateDictKeys (hz:=by have e:=size_of_entries he;omega) (s:={ s with toks:=s.toks+knd.draws k }) ho hd (X5 (h2 (atKey_none_of_get li) _ ⟨_,_,ep+1,Heap.get?_update_self _ ho (Obj.isFreed_of_dict (Obj.data_mapDictKeys hd _)),
   hc.mapDictKeys _,Obj.data_mapDictKeys hd _,?_,?_,?_⟩ (Yz ..))))))
  ·rw[storedH_new (atKey_none_of_get li)];simp[he,entryOfKey]
  ·rw[storedH_new (atKey_none_of_get li)];intro x hx;rcases List.mem_append.mp hx with hx|hx
   ·exact knd.keeps (his x hx) ho hd (Yz ..)
   ·simp only[List.mem_singleton]at hx;subst hx;exact knd.keeps da ho hd (Yz ..)
  ·rw[storedH_new (atKey_none_of_get li)];rw[Xp,Xf];refine⟨hn,by simp,?_⟩;intro x hx y hy;simp only[List.map_cons,List.map_nil,List.mem_singleton]at hy;subst hy;exact λe=>hnot (e▸hx)
 ·intro j p hj;refine X0 (Yj (s:={ s with toks:=s.toks+knd.draws k }) ho hd ?_);rw[entry_at he j,hj];exact X0 (wpAny_rule (X5 (h1 _ (atKey_of_get hn hj))))
theorem jwp(knd:HeapKind prog w K)(d a:Addr)(hd:(d==sysModules)=false)(ko:Value):
  MeetsIn prog w (Builtin.«dict.setdefault» ⟨[.ref d,.ref a,ko],[]⟩) (λA R s=>knd.room A.in1/\∃k xs,knd.is s.heap k a/\s.heap.DictOfH knd d xs/\xs.length<=sizeLine /\
   (∀p,atKey xs k=some p->R (.ok (.ret p.2)) { s with toks:=s.toks+knd.draws k }) /\
   (atKey xs k=none->∀h',h'.DictOfH knd d (storedH xs k a ko)->Heap.SameBut d s.heap h'->R (.ok (.ret ko)) { s with heap:=h',toks:=s.toks+knd.draws k })):=
 .of_wp λA R s ⟨hu,k,xs,da,hm,hz,h1,h2⟩=>by
  unfold Builtin.«dict.setdefault»;refine X0 ?_;unfold Builtin.Dict.keyAndDefault;refine X0 (wpAny_notOrdered_dict hm.typeIs ?_);show wpAny _ _ (pure (d,Value.ref a,some ko)) _ _ s;refine X5 ?_;show wpAny _ _ (if(d==sysModules)=true then _ else(dictSetDefault d (.ref a) ko >>= _)) _ _ s;rw[Xd (by rw[hd];exact Bool.false_ne_true)];exact X0 (jvk (hsz:=hz) hu da hm (λp hp=>X5 ⟨p.2,rfl,h1 p hp⟩) λhn h' lh gv=>X5 ⟨ko,rfl,h2 hn h' lh gv⟩)
end
end PySem
namespace Q
open PySem PySem.Spec PyProof.Rows L2 L3
section
variable {X:Cx}{Z:Fx0}{pn:List Nat}{q:Bool}{c:Ex}{e ep:Expr}{i:Nat}{p:List Nat}{pos:Pos}
theorem wjm{K:PySem.W.Frag}{H:Hp}{x:Sl}(ok:x.ok K H)(h:x.d.pure=true):RepL K H false x.d x.v []:=(RepL.pu (g':=false) (RepO.wk ok) h).2
theorem wj4{K:PySem.W.Frag}{H:Hp}{l:Addr}{xs:List V}(h:H l=some (.lst xs)):tyV K "list" (.ref l) H:=.inl ⟨rfl,xs,.inl (.inl h)⟩
end
end Q
namespace PySem
section
variable {prog:Program}{w:World}{A:Around}{E:Value->Shared->Prop}{s:Shared}
noncomputable def vk2(h:Heap)(d:Addr)(n:Nat):Prop:=∃o es ep,h.get? d=some o/\o.cls=.type "dict"/\o.data=.dict es ep/\es.size=n
theorem kkp(d:Addr)(hd:(d==sysModules)=false):
  MeetsIn prog w (Builtin.«dict.__len__» ⟨[.ref d],[]⟩) (λ_ R s=>∃n,vk2 s.heap d n/\R (.ok (.ret (.int n s.toks))) { s with toks:=s.toks+1 }):=
 .of_wp λA R s ⟨n,⟨o,es,ep,ho,hc,hdat,hz⟩,h⟩=>by
  show wpAny _ _ (dictSize d >>= _) _ _ s;unfold dictSize;refine X0 (X0 (Yj ho hdat (X5 ?_)));show wpAny _ _ (Builtin.Dict.pendingCount d >>= _) _ _ s;refine X0 (wpAny_pendingCount_other hd ?_);refine wpAny_ret_mkInt ?_;rw[Nat.add_zero,hz];exact h
theorem kqt{d:Addr}{n:Nat}{Q:Value->Shared->Prop}(hd:(d==sysModules)=false)(hm:vk2 s.heap d n)(d8:(n:Int)<2 ^ 63)
  (h:Q (.int n (s.toks+1)) { s with toks:=s.toks+1+1 }):wpAny (model prog w) A (Builtin.«len» ⟨[.ref d],[]⟩) (λfin s'=>∃r,fin=.done (.ret r)/\Q r s') E s:=by
 have ht:s.TypeIs (.ref d) "dict":=by obtain⟨o,es,ep,ho,hc,_⟩:=hm;exact⟨o,ho,hc⟩
 unfold Builtin.«len»;refine X0 (m:=oneArg "len" _) (X5 ?_);refine X0 (m:=callSpecial? (.ref d) (Str.ofString "__len__")) (Yf (name:=Str.ofString "__len__") ht F.slot_dict_len
  (call_meetsIn F.slot_dict_len ht F.entry_dict_len (F.args_dict_len_1 _) (kkp d hd) ⟨n,hm,?_⟩))
 show wpAny _ _ _ _ _ { s with toks:=s.toks+1 };refine X0 (Yr (X5 ?_));refine X0 (wpAny_letGo ?_);show wpAny _ _ (if((n:Nat):Int)<0 then _ else _) _ _ _;rw[Xd (by omega)];show wpAny _ _ (if((n:Nat):Int)>=2 ^ 63 then _ else _) _ _ _;rw[Xd (by omega)];exact X0 (wpAny_mkInt (X5 ⟨_,rfl,h⟩))
theorem kqv{d:Addr}{n:Nat}{Q:Value->Shared->Prop}(hd:(d==sysModules)=false)(hm:vk2 s.heap d n)(d8:(n:Int)<2 ^ 63)
  (h:Q (.int n (s.toks+1)) { s with toks:=s.toks+1+1 }):wpAny (model prog w) A (call (.builtin "len") [.ref d]) Q E s:=
 Calls.call_function_entry kind_len plain_len entry_len (args_len1 _) (kqt hd hm d8 h)
end
end PySem
namespace Q
open PySem PySem.Spec PyProof.Rows L2 L3
noncomputable def wjs(K:PySem.W.Frag):List V->Hp->VK->Prop:=λxs H Q=>∃a ks vs,xs=[.ref a]/\DcN K H a ks vs/\Q (.int ks.length) H
theorem kzk{X:Cx}(K:PySem.W.Frag):CallR X (.builtin "len") (wjs K):=by
 intro pins s σ H xs us Q I r ⟨a,ks,vs,e,⟨es,ep,hH,hs,hl,_,hk,_⟩,q⟩;subst e;cases r with
 | cons r1 r2=>
  cases r2;cases r1;obtain⟨ob,cx,g1,g2,g3,g4⟩:=qvs I hH;have ae:ks.length=cx.size:=by
   have:=congrArg List.length g4;rw[X4,Yb]at this;rw[hk,X4];exact this.symm
  have hz:es.length=ks.length:=by rw[hk,X4]
  exact kqv (n:=ks.length) hs ⟨ob,cx,ep,g1,g2.1,g3,ae.symm⟩ (by rw[sizeLine_eq]at hl;omega) ⟨.int ks.length,H,I.tok _,⟨_,rfl⟩,q⟩
theorem vjy{K:PySem.W.Frag}:Ad1 K (λv H Q=>wjs K [v] H Q) (pu1 Zx):=by
 intro H x s Q ok hf k;have hf:(Zx x.d).map (λd=>(Own.dp,d))=some s:=hf;cases hd:x.d with
 | dct kvs=>
  rw[hd]at hf;unfold Zx at hf;dsimp only at hf
  by_cases hu:unm kvs=true
  ·rw[X9 hu]at hf;cases oq9 hf;obtain⟨a,xs,e,dn⟩:=vj9 ok hd hu;refine⟨a,kvs.map (·.1),xs,by rw[e],dn,?_⟩;rw[X4];exact k ⟨.dp,.int kvs.length,.int kvs.length,[]⟩ H rfl rfl (kjv (λ_ _ h=>h) V1)
  ·rw[Xd hu]at hf;cases hf
 |_=>rw[hd]at hf;cases hf
section
variable {X:Cx}{pins:List (Addr×Obj)}{σ:L2.St}{H:Hp}{s:Shared}{a b:Addr}{es:List Ent}{A:Around}{E:Value->Shared->Prop}{k:Kd}{r:Value}
theorem vqx{ep:Nat}{Q:Value->Shared->Prop}(hu:A.units+64<cLine)(I:Inv X pins σ H s)(e:H a=some (q9 a es ep))(hs:(a==sysModules)=false)(h2:es.length<=sizeLine)(h3:(es.map (·.1)).Nodup)(h5:∀x∈es,PuR X.K H x.1.1 (.ref x.2.1))(hk:PuR X.K H k.1 (.ref b))
  (h1:∀p,atKey es k=some p->∀s',Inv X pins σ H s'->Q p.2 s') (h4:atKey es k=none->∀ep' s',Inv X pins σ (upd H a (q9 a (storedH es k b r) ep')) s'->Q r s'):
  wpAny (model X.prog X.w) A (call (.builtin "dict.setdefault") [.ref a,.ref b,r]) Q E s:=by
 have dd:=qqc I e h3 h5;refine call_meetsIn PySem.F.slot_dict_setdefault dd.typeIs PySem.F.entry_dict_setdefault (PySem.F.args_dict_setdefault_3 _ _ _) (jwp (kv0 X.prog X.w) a b hs r) ⟨?_,k,es,jxg I hk rfl,dd,h2,λp hp=>h1 p hp _ (I.tok _),λhn h' dd' px=>?_⟩
 ·exact qj7 hu
 ·obtain⟨q,ds,ep',hq,g2,g3,g4,_,_⟩:=dd';exact h4 hn ep' _ (qk1 I (by rw[e];exact True.intro) px ⟨q,hq⟩ ⟨⟨q,ds,hq,g2,g3,g4⟩,⟨q,hq⟩,λh1 h2 ⟨o,ds,a1,a2⟩ k=>⟨o,ds,k o a1,a2⟩⟩)
end
abbrev vkc(K:PySem.W.Frag)(td ty tx:TE):TE:=fun σ H Q=>td σ H λx H1=>∃a,x=.ref a/\(∃es ep,H1 a=some (q9 a es ep))/\ty σ H1 λy H2=>tx σ H2 λz H3=>∃b k es ep,y=.ref b/\H3 a=some (q9 a es ep)/\(a==sysModules)=false/\es.length<=sizeLine/\(es.map (·.1)).Nodup/\(∀x∈es,PuR K H3 x.1.1 (.ref x.2.1))/\PuR K H3 k.1 (.ref b) /\
 (∀p,atKey es k=some p->∃v,RelV v p.2/\Q v H3)/\(atKey es k=none->∀r ep',RelV z r->Q z (upd H3 a (q9 a (storedH es k b r) ep')))
section
variable {X:Cx}{o e f:Expr}{apos ab:Pos}{td ty tx:TE}
theorem qv6(hu:X.A.units+64<cLine)(ho:PE X o td)(he:PE X e ty)(hf:PE X f tx)(m:M2 X o "setdefault" apos e f ab):PE X (.Call (.Attribute o "setdefault" apos) [e,f] [] ab) (vkc X.K td ty tx):=by
 intro pins s σ H Q I h;refine wpAny_Call_method m.base m.few m.line PySem.F.plainAttrs_dict PySem.F.slot_dict_setdefault PySem.F.type_dict_setdefault (thn (ho pins s σ H _ I h) λu s1 ⟨x,H1,I1,rx,a,ex,⟨es0,ep0,d⟩,q1⟩=>?_);subst ex;obtain rfl:u=Value.ref a:=rx;obtain⟨ob,cx,g1,g2,g3,g4⟩:=qvs I1 d;refine⟨⟨ob,g1,g2.1⟩,λb z=>by cases z;exact⟨ob,g1,g2.2.1⟩,?_⟩;rw[m.trees];refine Yi rfl (Calls.evalArgs_plain (Calls.spliced_cons (thn (he pins s1 σ H1 _ I1 q1) λiv s2 ⟨y,H2,I2,ry,q2⟩=>
  Calls.spliced_cons (thn (hf pins s2 σ H2 _ I2 q2) λfv s3 ⟨z,H3,I3,rz,b,k,es,ep,ey,ea,hs,hl,hn,h5,hk,q4,q5⟩=>Calls.spliced_nil ?_))))
 subst ey;obtain rfl:iv=Value.ref b:=ry;exact vqx hu I3 ea hs hl hn h5 hk (λp hp s4 I4=>by obtain⟨v,rv,q3⟩:=q4 p hp;exact⟨v,H3,I4,rv,q3⟩) λc9 ep' s4 I4=>⟨z,_,I4,rz,q5 c9 fv ep' rz⟩
end
theorem qzn {K : PySem.W.Frag} {H : Hp} {k : Kd}: ∀{kvs : List (D × D)} {xs : List V} {bs : List Addr} {es : List Ent}, RepP K H true kvs xs bs -> kvs.map (·.1) = es.map (·.1.1) -> Vals xs (es.map (·.2.2)) -> D.pures (kvs.map (·.2)) = true ->
    (∀ p, atKey es k = some p -> ∃d v, xx kvs k.1 = some d /\ RelV v p.2 /\ RepL K H false d v [] /\ d.pure = true) /\ (atKey es k = none -> xx kvs k.1 = none)
  | [], _, _, [], _, _, _, _=>⟨λp h=>(by cases h), λ_=>rfl⟩
  | [], _, _, _::_, _, h, _, _=>by cases h
  | _ :: _, _, _, [], _, h, _, _=>by cases h
  | (q, d)::kvs, xs, bs, e::es, hr, hk, hv, hp=>by
    unfold RepP at hr;obtain⟨x, r, b1, c1, rfl, _, h1, h2⟩:= hr;rw [List.map_cons, List.map_cons]at hk;injection hk with k1 k2;rw [List.map_cons]at hv hp;cases hv with
    | cons v1 v2=>
      unfold D.pures at hp;rw [Bool.and_eq_true]at hp;have ih:= qzn (k:= k) h2 k2 v2 hp.2;have k1 : q = e.1.1:= k1
      by_cases he : e.1 = k
      · have hq : q = k.1:= by rw[k1, he]
        have hg : xx ((q, d)::kvs) k.1 = some d:= by unfold xx; rw[List.find?_cons_of_pos (by simp[hq])]; rfl
        have ha : atKey (e::es) k = some e.2:= by
          obtain⟨ek, ev⟩:= e;have he : ek = k:= he;simp[atKey, he]
        refine⟨λp og=> ?_, λhn=> ?_⟩
        · rw[ha]at og
          cases oq9 og;exact⟨d, x, hg, v1, (RepL.pu (g':= false) h1 hp.1).2, hp.1⟩
        · rw[ha]at hn; cases hn
      · have hq : q≠k.1:= λz=>he (Subtype.ext (by rw[<-k1]; exact z))
        have hg : xx ((q, d)::kvs) k.1 = xx kvs k.1:= by unfold xx; rw[List.find?_cons_of_neg (by simp[hq])]
        have ha : atKey (e::es) k = atKey es k:= by
          obtain⟨ek, ev⟩:= e;have he : ¬ek = k:= he;simp[atKey, he]
        rw[hg, ha];exact ih
section
variable {X:Cx}{Z:Fx0}{pn:List Nat}{q qa:Bool}{kc vc a b:Ex}{o ke ve ea eb:Expr}{pos cf apos ab:Pos}
theorem wjy{i:Nat}(hu:X.A.units+64<cLine)(ho:PE X o (Kx i))(hk:QV X Z true kc ke)(hv:QV X Z true vc ve)(hK:autoParam (X.K=Z.K) Ŕ)(hm:M2 X o "setdefault" apos ke ve ab:=by exact⟨rfl,rfl,rfl,rfl⟩):QE X Z false (vjp i kc vc) (.Call (.Attribute o "setdefault" apos) [ke,ve] [] ab):=
 vx (hK▸qv6 hu ho hk hv hm) fun σ H Q ai=>ex8 ai λE L r m w hc xc k=>by
  unfold vjp at hc
  by_cases hD:wvo E[i]?=true
  rotate_left
  ·rw[Xd hD]at hc;cases hc
  rw[X9 hD]at hc;obtain⟨kvs0,h0,hu0⟩:∃kvs,E[i]?=some (some (.rt,.dct kvs))/\unm kvs=true:=by
   unfold wvo at hD
   split at hD
   ·rename_i kvs h;exact⟨kvs,h,hD⟩
   ·cases hD
  obtain⟨x0,a1,a2,a3,a4⟩:=m.get h0;obtain⟨l0,xs0,el0,⟨es0,ep0,hH0,_⟩⟩:=vj9 (w.ok x0 (xq a1)) a3 hu0;refine⟨x0.v,a4,l0,el0,⟨es0,ep0,hH0⟩,?_⟩;refine x9 m w hc xc λE2 s2 h2 y L2 H2 e3 e4 m2 w2 jm sv sy b7 fj=>?_
  refine x9 m2 w2 h2 (xc.step b7) λE3 s3 h3 t L3 H3 e5 e6 m3 w3 ok3 qp sr3 cw sm3=>?_
  split at h3
  rotate_left
  ·cases h3
  rename_i kvs hE
  split at h3
  rotate_left
  ·cases h3
  rename_i i5;obtain⟨da,ae,hunm,nu,hps⟩:=i5;obtain⟨z,b1,b2,b3,b4⟩:=m3.get hE;have hzv:z.v=x0.v:=by rw[a4]at b4;exact(oq9 (oq9 b4)).symm
  have okz:RepR Z.K H3 (.dct kvs) z.v z.as:=by
   have:=w3.ok z (xq b1);unfold Sl.ok at this;rw[b2,b3]at this;exact this
  obtain⟨l,xs,bs,c1,c2,c3,c4⟩:=okz;have hll:l=l0:=by
   have:V.ref l=V.ref l0:=by rw[<-c1,hzv,el0]
   injection this
  subst hll;obtain⟨es,ep,d1,d2,d3,d4,d5,d6,d7⟩:=DcA.un c3 hunm;have ok2':y.ok Z.K H3:=RepO.kp jm (Kp.of_same (sm3 rfl));obtain⟨b,eb,pb⟩:=jxi ok2' (by rw[e4];exact da);have ii:k7 6 y.d=true:=by
   have:vW y.d=true:=by rw[e4];exact da
   unfold vW at this;rw[Bool.and_eq_true]at this;exact this.1
  have ht:=wjm ok3 (by rw[e6];exact nu);obtain⟨g1,g2⟩:=qzn (k:=⟨y.d,ii⟩) c2 d5 d7 hps;have hyk:(⟨y.d,ii⟩:Kd).1=s2.2:=e4;have dy:es.length<sizeLine:=by
   have:=congrArg List.length d5;rw[X4,X4]at this;rw[<-this];exact ae
  refine⟨b,⟨y.d,ii⟩,es,ep,eb,d1,d2,d3,d4,d6,pb,λp hp=>?_,λhn rr ep' uh=>?_⟩
  ·obtain⟨d,v',q1,q2,q3,q4⟩:=g1 p hp;rw[hyk]at q1;rw[q1]at h3;cases oq9 h3;exact⟨v',q2,k _ _ rfl ⟨.dp,d,v',[]⟩ L3 H3 rfl rfl m3 (w3.consPu q3 rfl) (V2 (x:=⟨.dp,d,v',[]⟩) (b7.trans cw) (λb hb=>nomatch hb) rfl) λz=>nomatch z⟩
  ·have q1:=g2 hn;rw[hyk]at q1;rw[q1]at h3;cases oq9 h3;have fm:=qqk es (⟨y.d,ii⟩:Kd);rw[hn]at fm;have rq:y.d∉es.map (·.1.1):=of_decide_eq_false fm.symm;rw[storedH_new hn];have rt:RepL Z.K H3 true s3.2 t.v []:=by rw[<-e6];exact(RepL.pu (g':=true) (RepO.wk ok3) (by rw[e6];exact nu)).2
   have rp:=kki (q:=s2.2) rt c2;rw[Xv]at rp;obtain⟨w4,jo⟩:=qje (ep':=ep') (T:=[]) (i:=i) (y:=z) (es':=es++[(⟨y.d,ii⟩,b,rr)]) (xs':=xs++[t.v]) (cs:=bs) (kvs':=kvs++[(s2.2,s3.2)]) (by simpa using w3) b1 d1 b2 c4 c1 rp (λa h=>.inl h) d2 (by rw[Xi,Yd];omega) (by
    rw[Xp,Xf];refine⟨d4,List.nodup_cons.mpr ⟨Xw,Xx⟩,λp og q hq e=>?_⟩;have:q=⟨y.d,ii⟩:=List.mem_singleton.mp hq;subst this e;obtain⟨n,j',mz⟩:=List.mem_map.mp og;exact rq (List.mem_map.mpr ⟨n,j',by rw[mz]⟩)) (by rw[Xp,Xp,d5,<-e4];rfl) (λn qd=>by
    rcases List.mem_append.mp qd with z|z
    ·exact d6 n z
    ·rw[List.mem_singleton.mp z];exact pb) (by rw[Xp];exact kk6 d7 uh)
   have ht2:RepL Z.K (upd H3 l (q9 l (es++[(⟨y.d,ii⟩,b,rr)]) ep')) false s3.2 t.v []:=by
    rw[<-e6];refine ht.kp ⟨λa zs e=>?_,λa o u e=>?_,λa ha=>nomatch ha⟩
    ·rw[v4 (λz=>by subst z;rw[d1]at e;cases e)];exact e
    ·rw[v4 (λz=>by subst z;rw[d1]at e;cases e)];exact e
   have mm:=m3.set (x:=⟨.rt,.dct (kvs++[(s2.2,s3.2)]),z.v,l::bs⟩) i;rw[XW b4]at mm;exact k _ _ rfl ⟨.dp,s3.2,t.v,[]⟩ _ _ rfl rfl mm (w4.consPu ht2 rfl) (V2 (x:=⟨.dp,s3.2,t.v,[]⟩) ((b7.trans cw).trans (by simpa using jo)) (λb hb=>nomatch hb) rfl) λz=>nomatch z
end
end Q
namespace Q
open PySem PySem.Spec PyProof.Rows L2 L3
noncomputable def spM(K:PySem.W.Frag)(mg:Str->Option Value)(n:Nat)(f:Fn):Sp:=λvs H Q E=>∃(xs:List Sl) (y:Sl) (r:Res Sd),vs=xs.map Sl.v++[y.v]/\xs.length=n/\World K H ((xs++[y]).map some)/\f ((xs++[y]).map Sl.sd)=some r /\
 (∀E' c,r=.exc E' c->∀C H',mg c=some (.ref C)->Step H ((xs++[y]).map some) H' []->E (.ref C) none H') /\
 ∀E' a,r=.ok E' a->∃sd,E'[n]?=some (some sd)/\∀(x y':Sl) H',x.o=a.1->x.d=a.2->y'.o=sd.1->y'.d=sd.2->y'.v=y.v->World K H' [some x,some y']->Step H ((xs++[y]).map some) H' [some x,some y']->Q x.v H'
theorem qwe{K:PySem.W.Frag}{mg:Str->Option Value}{n:Nat}{f:Fn}{ps:List Str}(hn:ps.length=n+1):∀vs H Q E,spM K mg n f vs H Q E->vs.length=ps.length:=λvs H Q E ⟨xs,y,r,e,hl,_⟩=>by rw[e,Xi,X4,hl,hn];rfl
theorem kvp{L:Ls}{x y:Sl}{i:Nat}(h:L[i]?=some (some y)):(sls [some x,some y]).Sublist (sls (some x::L)):=by
 have:y∈sls L:=mem_sls.mpr (xq h);show(x::[y]).Sublist (x::sls L);exact(List.singleton_sublist.mpr this).cons₂ x
theorem qzx{X:Cx}{K:PySem.W.Frag}{mg:Str->Option Value}{N:List Str}{n nn:Nat}{B:Sm}{body:List Stmt}{H:Hp}{vs:List V}{Q:VK}{E:XK}(hN:N.length=nn)(t:QSs X ⟨K,mg,E⟩ [n] B body)(h:spM K mg n (fn nn B) vs H Q E):
  ∃t,PSs X body t/\t { nx:=λ_ H'=>Q .non H',rt:=Q } (L2.start N vs) H:=by
 refine⟨_,t,?_⟩;obtain⟨xs,y,r,rfl,hl,w,hf,hx,hk⟩:=h;unfold fn at hf;rw[X4,Y2]at hf;have m:=kjx (xs++[y]) (nn - (xs++[y]).length);have e1:L2.start N (xs.map Sl.v++[y.v])=(xs++[y]).map (λx=>some x.v)++List.replicate (nn - (xs++[y]).length) none:=by
  unfold L2.start;rw[show xs.map Sl.v++[y.v]=(xs++[y]).map Sl.v by simp,Y2,X4,hN];rfl
 have hy0:(L2.start N (xs.map Sl.v++[y.v]))[n]?=some (some y.v):=by
  rw[e1,Xu (by simp[hl])];simp[hl]
 have wL:World K H ((xs++[y]).map some++List.replicate (nn - (xs++[y]).length) none):=w.same (by simp);have sL:Step H ((xs++[y]).map some) H ((xs++[y]).map some++List.replicate (nn - (xs++[y]).length) none):=Step.refl.same (List.Perm.refl _) (by simp);have fin:∀{E1:En} {σ':L2.St} {L':Ls} {sd:Sd},E1[n]?=some (some sd)->Pn [n] (L2.start N (xs.map Sl.v++[y.v])) σ'->Mt E1 σ' L'->∃y':Sl,L'[n]?=some (some y')/\y'.o=sd.1/\y'.d=sd.2/\y'.v=y.v:=λhE p m'=>by
  obtain⟨y',a1,a2,a3,a4⟩:=m'.get hE;refine⟨y',a1,a2,a3,?_⟩;have:=p n (List.mem_singleton.mpr rfl);rw[a4,hy0]at this;exact oq9 (oq9 this)
 cases hB:B ((xs++[y]).map (λx=>some x.sd)++List.replicate (nn - (xs++[y]).length) none)with
 | none=>rw[show(some∘Sl.sd)=(λx:Sl=>some x.sd)from rfl,hB]at hf;cases hf
 | some g=>
  rw[show(some∘Sl.sd)=(λx:Sl=>some x.sd)from rfl,hB]at hf;refine⟨_,_,g,e1▸m,wL,hB,?_⟩;cases g with
  |nx E1=>
   cases oq9 hf;intro σ' L' H' p m' w' s';obtain⟨sd,hE,hk⟩:=hk _ _ rfl;obtain⟨y',b1,b2,b3,b4⟩:=fin hE p m';have wx:World K H' (some (⟨.dp,.non,.non,[]⟩:Sl)::L'):=w'.consPu (show RepL K H' false .non .non []from qj9) rfl;have sx:Step H ((xs++[y]).map some) H' (some (⟨.dp,.non,.non,[]⟩:Sl)::L'):=V2 (x:=⟨.dp,.non,.non,[]⟩) (sL.trans s') (λb hb=>(nomatch hb)) rfl;exact hk ⟨.dp,.non,.non,[]⟩ y' H' rfl rfl b2 b3 b4 (wx.sub (kvp b1)) (sx.sub (kvp b1))
  |rt E1 a=>
   cases oq9 hf;intro x σ' L' H' e2 e3 p m' w' s';obtain⟨sd,hE,hk⟩:=hk _ _ rfl;obtain⟨y',b1,b2,b3,b4⟩:=fin hE p m';exact hk x y' H' e2 e3 b2 b3 b4 (w'.sub (kvp b1)) ((sL.trans s').sub (kvp b1))
  |xc E1 c=>
   cases oq9 hf;intro C σ' L' H' hm _ m' w' s';exact hx _ _ rfl C H' hm ((sL.trans s').sub (by simp))
  |ct E1=>cases hf
  |bk E1=>cases hf
noncomputable def tAM(Z:Fx0)(q:Bool)(cs:List Ex)(i:Nat):TA:=fun σ H Q=>∃E L r,Mt E σ L/\World Z.K H L/\wj cs E=some r/\Xc Z σ H L r /\
 ∀E' ys,r=.ok E' ys->∀(xs:List Sl) L' H',xs.map Sl.sd=ys->Mt E' σ L'->World Z.K H' (xs.map some++L')->Step H L H' (xs.map some++L')->(q=true->kJ H H'/\∀b∈jq (xs.map some),H b=none)->∃v,σ[i]?=some (some v)/\Q (xs.map Sl.v++[v]) H'
section
variable {X:Cx}{Z:Fx0}{q:Bool}{c:Ex}{cs:List Ex}{e:Expr}{es:List Expr}{pos p:Pos}{x:Str}{ps:List Str}{k n i:Nat}{f:Fn}
theorem wz3(h:PE X e (Kx i))(ao:autoParam (starEach [e] X.env=(false,eval e X.env)::starEach [] X.env) Ŕ):PA X [e] (tAM Z q [] i):=kxm (xQ h zw ao) fun σ H Q ai=>ex8 ai λE L r m w hc xc k=>by
 cases oq9 hc;obtain⟨v,hv,q⟩:=k _ _ rfl [] L H rfl m w Step.refl λ_=>⟨λ_ _ z=>z,λ_ z=>(nomatch z)⟩
 exact⟨v,hv,q⟩
theorem wvk(h:QE X Z q c e)(hs:PA X es (tAM Z q cs i))(ao:autoParam (starEach (e::es) X.env=(false,eval e X.env)::starEach es X.env) Ŕ):PA X (e::es) (tAM Z q (c::cs) i):=
 kxm (xQ h hs ao) fun σ H Q ai=>ex8 ai λE L r m w hc xc k=>by
  refine VX m w (show bnd (c E) _=some r from hc) xc λE1 s h1 x L1 H1 e1 e2 m1 w1 st sm=>?_
  have s1:Step H L H1 L1:=st.trans Step.drop;rcases z4 h1 with⟨E2,ys,h2,h3⟩|⟨E2,cc,h2,h3⟩
  ·cases oq9 h3;refine⟨E1,L1,_,m1,w1.tail,h2,(λ_ _ z=>by cases z),λE' ys' z xs L2 H2 e3 m2 w2 b7 fj=>?_⟩;injection z with z1 z2;subst z1 z2;obtain⟨w3,cw⟩:=WQ (T:=[some x]) w1 b7 w2;refine k _ _ rfl (x::xs) L2 H2 (by rw[List.map_cons,e3];simp[Sl.sd,e1,e2]) m2 w3 (st.trans cw) λhq=>?_
   obtain⟨a1,a2⟩:=sm hq;obtain⟨b1,b2⟩:=fj hq;refine⟨v8 a1 b1,λb hb=>?_⟩;rw[List.map_cons,qk]at hb;rcases List.mem_append.mp hb with z|z
   ·exact a2 b z
   ·exact zZ a1 (b2 b z)
  ·exact⟨E1,L1,_,m1,w1.tail,h2,(xc.step s1).map h3,λE' s' z=>by cases z⟩
theorem vki{L:Ls}{y:Sl}(h:L[i]?=some (some y)):(sls L).Perm (y::sls (L.set i none)):=by
 have:=(jzc h).filterMap id;exact this
theorem qww(D:kK X.prog X.w X.K X.mg X.base k x ps (spM Z.K Z.mg n f))(hr:Room k X.A)(g:zX X Z.EX)(ha:PA X (e::es) (tAM Z q cs i))(hn:autoParam (cs.length=n) Ŕ)(hg:autoParam (Gl X x) Ŕ)(fy:autoParam ((x==("__debug__":Str))=false) ŕ)
  (he:autoParam (starEach (e::es) X.env=(false,eval e X.env)::starEach es X.env) Ŕ) (cg:autoParam ((backTo pos (starEach es X.env)).any (·.1)=false) Ŕ):
  QE X Z false (kzl f i cs) (.Call (.Name x p) (e::es) [] pos):=vx (vvk D hr g ha hg fy he cg) fun σ H Q ai=>ex8 ai λE L r m w hc xc kk=>by
 rcases z4 (show bnd (wj cs E) _=some r from hc)with⟨E1,ys,h1,h2⟩|⟨E1,cc,h1,h2⟩
 rotate_left
 ·exact⟨E,L,_,m,w,h1,xc.map h2,λE' s' z=>by cases z⟩
 refine⟨E,L,_,m,w,h1,(λ_ _ z=>by cases z),λE' ys' z xs L1 H1 e1 m1 w1 st sm=>?_⟩;injection z with z1 z2;subst z1 z2;have ae:xs.length=n:=by rw[<-hn,<-jzp h1,<-e1,X4]
 have hyl:ys.length=n:=by rw[<-hn];exact jzp h1
 split at h2
 rotate_left
 ·cases h2
 rename_i x0 hE;obtain⟨o0,d0⟩:=x0;obtain⟨y,a1,a2,a3,a4⟩:=m1.get hE;refine⟨y.v,a4,?_⟩;dsimp only;rw [Xv];obtain⟨wl,sl⟩:=kqx w1;have pm:(sls ((xs.map Sl.let).map some++L1)).Perm (sls ((xs.map Sl.let++[y]).map some++L1.set i none)):=by
  have e2:∀A B:Ls,sls (A++B)=sls A++sls B:=λA B=>List.filterMap_append ..
  rw[Xp,Xz,e2,e2];exact List.Perm.append_left _ (vki a1)
 have wl2:=wl.same pm;have nq:Step H L H1 ((xs.map Sl.let++[y]).map some++L1.set i none):=(st.trans sl).trans (Step.refl.same (List.Perm.refl _) pm);cases hf:f (letAll ys++[(o0,d0)])with
 | none=>rw[hf]at h2;cases h2
 | some fr=>
  rw[hf]at h2;refine⟨xs.map Sl.let,y,fr,by rw[Y2];rfl,by rw[X4];exact ae,wl2.left,?_,λE' c ee C H' hm s'=>?_,λE' a ee=>?_⟩
  ·rw[Xp,qxy,e1];show f (letAll ys++[(y.o,y.d)])=some fr;rw[a2,a3];exact hf
  ·subst ee;cases oq9 h2;obtain⟨w2,s2⟩:=stay wl2 s' ⟨λ_ z=>(nomatch z),Xx,λ_ z=>(nomatch z)⟩;exact xc _ _ rfl C _ H' hm (qxq i m1) w2 (nq.trans s2)
  ·subst ee;dsimp only at h2
   split at h2
   rotate_left
   ·cases h2
   rename_i x' hE';cases oq9 h2;rw[hyl]at hE';refine⟨x',hE',λx y' H' e2 e3 e4 e5 e6 w' s'=>?_⟩;obtain⟨w2,s2⟩:=stay wl2 s' w';have oi:([some x,some y']++L1.set i none).Perm (some y'::(some x::L1.set i none)):=List.Perm.swap ..;have w3:=(w2.perm oi).set (i:=i+1);rw[List.set_cons_succ,List.set_set]at w3;have s3:Step H L H' (some x::L1.set i (some y')):=by
    have:=(nq.trans (s2.perm (List.Perm.refl _) oi)).trans (Step.set (i:=i+1));rw[List.set_cons_succ,List.set_set]at this;exact this
   have mm:=kz0 (i:=i) (x:=y') (s:=x') m1 e4 e5;rw[e6,XW a4]at mm;exact kk _ _ rfl x _ H' e2 e3 mm w3 s3 λz=>nomatch z
end
end Q
namespace Q
open PySem PySem.Spec PyProof.Rows L2 L3
section
variable {X:Cx}{Z:Fx0}{pn:List Nat}{q:Bool}{b:Ex}{e:Expr}{pos:Pos}
theorem RepA.rev{K:PySem.W.Frag}{H:Hp}{g:Bool}:∀{ds:List D} {xs:List V} {bs:List Addr},RepA K H g ds xs bs->∃cs,RepA K H g ds.reverse xs.reverse cs/\∀a∈cs,a∈bs
 |[],xs,bs,h=>⟨bs,by unfold RepA at h;obtain⟨rfl,rfl⟩:=h;unfold RepA;exact⟨rfl,rfl⟩,λ_ h=>h⟩
 |d::ds,xs,bs,h=>by
  unfold RepA at h;obtain⟨x,r,b1,c1,rfl,rfl,h1,h2⟩:=h;obtain⟨cs,r2,hc⟩:=RepA.rev h2;rw[List.reverse_cons,List.reverse_cons];refine⟨cs++b1,RepA.snoc h1 r2,λa ha=>?_⟩;rcases List.mem_append.mp ha with z|z
  ·exact lr9 _ (hc a z)
  ·exact ll9 _ z
theorem wwa{o:Expr}{i:Nat}(ho:PE X o (Kx i))(hK:autoParam (X.K=Z.K) Ŕ)(hm:MtR X "list.reverse" qkq){apos ab gu:Pos}
  (ay:autoParam (attributeBase o "reverse" X.env (eval o X.env)=eval o X.env) Ŕ) (ax:autoParam ((apos.endLine==ab.line)=true) Ŕ)
  (pd:autoParam (swapsWith (.Call (.Attribute o "reverse" apos) [] [] ab) none gu.line X.env=pure false) Ŕ):
  QS X Z pn (WV i) (.Expr (.Call (.Attribute o "reverse" apos) [] [] ab) gu):=
 Kz (qx2 (vx7 Z.K PySem.F.plainAttrs_list PySem.F.slot_list_reverse PySem.F.type_list_reverse hm ho ay ax hK) pd) λDe σ H ai=>ex7 ai λE L r m w gp k=>by
 unfold WV at gp
 split at gp
 rotate_left
 ·cases gp
 rename_i ds hE;cases oq9 gp;obtain⟨y,a1,a2,a3,a4⟩:=m.get hE;have oky:RepR Z.K H (.lst ds) y.v y.as:=by
  have:=w.ok y (xq a1);unfold Sl.ok at this;rw[a2,a3]at this;exact this
 obtain⟨l,xs,bs,c1,c2,c3,c4⟩:=oky;obtain⟨cs,r2,hc⟩:=c2.rev;obtain⟨w2,s2⟩:=qjd (T:=[]) (o':=.rt) (ds':=ds.reverse) (xs':=xs.reverse) (by simpa using w) a1 c3 c4 (by unfold Sl.own;rw[a2,c4];simp) c1 r2 (.inl ⟨rfl,λa ha=>.inl (hc a ha)⟩);refine⟨y.v,a4,by rw[c1];exact wj4 c3,l,xs,c1,rfl,c3,?_⟩;have mm:=m.set (x:=⟨.rt,.lst ds.reverse,y.v,l::cs⟩) i;rw[XW a4]at mm;exact k σ _ _ Pn.refl mm w2 (by simpa using s2)
end
end Q
namespace Q
open PySem PySem.Spec PyProof.Rows L2 L3
theorem qz7{P:Program}{w:PySem.World}{K:PySem.W.Frag}{mg mb:Str->Option Value}{CX:CXT}{k:Nat}{fa a:Addr}{fd:FuncData}{x:Str}{sp:Sp}{s₁:Shared}{vs:List Value}{ns:List Int}
  (KX:K.In s₁.heap) (hns:s₁.heap.Ns mainGlobals mg) (hb:s₁.heap.Ns builtinsNs mb) (ng:∀x:Str,x≠"__name__"->mb x=bootBuiltins x) (hlim:s₁.heap.NoLimit) (hg:s₁.gens=#[])
  (ha:s₁.heap.get? a=some { cls:=.type "list",data:=.seq vs.toArray }) (hi:IntsAre vs ns) (hl:ns.length<=sizeLine) (hr:Room k callerA)
  (F:∀base:Heap,K.In base->base.Ns mainGlobals mg->FnOk P w K mg base CX k fa fd [x] sp) (uj:∀(s:Shared) (u:Value),BindsTo s fd ⟨[u],[]⟩ [(x,u)])
  (o5:∀H:Hp,wxo H->LsR K H a (ns.map V.int)->sp [.ref a] H (λv _=>v=.bl true) λ_ _ _=>False)
  (hCX:∀H e s',CX [] H s₁ (λ_ _ _=>False) e s'->False):
  codeAny (model P w) callerA (.call (.ref fa) ⟨[.ref a],[]⟩) (λr s'=>r=.ok (.ret (.bool true))/\OldK s₁.heap s'.heap/\s'.os=s₁.os/\AllBare s'.gens) s₁:=by
 have rv:=kx6 hi;have lenV:=hi.length;have ln:∀H:Hp,wxo H->LsR K H a (ns.map V.int)->HOk P w H s₁.heap->(∀b,H b≠none->b=a)->(H a≠none->K.lookup a=none) ->
   codeAny (model P w) callerA (.call (.ref fa) ⟨[.ref a],[]⟩) (λr s'=>r=.ok (.ret (.bool true))/\OldK s₁.heap s'.heap/\s'.os=s₁.os/\AllBare s'.gens) s₁:=by
  intro H hO hS hok hA hK;have iz:∀{b:Addr} {o:Obj},s₁.heap.get? b=some o->H b=none->(QQ s₁.heap H).get? b=some o:=λe n=>vqn e n
  have sh:∀{b:Addr} {o:Obj} {es:Array DictEntry} {ep:Nat},s₁.heap.get? b=some o->o.data=.dict es ep->H b=none:=fun {b o es ep} e d=>by
   cases q:H b with
   | none=>rfl
   | some u=>
    have e':b=a:=hA b (by rw[q];simp);subst e';rw[ha]at e;cases e;have d':Data.seq vs.toArray _=Data.dict es ep:=d;cases d'
  have nsK:∀{b:Addr} {m:Str->Option Value},s₁.heap.Ns b m->(QQ s₁.heap H).Ns b m:=fun {b m} ⟨o,es,ep,e,d,r⟩=>⟨o,es,ep,iz e (sh e d),d,r⟩
  have hKb:K.In (QQ s₁.heap H):=λb o e=>iz (KX b o e) (by
   cases q:H b with
   | none=>rfl
   | some u=>
    have e':b=a:=hA b (by rw[q];simp);subst e';rw[hK (by rw[q];simp)]at e;cases e)
  have hM:Mod K mg (QQ s₁.heap H):=⟨hKb,nsK hns,⟨mb,nsK hb,ng⟩,let ⟨mc,h1,h2⟩:=hlim;⟨mc,nsK h1,h2⟩⟩;have e0:Env0 P w K mg (QQ s₁.heap H) callerA [] s₁ H:=⟨rfl,hM,λb o e=>vxi e,Nat.le_of_eq (qzm _ _),trivial,λb hb=>absurd (show b∈([]:List Addr)from hb) (by simp),hok,.of_eq hg⟩;refine codeAny_mono ((F _ hKb (nsK hns)).run callerA [] s₁ H ⟨[.ref a],[]⟩ [.ref a] [.ref a] _ _ hr e0 (uj s₁ (.ref a)) (.cons rfl .nil) (o5 H hO hS)) λr s' h=>?_
  cases r with
  | error e=>exact(hCX H e s' h).elim
  | ok fl=>
   cases fl with
   | next=>exact False.elim h
   | brk=>exact False.elim h
   | cont=>exact False.elim h
   | ret u=>
    obtain⟨v,H',os,bare,un,hok',r',q⟩:=h;have q':v=.bl true:=q;subst q';obtain rfl:u=Value.bool true:=r';refine⟨rfl,OldK.of_keep λb o e=>?_,os,bare⟩;cases q:H b with
    | none=>exact un.keep b o e q (by intro z;exact absurd (show b∈([]:List Addr)from z) (by simp)) (by simp)
    | some u=>
     rcases hO b with z|⟨ob,xs,z⟩
     ·rw[q]at z;cases z
     ·have z2:=un.frzs b ob _ z;obtain⟨e1,_⟩:=hok b _ z;obtain⟨e2,_⟩:=hok' b _ z2;rw[e]at e1;cases e1;exact e2
 cases hk:K.lookup a with
 | some o=>
  have e:=KX a o hk;rw[ha]at e;cases e;refine ln (λ_=>none) (λ_=>.inl rfl) (.inr ⟨vs.toArray,_,hk,by rw[X7,lenV];exact hl,by simpa using rv⟩) (λb u z=>by have z':(none:Option HO)=some u:=z;cases z') (λb z=>absurd rfl z) λz=>absurd rfl z
 | none=>
  refine ln (λb=>if b=a then some (.frz { cls:=.type "list",data:=.seq vs.toArray } (.lst (ns.map V.int)))else none) (λb=>?_) (.inl (.inr ⟨{ cls:=.type "list",data:=.seq vs.toArray },X9 rfl⟩)) (λb u z=>?_) (λb z=>?_) λ_=>hk
  ·by_cases hb:b=a
   ·exact .inr ⟨_,_,X9 hb⟩
   ·exact .inl (Xd hb)
  ·by_cases hb:b=a
   ·have z':=(X9 hb).symm.trans z;cases z';subst hb;exact⟨ha,by rw[X4];exact hl,vs,_,rv,ha⟩
   ·have z':=(Xd hb).symm.trans z;cases z'
  ·by_cases hb:b=a
   ·exact hb
   ·exact absurd (Xd hb) z
@[elab_as_elim] theorem wzd {P:List Value->Prop}(us:List Value)(e:us.length=1)(h:∀a,P [a]):P us:=by
 cases us with
 |nil=>cases e
 |cons a us=>cases List.eq_nil_of_length_eq_zero (Nat.succ.inj e);exact h a
@[elab_as_elim] theorem wzc {P:List Value->Prop}(us:List Value)(e:us.length=2)(h:∀a b,P [a,b]):P us:=by
 cases us with
 |nil=>cases e
 |cons a us=>exact wzd (P:=λl=>P (a::l)) us (Nat.succ.inj e) λb=>h a b
@[elab_as_elim] theorem wzb {P:List Value->Prop}(us:List Value)(e:us.length=3)(h:∀a b c,P [a,b,c]):P us:=by
 cases us with
 |nil=>cases e
 |cons a us=>exact wzc (P:=λl=>P (a::l)) us (Nat.succ.inj e) λb c=>h a b c
@[elab_as_elim] theorem wza {P:List Value->Prop}(us:List Value)(e:us.length=4)(h:∀a b c d,P [a,b,c,d]):P us:=by
 cases us with
 |nil=>cases e
 |cons a us=>exact wzb (P:=λl=>P (a::l)) us (Nat.succ.inj e) λb c d=>h a b c d
@[elab_as_elim] theorem wz9 {P:List Value->Prop}(us:List Value)(e:us.length=5)(h:∀a b c d f,P [a,b,c,d,f]):P us:=by
 cases us with
 |nil=>cases e
 |cons a us=>exact wza (P:=λl=>P (a::l)) us (Nat.succ.inj e) λb c d f=>h a b c d f
@[elab_as_elim] theorem len6 {P:List Value->Prop}(us:List Value)(e:us.length=6)(h:∀a b c d f g,P [a,b,c,d,f,g]):P us:=by
 cases us with
 |nil=>cases e
 |cons a us=>exact wz9 (P:=λl=>P (a::l)) us (Nat.succ.inj e) λb c d f g=>h a b c d f g
theorem jzy{K:PySem.W.Frag}{H:Hp}{g:Bool}:∀(ns:List Int),RepA K H g (ns.map D.int) (ns.map V.int) []
 |[]=>by unfold RepA;exact⟨rfl,rfl⟩
 |n::ns=>by
  rw[List.map_cons,List.map_cons];unfold RepA;exact⟨_,_,[],[],rfl,rfl,V1,jzy ns⟩
theorem wqd{K:PySem.W.Frag}{mg:Str->Option Value}{f:Fn}{H:Hp}{a:Addr}{ns:List Int}(h:∃E o,f [(.no,.lst (ns.map D.int))]=some (.ok E (o,.bl true)))(hs:LsR K H a (ns.map V.int))(hO:wxo H):
  spF K mg 1 f [.ref a] H (λv _=>v=.bl true) λ_ _ _=>False:=by
 obtain⟨E,o,h⟩:=h;have key:∃as,RepL K H true (.lst (ns.map D.int)) (.ref a) as/\(∀b∈as,False):=by
  rcases hs with(hs|⟨ob,hs⟩)|hs
  ·rcases hO a with z|⟨_,_,z⟩<;>(rw[hs]at z;cases z)
  ·refine⟨[],?_,λb hb=>nomatch hb⟩;unfold RepL;exact⟨a,ns.map V.int,[],rfl,jzy ns,.inr ⟨rfl,.inl ⟨ob,hs⟩,rfl⟩⟩
  ·refine⟨[],?_,λb hb=>nomatch hb⟩;unfold RepL;exact⟨a,ns.map V.int,[],rfl,jzy ns,.inr ⟨rfl,.inr hs,rfl⟩⟩
 obtain⟨as,r,hn⟩:=key;refine⟨[⟨.no,.lst (ns.map D.int),.ref a,as⟩],_,rfl,rfl,?_,h,(λE' c z=>by cases z),λE' s z x H' e1 e2 w' st=>?_⟩
 ·exact⟨λx hx=>by rw[oq9 (List.mem_singleton.mp hx)];exact r,by simp[Sl.own],λb hb=>by simp[Sl.own]at hb⟩
 ·injection z with z1 z2;subst z2;exact Wj w'.head e2
section
open PySem.W PySem.Calls
theorem walkQ{l:OpenLaw}{n k:Nat}{q:Program}{v5:List Str}{XP:(Str->Option Value)->Heap->Prop}{YP:PySem.World->Heap->Prop}{d:DefRec}{K:Params->Frag}{f:Fn}{x:Str}
  (hn:l.most=some n) (mz:n<=sizeLine) (hdf:d.params.defaults=[]) (hr:Room k callerA)
  (hY:∀(w:PySem.World) (h:Heap),YP w h->(K w.params).In h)
  (F:∀(w:PySem.World) (mg:Str->Option Value) (fa:Addr) (h:Heap),(K w.params).In h->h.Ns mainGlobals mg->mg d.name=some (.ref fa) ->
   ∃fd:FuncData,(∀(s:Shared) (u:Value),BindsTo s fd ⟨[u],[]⟩ [(x,u)])/\∀base:Heap,(K w.params).In base->base.Ns mainGlobals mg->FnOk l.prog w (K w.params) mg base (CXE l.prog w) k fa fd [x] (spF (K w.params) mg 1 f))
  (o5:∀(ns:List Int),ns.length<=n->(∀i∈ns,Builtin.Int.intBits i<=1048576)->∃E o,f [(.no,.lst (ns.map D.int))]=some (.ok E (o,.bl true))):
  WalkO q v5 XP YP l.row.toRowW d [] (λf vs=>PySem.call f vs):=by
 intro w s0 s1 mg mb G Y fa o pm cd gi dV kV ho hd iw hD hmg hg args om as mv hlay hrd lx hlo;obtain rfl:dV=.none:=Dflts.none hD hdf;obtain rfl:kV=.none:=Dflts.noKw hD;obtain⟨a,vs,ns,rfl,rfl,hobj,u9,ae⟩:=Att.script_of hn mv lx;have sk:=qk4 hlay;have KX:=hY w _ Y;obtain⟨fd,hb,hF⟩:=F w mg fa _ KX G.T.g hmg;refine enter_call (codeAny_mono (qz7 KX G.T.g G.T.b G.T.builtins G.T.nolimit hg hobj u9 (Y3 ae mz) hr hF hb (λH hO hS=>wqd (o5 ns ae sk) hS hO) (λ_ _ _ ⟨_,_,_,_,_,_,_,_,_,_,_,_,_,_,_,z⟩=>z)) λr s' hq=>?_);obtain⟨rfl,h2,h3,h4⟩:=hq;exact⟨.inl ⟨.bool true,.bool true,[],rfl,λ_=>rfl,.bool true,Att.post_true l _,λ_=>⟨List.Pairwise.nil,λ_ hm=>(nomatch hm)⟩⟩,h2,h3,h4⟩
end
end Q
namespace Q
open PySem PySem.Spec PyProof.Rows L2 L3
section
variable {P:Program}{w:PySem.World}{K:PySem.W.Frag}{mg:Str->Option Value}{base h:Heap}{x:Str}{st:Stmt}{ps:List Str}{k:Nat}{sp:Sp}
noncomputable def Gf(K:PySem.W.Frag)(x:Str)(st:Stmt):Prop:=∃(f:Addr) (oc:Value) (od:Option Addr) (kV dc pm:Value) (an:Option Addr) (cd ct:Value) (sl:Array (Option Value)),PySem.W.nsIn K mainGlobals x=some (some (.ref f))/\K.lookup f=some ⟨oc,od,.func (PySem.W.fnOf x x (W7 st) (Q6 st) (kw st) .none kV dc pm an cd ct),sl⟩/\PySem.W.codeIn K cd x=true/\PySem.W.keepIn K (.ref f)=true
theorem Gf.mk{f:Addr}{oc:Value}{od:Option Addr}{kV dc pm:Value}{an:Option Addr}{cd ct:Value}{sl:Array (Option Value)}(a:PySem.W.nsIn K mainGlobals x=some (some (.ref f)))(l:K.lookup f=some ⟨oc,od,.func (PySem.W.fnOf x x (W7 st) (Q6 st) (kw st) .none kV dc pm an cd ct),sl⟩)(c:PySem.W.codeIn K cd x=true)(k:PySem.W.keepIn K (.ref f)=true):Gf K x st:=⟨f,oc,od,kV,dc,pm,an,cd,ct,sl,a,l,c,k⟩
theorem Gf.d(g:Gf K x st)(X:K.In h)(G:h.Ns mainGlobals mg)(ok:∀{f:Addr} {fd:FuncData},Fun K x x st f fd->FnOk P w K mg base (CXE P w) k f fd ps sp)
  (hb:∀(kV gi pm:Value) (an:Option Addr) (aq ct:Value) (us:List Value),us.length=ps.length->bindArgs (PySem.W.fnOf x x (W7 st) (Q6 st) (kw st) .none kV gi pm an aq ct) ⟨us,[]⟩=pure (ps.zip us):=by
   intro _ _ _ _ _ _ us hl
   first
   |exact wzd us hl λ_=>rfl
   |exact wzc us hl λ_ _=>rfl
   |exact wzb us hl λ_ _ _=>rfl
   |exact wza us hl λ_ _ _ _=>rfl
   |exact wz9 us hl λ_ _ _ _ _=>rfl
   |exact len6 us hl λ_ _ _ _ _ _=>rfl):kK P w K mg base k x ps sp:=by
 obtain⟨f,oc,od,kV,dc,pm,an,cd,ct,sl,a,l,c,kp⟩:=g;exact⟨f,_,ok (qzr l c kp),(qzr l c kp).binds hb,kp,PySem.W.mg_of X G a⟩
theorem Gf.law{fa:Addr}{y:Str}(g:Gf K "law" st)(X:K.In h)(G:h.Ns mainGlobals mg)(jg:mg "law"=some (.ref fa))(ok:∀{base:Heap} {f:Addr} {fd:FuncData},Fun K "law" "law" st f fd->FnOk P w K mg base (CXE P w) k f fd [y] sp)
  (hb:∀(kV gi pm:Value) (an:Option Addr) (aq ct:Value) (s:Shared) (v:Value),BindsTo s (PySem.W.fnOf "law" "law" (W7 st) (Q6 st) (kw st) .none kV gi pm an aq ct) ⟨[v],[]⟩ [(y,v)]:=by
   intros
   exact .of_eq rfl):
  ∃fd:FuncData,(∀(s:Shared) (v:Value),BindsTo s fd ⟨[v],[]⟩ [(y,v)])/\∀base:Heap,K.In base->base.Ns mainGlobals mg->FnOk P w K mg base (CXE P w) k fa fd [y] sp:=by
 obtain⟨f,oc,od,kV,dc,pm,an,cd,ct,sl,a,l,c,kp⟩:=g;have e:=jg.symm.trans (PySem.W.mg_of X G a);cases e;exact⟨_,hb kV dc pm an cd ct,λbase _ _=>ok (qzr l c kp)⟩
end
end Q
namespace Q
open PySem L2
theorem mkS{N P:List Str}{sc:Scope}(h1:autoParam (sc.kind=.function) Ŕ)(h2:autoParam (sc.isCoroutine=false) Ŕ)(h3:autoParam (sc.isGenerator=false) Ŕ)(h4:autoParam (N.Nodup) ŗ)(h5:autoParam (N.take P.length=P) Ŕ)(h6:autoParam (∀x∈P,sc.names.lookup x=some .local\/sc.names.lookup x=some .cell) ŗ)(h7:autoParam (∀y∈sc.names,y.2≠.free) ŗ):FnScope N P sc:=⟨h1,h2,h3,h4,h5,h6,h7⟩
end Q
namespace Q
open PySem PySem.Spec PyProof.Rows L2 L3
section
variable {X:Cx}{Z:Fx0}{pn:List Nat}{q qa:Bool}{a b c:Ex}{e ea eb:Expr}{pos p:Pos}
theorem kI{z:Int}{j}:QE X Z true (cC (.int z)) (.Constant (.int z) j p):=q_C wko λ_=>V1
theorem ki{z:Int}{j}:QV X Z true (vE (cC (.int z))) (.Constant (.int z) j p):=j4 kI
theorem kN{j}:QE X Z true (cC .non) (.Constant .none j p):=q_C wkl λ_=>qj9
theorem kn{j}:QV X Z true (vE (cC .non)) (.Constant .none j p):=j4 kN
theorem kS{z:Str}{j}(h:autoParam (z.length<=sizeLine) ŕ):QE X Z true (cC (.str z)) (.Constant (.str z) j p):=q_C wkj λ_=>kkh h
theorem ks{z:Str}{j}(h:autoParam (z.length<=sizeLine) ŕ):QV X Z true (vE (cC (.str z))) (.Constant (.str z) j p):=j4 (kS h)
theorem vv(i:Nat){x:Str}(hN:autoParam (X.N[i]?=some x) Ŕ)(hv:autoParam (Vis X.env.scope x) ř)(hd:autoParam ((x==("__debug__":Str))=false) ŕ)
  (iw:autoParam ((x==("__classdict__":Str))=false) ŕ):QV X Z true (vV i) (.Name x pos):=q_vV (pv i hN hv hd iw)
theorem cv(i:Nat){x:Str}(hN:autoParam (X.N[i]?=some x) Ŕ)(hv:autoParam (Vis X.env.scope x) ř)(hd:autoParam ((x==("__debug__":Str))=false) ŕ)
  (iw:autoParam ((x==("__classdict__":Str))=false) ŕ):QE X Z true (cV i) (.Name x pos):=q_V (pv i hN hv hd iw)
theorem kx(ha:QV X Z qa a ea)(hb:QV X Z true b eb)(hs:qk6 eb:=by exact λ_ _=>rfl)(hK:autoParam (X.K=Z.K) Ŕ):QV X Z qa (j6 a b) (.Subscript ea eb pos):=q_ix ha hb hs hK
theorem qA{i:Nat}{y:Str}{cf:Pos}(hN:X.N.Nodup)(h:QE X Z q a ea)(hi:autoParam (X.N[i]?=some y) Ŕ)(hx:autoParam (Loc X.env.scope y) Ś)(hp:autoParam (i∉pn) ŕ)(hs:autoParam (swapsWith ea (some (.Name y cf)) pos.line X.env=pure false) Ŕ)(hf:autoParam (X.fn y=true\/X.env.scope.names.lookup y=some .local) Ř):
  QS X Z pn (jk i a) (.Assign [.Name y cf] ea pos):=wwc hN hi hx h hp hs hf
theorem gn{i:Nat}{x:Str}(hN:X.N.Nodup)(hi:autoParam (X.N[i]?=some x) Ŕ)(hx:autoParam (Loc X.env.scope x) Ś)(hf:autoParam (X.fn x=true\/X.env.scope.names.lookup x=some .local) Ř):PG X (.Name x pos) (qzq i):=KY hN hi hx hf
theorem gN{i:Nat}{x:Str}(hN:X.N.Nodup)(hi:autoParam (X.N[i]?=some x) Ŕ)(hx:autoParam (Loc X.env.scope x) Ś)(hf:autoParam (X.fn x=true\/X.env.scope.names.lookup x=some .local) Ř)(hp:autoParam (i∉pn) ŕ):QG X Z pn (.n i) (.Name x pos):=YJ (KY hN hi hx hf) hp
theorem qC{k m n:Nat}{x:Str}{ps:List Str}{f:Fn}{cs:List Ex}{es:List Expr}(D:kK X.prog X.w X.K X.mg X.base k x ps (spF Z.K Z.mg n f))(hr:Room m X.A)(ha:QA X Z q cs (e::es))(g:zX X Z.EX:=by exact W1)(dy:autoParam (k<=m) ŕ)(hn:autoParam (cs.length=n) Ŕ)(hg:autoParam (Gl X x) Ŕ)(fy:autoParam ((x==("__debug__":Str))=false) ŕ)
  (he:autoParam (starEach (e::es) X.env=(false,eval e X.env)::starEach es X.env) Ŕ) (cg:autoParam ((backTo pos (starEach es X.env)).any (·.1)=false) Ŕ):
  QE X Z q (jK f cs) (.Call (.Name x p) (e::es) [] pos):=wk4 D (hr.mono dy) g ha hn hg fy he cg
theorem qF{tg iter:Expr}{ss:List Stmt}{it:Ev (List D)}{t:Tg}{B:Sm}(hi:QI X Z q tg it iter)(hg:QG X Z pn t tg)(hb:QSs X Z pn B ss)(hp:PassesOwn (model X.prog X.w) X.A X.env X.xe:=by exact qxc ⟨_,_,rfl,rfl⟩)(hc:autoParam (X.calm=true) Ŕ)(hs:autoParam (∀x,foldedSetIterable iter X.env x=pure x) Ŗ):QS X Z pn (qX it t B) (.For tg iter ss [] pos):=wwb hp hc hi hg hb hs
theorem oA(ha:QV X Z qa a ea)(hb:QV X Z true b eb)(hK:autoParam (X.K=Z.K) Ŕ):QE X Z qa (cF2 jx a b) (.BinOp ea .Add eb pos):=xk (wky hK) wvc ha hb
theorem oX(ha:QV X Z qa a ea)(hb:QV X Z true b eb)(hK:autoParam (X.K=Z.K) Ŕ):QE X Z qa (cF2 jX a b) (.BinOp ea .Mult eb pos):=xk (wkw hK) vzv ha hb
theorem oM(ha:QV X Z qa a ea)(hb:QV X Z true b eb):QE X Z qa (cF2 (pu2 jY) a b) (.BinOp ea .Mod eb pos):=xk wkv wv8 ha hb
theorem qP{i:Nat}{x:Str}{apos ab xp:Pos}(h:QE X Z q c e)(hN:autoParam (X.N[i]?=some x) Ŕ)(hv:autoParam (Vis X.env.scope x) ř)(hd:autoParam ((x==("__debug__":Str))=false) ŕ)
  (iw:autoParam ((x==("__classdict__":Str))=false) ŕ) (ay:autoParam (attributeBase (.Name x xp) "append" X.env (eval (.Name x xp) X.env)=eval (.Name x xp) X.env) Ŕ)
  (fz:autoParam (((backTo ab (starEach [e] X.env)).all (λx=>!x.1)&&(backToKw ab (keywordEach [] X.env)).all (λx=>x.1.isSome)
   && decide ([e].length+([]:List Keyword).length+(if([]:List Keyword).isEmpty then 0 else 1)<30))=true) Ŕ)
  (ax:autoParam ((apos.endLine==ab.line)=true) Ŕ) (hs:autoParam (starEach [e] X.env=(false,eval e X.env)::starEach [] X.env) Ŕ) (bg:autoParam ((backTo ab (starEach [] X.env)).any (·.1)=false) Ŕ) (hK:autoParam (X.K=Z.K) Ŕ)
  (pd:autoParam (swapsWith (.Call (.Attribute (.Name x xp) "append" apos) [e] [] ab) none pos.line X.env=pure false) Ŕ):
  QS X Z pn (qK qJ i c) (.Expr (.Call (.Attribute (.Name x xp) "append" apos) [e] [] ab) pos):=wwd (wkp Z.K PySem.F.plainAttrs_list PySem.F.slot_list_append PySem.F.type_list_append qxr (pv i hN hv hd iw) (xQ h zw hs) ay fz ax hs bg hK) pd
theorem qL(ha:QV X Z q a ea)(hm:X.mg "len"=none)(hK:autoParam (X.K=Z.K) Ŕ)(hg:autoParam (Gl X "len") Ŕ)(he:autoParam (starEach [ea] X.env=(false,eval ea X.env)::starEach [] X.env) Ŕ)(cg:autoParam ((backTo pos (starEach [] X.env)).any (·.1)=false) Ŕ):QE X Z q (cF1 (pu1 kY) a) (.Call (.Name "len" p) [ea] [] pos):=wvl (hK▸vzo X.K) wv9 ha hm vjs hg (by decide) (by decide) he cg
theorem qT(ha:QV X Z q a ea)(hm:X.mg "tuple"=none)(hK:autoParam (X.K=Z.K) Ŕ)(hg:autoParam (Gl X "tuple") Ŕ)(he:autoParam (starEach [ea] X.env=(false,eval ea X.env)::starEach [] X.env) Ŕ)(cg:autoParam ((backTo pos (starEach [] X.env)).any (·.1)=false) Ŕ):QE X Z q (cF1 z3 a) (.Call (.Name "tuple" p) [ea] [] pos):=Jk (vjn hK) vv4 ha hm kwt hg (by decide) (by decide) he cg
variable {iter f8 tg:Expr}{em:List Expr}{scope:Scope}{it:Ev (List D)}{tt:Tg}{u:Ts}
theorem qm(o:Own)(k:Nat)(R:List Nat)(m:Nat)(N:List Str)(hi:QI X Z q tg it iter)
  (hg:N.Nodup->∀cl C s0 H0 fp,QG (lcE X scope N cl C s0 H0 fp Z.EX) Z ((List.range R.length).map (k + ·)) tt tg) (ht:∀cl C s0 H0 fp,PTs (lcE X scope N cl C s0 H0 fp Z.EX) em (tT Z q u)) (he:∀cl C s0 H0 fp,QE (lcE X scope N cl C s0 H0 fp Z.EX) Z q c f8)
  (hN:autoParam (N.Nodup) ŗ) (gx:zX X Z.EX:=by exact W1) (top:JW X:=by exact⟨_,_,rfl,rfl⟩) (hR:autoParam (R.Nodup) ŕ) (hm:autoParam (X.N.length=m) Ŕ) (hr:autoParam (∀j∈R,j<m) ŕ) (hc:autoParam (X.calm=true) Ŕ) (hk:autoParam (scope.kind=.function) Ŕ) (m5:autoParam (W9 X.N X.env.scope scope N k R=true) Ŕ) (hs:autoParam (∀x,foldedSetIterable iter X.env x=pure x) Ŗ):
  QE X Z q (cLC o k R it tt u c) (.ListComp f8 [⟨tg,iter,em,0⟩] scope pos):=wz4 N hi (hg hN) ht he gx top hR (hm▸hr) hc hk m5 hs
theorem qM{x:Str}{p':Pos}(o:Own)(k:Nat)(R:List Nat)(m:Nat)(N:List Str)(hi:QI X Z q (.Name x p') it iter)(he:∀cl C s0 H0 fp,QE (lcE X scope N cl C s0 H0 fp Z.EX) Z q c f8)
  (hN:autoParam (N.Nodup) ŗ) (gx:zX X Z.EX:=by exact W1) (top:JW X:=by exact⟨_,_,rfl,rfl⟩) (hR:autoParam (R.Nodup) ŕ) (hm:autoParam (X.N.length=m) Ŕ) (hr:autoParam (∀j∈R,j<m) ŕ) (hc:autoParam (X.calm=true) Ŕ) (hk:autoParam (scope.kind=.function) Ŕ) (m5:autoParam (W9 X.N X.env.scope scope N k R=true) Ŕ) (hs:autoParam (∀x,foldedSetIterable iter X.env x=pure x) Ŗ)
  (hg:N.Nodup->∀cl C s0 H0 fp,QG (lcE X scope N cl C s0 H0 fp Z.EX) Z ((List.range R.length).map (k + ·)) (.n 0) (.Name x p'):=by exact λh _ _ _ _ _=>YJ (KY (i:=0) h rfl (by first|exact Or.inl rfl|exact Or.inr rfl))):
  QE X Z q (cLC o k R it (.n 0) tYes c) (.ListComp f8 [⟨.Name x p',iter,[],0⟩] scope pos):=wz4 N hi (hg hN) (λ_ _ _ _ _=>vkp) he gx top hR (hm▸hr) hc hk m5 hs
end
end Q
namespace Q
open PySem
noncomputable def out(f:Fn)(xs:List Sd):Option (Sd ⊕ Str):=match f xs with
 |some (.ok _ y)=>some (.inl y)
 |some (.exc _ c)=>some (.inr c)
 |none=>none
theorem vvp(n:Nat)(h:300<=n):(10:Nat) ^ 70<2 ^ n:=Xn (show(10:Nat) ^ 70<2 ^ 240 by decide) (Nat.pow_le_pow_right (by decide) (by omega))
theorem wq7:(10:Nat) ^ 70<2 ^ 4096:=vvp 4096 (by decide)
theorem mul_l{o1 o2:Own}{a b:Int}(h1:-18446744073709551616<a)(h2:a<18446744073709551616):zY (o1,.int a) (o2,.int b)=some (.dp,.int (a*b)):=by
 have:Jv a b=true:=by
  have:WJ a=true:=by unfold WJ;rw[Xb (show -(2 ^ 64)<a by omega),Xb (show a<2 ^ 64 by omega)];rfl
  unfold Jv;rw[this];rfl
 show(if Jv a b=true then _ else _)=_;rw[X9 this]
theorem mul_r{o1 o2:Own}{a b:Int}(h1:-18446744073709551616<b)(h2:b<18446744073709551616):zY (o1,.int a) (o2,.int b)=some (.dp,.int (a*b)):=by
 have:Jv a b=true:=by
  have:WJ b=true:=by unfold WJ;rw[Xb (show -(2 ^ 64)<b by omega),Xb (show b<2 ^ 64 by omega)];rfl
  unfold Jv;rw[this,Bool.or_true];rfl
 show(if Jv a b=true then _ else _)=_;rw[X9 this]
theorem wwv{o1 o2:Own}{a b:Int}(h1:-(10 ^ 70)<a)(h2:a<10 ^ 70)(h3:-(10 ^ 70)<b)(h4:b<10 ^ 70):zY (o1,.int a) (o2,.int b)=some (.dp,.int (a*b)):=by
 have lg:∀{c:Int},c.natAbs<10 ^ 70->c.natAbs.log2<2000000:=fun {c} h=>by
  rcases Nat.eq_zero_or_pos c.natAbs with h0|hp
  ·rw[h0];decide
  ·exact Nat.lt_trans ((Nat.log2_lt (Nat.ne_of_gt hp)).mpr (Nat.lt_trans h wq7)) (by decide)
 have ha:a.natAbs.log2<2000000:=lg (by omega);have hb:b.natAbs.log2<2000000:=lg (by omega);have:Jv a b=true:=by unfold Jv;rw[Xb ha,Xb hb];simp
 show(if Jv a b=true then _ else _)=_;rw[X9 this]
theorem add_i{o1 o2:Own}{a b:Int}:jx (o1,.int a) (o2,.int b)=some (.dp,.int (a+b)):=rfl
theorem sub_i{a b:Int}:V5 (.int a) (.int b)=some (.int (a - b)):=rfl
theorem div_i{a b:Int}(h:0<b)(h2:b<10 ^ 70):wZ (.int a) (.int b)=some (.int (a / b)):=by
 have hb:b.natAbs.log2<9000:=by
  exact(Nat.log2_lt (by omega)).mpr (Nat.lt_trans (show b.natAbs<10 ^ 70 by omega) (vvp 9000 (by decide)))
 show(if 0<b/\b.natAbs.log2<9000 then some (a / b)else none).map _=_;rw[X9 ⟨h,hb⟩];rfl
theorem mod_i{a b:Int}(h:0<b):jY (.int a) (.int b)=some (.int (a % b)):=by
 show(if 0<b then some (a % b)else none).map _=_;rw[X9 h];rfl
theorem pow_i{a b:Int}(h1:0<=b)(h2:b<=1000)(h3:-1000000<a)(h4:a<1000000):zW (.int a) (.int b)=some (.int (a ^ b.toNat)):=by
 show(if 0<=b/\b<=1000000/\a.natAbs<2 ^ 64 then some (a ^ b.toNat)else none).map _=_;rw[X9 ⟨h1,by omega,by omega⟩];rfl
theorem xv{a b:Int}:fEq (.int a) (.int b)=some (.bl (a==b)):=rfl
theorem Qj{a b:Str}:fEq (.str a) (.str b)=some (.bl (a==b)):=rfl
theorem lt_ii{a b:Int}:fLt (.int a) (.int b)=some (.bl (decide (a<b))):=rfl
theorem gt_ii{a b:Int}:fGt (.int a) (.int b)=some (.bl (decide (b<a))):=rfl
theorem le_ii{a b:Int}:fLe (.int a) (.int b)=some (.bl (decide (a<=b))):=rfl
theorem ge_ii{a b:Int}:fGe (.int a) (.int b)=some (.bl (decide (b<=a))):=rfl
theorem v9{xs:List D}{i:Int}{d:D}(h0:0<=i)(h:xs[i.toNat]?=some d):jV (.lst xs) (.int i)=some d:=by
 show((ixN xs.length i).bind λj=>xs[j]?)=some d;have hl:i.toNat<xs.length:=(List.getElem?_eq_some_iff.mp h).1;unfold ixN;rw[X9 h0,X9 (by omega)];exact h
theorem wzf{xs:List D}{i:Int}{d:D}(h0:0<=i)(h:xs[i.toNat]?=some d):jV (.tup xs) (.int i)=some d:=by
 show((ixN xs.length i).bind λj=>xs[j]?)=some d;have hl:i.toNat<xs.length:=(List.getElem?_eq_some_iff.mp h).1;unfold ixN;rw[X9 h0,X9 (by omega)];exact h
theorem len_l{xs:List D}:kY (.lst xs)=some (.int xs.length):=rfl
theorem len_t{xs:List D}:kY (.tup xs)=some (.int xs.length):=rfl
theorem qzd(ns:List Int)(i:Int)(h0:0<=i)(h1:i<ns.length):jV (.lst (ns.map D.int)) (.int i)=some (.int (ns.getD i.toNat 0)):=by
 have:i.toNat<ns.length:=by omega
 refine v9 h0 ?_;simp[this]
theorem vxv(xs:List D)(i:Int)(h0:0<=i)(h1:i<xs.length):jV (.lst xs) (.int i)=some (xs.getD i.toNat .non):=by
 have:i.toNat<xs.length:=by omega
 refine v9 h0 ?_;simp[this]
theorem vqi(xs:List D)(i:Int)(h0:0<=i)(h1:i<xs.length):jV (.tup xs) (.int i)=some (xs.getD i.toNat .non):=by
 have:i.toNat<xs.length:=by omega
 refine wzf h0 ?_;simp[this]
theorem J7(xs:List D)(i:Int)(h0:0<=i)(h1:i<xs.length):xs.getD i.toNat .non∈xs:=by
 have:i.toNat<xs.length:=by omega
 rw[X2,X1 this];exact Xh this
theorem kzt{o1 o2:Own}{a b:List D}(h1:o1≠.dp)(h2:o2≠.dp)(hl:a.length+b.length<10000):jx (o1,.lst a) (o2,.lst b)=some (.rt,.lst (a++b)):=by
 show(if a.length+b.length<=big/\v5 (o1,.lst a)/\v5 (o2,.lst b)then _ else _)=_;rw[X9 ⟨by unfold big;omega,by cases o1<;>simp_all [v5],by cases o2<;>simp_all [v5]⟩]
theorem J5{o:Own}{xs:List D}(h:o≠.dp):z3 (o,.lst xs)=some (.no,.tup xs):=by
 show(if v5 (o,.lst xs)then _ else _)=_;rw[X9 (by cases o<;>simp_all [v5])]
abbrev XP:=Str->Prop
theorem nd{α:Sort _}{a b:α}(h:a=b):a=b:=h
@[irreducible] noncomputable def Eo {α:Type} (m:Option (Res α)) (P:En->α->Prop) (X:XP):Prop:=match m with
 |some (.ok E a)=>P E a
 |some (.exc _ c)=>X c
 |none=>False
@[irreducible] noncomputable def Vo {α:Type} (m:Option α) (P:α->Prop):Prop:=match m with
 |some a=>P a
 |none=>False
@[irreducible] noncomputable def Oo (f:Fn) (xs:List Sd) (P:Sd->Prop) (X:XP):Prop:=match f xs with
 |some (.ok _ y)=>P y
 |some (.exc _ c)=>X c
 |none=>False
@[irreducible] noncomputable def Po (r:Option Fl) (N C:En->Prop) (R:Sd->Prop) (X:XP):Prop:=match r with
 |some (.nx E)=>N E
 |some (.ct E)=>C E
 |some (.rt _ x)=>R x
 |some (.xc _ c)=>X c
 |_=>False
abbrev noX:XP:=λ_=>False
section
variable {α β:Type}{P:En->α->Prop}{X:XP}{N C:En->Prop}{R:Sd->Prop}{E:En}
theorem V7{a:α}:Eo (some (.ok E a)) P X=P E a:=nd (by with_unfolding_all rfl)
theorem vj6{c:Str}:Eo (some (.exc E c):Option (Res α)) P X=X c:=nd (by with_unfolding_all rfl)
theorem vj4:Eo (none:Option (Res α)) P X=False:=nd (by with_unfolding_all rfl)
theorem kW{m:Option (Res β)}{f:En->β->Option (Res α)}:Eo (bnd m f) P X=Eo m (λE a=>Eo (f E a) P X) X:=by
 cases m with
 |none=>with_unfolding_all rfl
 |some r=>cases r<;>with_unfolding_all rfl
theorem vo_some{a:α}{P:α->Prop}:Vo (some a) P=P a:=nd (by with_unfolding_all rfl)
theorem vo_map{x:Option β}{f:β->α}{P:α->Prop}:Vo (x.map f) P=Vo x (λa=>P (f a)):=by cases x<;>with_unfolding_all rfl
theorem Q0{x:Option α}:Eo (val E x) P X=Vo x (P E):=by cases x<;>with_unfolding_all rfl
theorem vkw{E:En}:Po (some (.nx E)) N C R X=N E:=nd (by with_unfolding_all rfl)
theorem wwi{E:En}{x:Sd}:Po (some (.rt E x)) N C R X=R x:=nd (by with_unfolding_all rfl)
theorem Q9{m:Option (Res α)}{f:En->α->Option Fl}:Po (ofE m f) N C R X=Eo m (λE a=>Po (f E a) N C R X) X:=by
 cases m with
 |none=>with_unfolding_all rfl
 |some r=>cases r<;>with_unfolding_all rfl
theorem vvg{a b:Sm}:Po (j5 a b E) N C R X=Po (a E) (λE=>Po (b E) N C R X) C R X:=by
 unfold j5 Po;cases a E with
 |none=>with_unfolding_all rfl
 |some r=>cases r<;>with_unfolding_all rfl
theorem wkf{x:Option β}{f:β->Fl}:Po (x.map f) N C R X=Vo x (λa=>Po (some (f a)) N C R X):=by cases x<;>with_unfolding_all rfl
theorem Eo.mono{m:Option (Res α)}{P':En->α->Prop}(h:Eo m P X)(k:∀E a,P E a->P' E a):Eo m P' X:=by
 cases m with
 |none=>with_unfolding_all exact h
 |some r=>cases r with
  |ok E a=>with_unfolding_all exact k E a h
  |exc E c=>with_unfolding_all exact h
theorem Oo.mono{f:Fn}{xs:List Sd}{P P':Sd->Prop}(h:Oo f xs P X)(k:∀y,P y->P' y):Oo f xs P' X:=by
 unfold Oo at h ⊢;cases hf:f xs with
 |none=>rw[hf]at h;with_unfolding_all exact h
 |some r=>rw[hf]at h;cases r with
  |ok E a=>with_unfolding_all exact k a h
  |exc E c=>with_unfolding_all exact h
theorem Oo.out{f:Fn}{xs:List Sd}{P:Sd->Prop}(h:Oo f xs P noX):∃E y,f xs=some (.ok E y)/\P y:=by
 unfold Oo at h;cases hf:f xs with
 |none=>rw[hf]at h;with_unfolding_all exact(show False from h).elim
 |some r=>rw[hf]at h;cases r with
  |ok E a=>with_unfolding_all exact⟨E,a,rfl,h⟩
  |exc E c=>with_unfolding_all exact(show False from h).elim
theorem kX{n:Nat}{b:Sm}{xs:List Sd}{P:Sd->Prop}(h:Po (b (xs.map some++List.replicate (n - xs.length) none)) (λ_=>P (.dp,.non)) (λ_=>False) P X):Oo (fn n b) xs P X:=by
 unfold Oo fn;unfold Po at h;cases hb:b (xs.map some++List.replicate (n - xs.length) none)with
 |none=>rw[hb]at h;with_unfolding_all exact h
 |some r=>rw[hb]at h;cases r<;>with_unfolding_all exact h
theorem vzh{f:Fn}{cs:List Ex}{P:En->Sd->Prop}:Eo (jK f cs E) P X=Eo (wj cs E) (λE xs=>Oo f (letAll xs) (P E) X) X:=by
 unfold jK;rw[kW]
 congr 1
 funext E xs;unfold Oo;cases f (letAll xs)with
 |none=>with_unfolding_all rfl
 |some r=>cases r<;>with_unfolding_all rfl
noncomputable def wvr(d:D){α:Type}(a b:Option α):Option α:=match d with
 |.bl k=>if k=true then a else b
 |_=>none
theorem vzq(a b:Ex):Kw a b E=bnd (a E) λE x=>wvr x.2 (b E) (some (.ok E (.dp,.bl false))):=by
 unfold Kw wvr
 congr 1
 funext E x;cases x.2 with
 |bl k=>cases k<;>with_unfolding_all rfl
 |_=>with_unfolding_all rfl
theorem wv3(a b:Ex):cOr a b E=bnd (a E) λE x=>wvr x.2 (some (.ok E (.dp,.bl true))) (b E):=by
 unfold cOr wvr
 congr 1
 funext E x;cases x.2 with
 |bl k=>cases k<;>with_unfolding_all rfl
 |_=>with_unfolding_all rfl
theorem qjg{tg:Tg}{b:Sm}(I:En->List D->Prop)(hs:∀E d ds,I E (d::ds)->Vo (tg.put d E) λE1=>Po (b E1) (λE2=>I E2 ds) (λE2=>I E2 ds) R X)(h1:∀E,I E []->N E):∀ds E,I E ds->Po (KQ tg b ds E) N C R X
 | [],E,h=>by with_unfolding_all exact h1 E h
 | d::ds,E,h=>by
  have h2:=hs E d ds h;unfold KQ;cases hp:tg.put d E with
  | none=>rw[hp]at h2;with_unfolding_all exact(show False from h2).elim
  | some E1=>
   rw[hp]at h2;have h2:Po (b E1) (λE2=>I E2 ds) (λE2=>I E2 ds) R X:=by with_unfolding_all exact h2
   dsimp only;cases hb:b E1 with
   |none=>rw[hb]at h2;with_unfolding_all exact(show False from h2).elim
   |some r=>
    rw[hb]at h2;cases r with
    |nx E2=>with_unfolding_all exact qjg I hs h1 ds E2 h2
    |ct E2=>with_unfolding_all exact qjg I hs h1 ds E2 h2
    |rt E2 x=>with_unfolding_all exact h2
    |xc E2 c=>with_unfolding_all exact h2
    |bk E2=>with_unfolding_all exact(show False from h2).elim
theorem vZ{it:Ev (List D)}{tg:Tg}{b:Sm}(I:En->List D->Prop)(h0:Eo (it E) I X)(hs:∀E d ds,I E (d::ds)->Vo (tg.put d E) λE1=>Po (b E1) (λE2=>I E2 ds) (λE2=>I E2 ds) R X)(h1:∀E,I E []->N E):Po (qX it tg b E) N C R X:=by
 show Po (ofE (it E) λE ds=>KQ tg b ds E) N C R X;rw[Q9]
 with_unfolding_all exact h0.mono λE ds h=>qjg I hs h1 ds E h
theorem qkr{t:Ts}{b:Sm}(I:Nat->En->Prop)(hs:∀n E,I n E->Eo (t E) (λE1 k=>if k=true then Po (b E1) (λE2=>∃m,m<n/\I m E2) (λE2=>∃m,m<n/\I m E2) R X else N E1) X):∀n E,I n E->Po (sWhile t b E) N C R X:=by
 intro n
 induction n using Nat.strongRecOn with
 | _ n ih=>
  intro E h;have h2:=hs n E h;rw [sWhile];cases ht:t E with
  | none=>rw[ht]at h2;with_unfolding_all exact(show False from h2).elim
  | some r=>
   rw [ht]at h2;cases r with
   | exc E1 c=>with_unfolding_all exact h2
   | ok E1 k=>
    cases k with
    | false=>with_unfolding_all exact h2
    | true=>
     have h2:Po (b E1) (λE2=>∃m,m<n/\I m E2) (λE2=>∃m,m<n/\I m E2) R X:=by with_unfolding_all exact h2
     dsimp only;cases hb:b E1 with
     |none=>rw[hb]at h2;with_unfolding_all exact(show False from h2).elim
     |some r=>
      rw[hb]at h2;cases r with
      |nx E2=>exact(show ∃m,m<n/\I m E2 by with_unfolding_all exact h2).elim λm hh=>ih m hh.1 E2 hh.2
      |ct E2=>exact(show ∃m,m<n/\I m E2 by with_unfolding_all exact h2).elim λm hh=>ih m hh.1 E2 hh.2
      |rt E2 x=>with_unfolding_all exact h2
      |xc E2 c=>with_unfolding_all exact h2
      |bk E2=>with_unfolding_all exact(show False from h2).elim
theorem vj5{tg:Tg}{t:Ts}{c:Ex}{P:En->List Sd->Prop}(J:En->List D->List Sd->Prop)(hs:∀B d ds acc,J B (d::ds) acc->Vo (tg.put d B) λB1=>Eo (t B1) (λB2 k=>if k=true then Eo (c B2) (λB3 y=>J B3 ds (acc++[y])) X else J B2 ds acc) X)(h1:∀B acc,J B [] acc->P B acc):∀ds B acc,J B ds acc->Eo (lcL tg t c ds B acc) P X
 | [],B,acc,h=>by with_unfolding_all exact h1 B acc h
 | d::ds,B,acc,h=>by
  have h2:=hs B d ds acc h;unfold lcL;cases hp:tg.put d B with
  | none=>rw[hp]at h2;with_unfolding_all exact(show False from h2).elim
  | some B1=>
   rw[hp]at h2;have h2:Eo (t B1) (λB2 k=>if k=true then Eo (c B2) (λB3 y=>J B3 ds (acc++[y])) X else J B2 ds acc) X:=by with_unfolding_all exact h2
   dsimp only;rw[kW];refine h2.mono λB2 k h3=>?_
   cases k with
   |false=>with_unfolding_all exact vj5 J hs h1 ds B2 acc h3
   |true=>
    show Eo (bnd (c B2) _) P X;rw[kW]
    with_unfolding_all exact Eo.mono (P:=λB3 y=>J B3 ds (acc++[y])) h3 λB3 y h4=>vj5 J hs h1 ds B3 _ h4
theorem ZV{o:Own}{k:Nat}{r:List Nat}{it:Ev (List D)}{tg:Tg}{t:Ts}{c:Ex}{P:En->Sd->Prop}(J:En->En->List D->List Sd->Prop)(h0:Eo (it E) (λE1 ds=>J E1 (Qx k r E1) ds []) X)
  (hs:∀E1 B d ds acc,J E1 B (d::ds) acc->Vo (tg.put d B) λB1=>Eo (t B1) (λB2 k=>if k=true then Eo (c B2) (λB3 y=>J E1 B3 ds (acc++[y])) X else J E1 B2 ds acc) X) (h1:∀E1 B acc,J E1 B [] acc->Eo (mkL o (Q1 k r B E1) acc) P X):Eo (cLC o k r it tg t c E) P X:=by
 unfold cLC;rw[kW];refine h0.mono λE1 ds hJ=>?_
 have:=vj5 (P:=λB acc=>Eo (mkL o (Q1 k r B E1) acc) P X) (J E1) (hs E1) (h1 E1) ds _ _ hJ;cases hl:lcL tg t c ds (Qx k r E1) []with
 |none=>rw[hl]at this;with_unfolding_all exact(show False from this).elim
 |some q=>rw[hl]at this;cases q<;>with_unfolding_all exact this
end
theorem mulT_i{o1:Own}{a:Int}{y:Sd}:jX (o1,.int a) y=zY (o1,.int a) y:=by
 unfold jX;with_unfolding_all rfl
theorem mulT_l{o1:Own}{a:List D}{y:Sd}:jX (o1,.lst a) y=zY (o1,.lst a) y:=by
 unfold jX;with_unfolding_all rfl
noncomputable def sl(q:Option (Option Sd)):Option Sd:=match q with
 |some (some x)=>some x
 |_=>none
theorem sl_some{x:Sd}:sl (some (some x))=some x:=nd (by with_unfolding_all rfl)
noncomputable def wxk(d:D)(a b:Prop):Prop:=match d with
 |.bl k=>if k=true then a else b
 |_=>False
theorem andP_bl{k:Bool}{a b:Prop}:wxk (.bl k) a b=if k=true then a else b:=nd (by with_unfolding_all rfl)
noncomputable def Wo{α:Type}(m:Option α)(E:En)(P:En->α->Prop):Prop:=Vo m (P E)
theorem wo_some{α:Type}{a:α}{E:En}{P:En->α->Prop}:Wo (some a) E P=P E a:=by unfold Wo;exact vo_some
theorem wo_map{α β:Type}{x:Option β}{f:β->α}{E:En}{P:En->α->Prop}:Wo (x.map f) E P=Wo x E (λE a=>P E (f a)):=by unfold Wo;exact vo_map
noncomputable def Oe(f:Fn)(xs:List Sd)(E:En)(P:En->Sd->Prop)(X:XP):Prop:=Oo f xs (P E) X
noncomputable def intP(d:D)(P:Int->Prop):Prop:=match d with
 |.int i=>P i
 |_=>False
noncomputable def Ie(d:D)(E:En)(P:En->Int->Prop):Prop:=intP d (P E)
theorem ie_i{i:Int}{E:En}{P:En->Int->Prop}:Ie (.int i) E P=P E i:=nd (by with_unfolding_all rfl)
section
variable {P:En->Sd->Prop}{T:En->Bool->Prop}{X:XP}{N C:En->Prop}{R:Sd->Prop}{E:En}{e:Option Sd}{a b c:Ex}{t u:Ts}{i:Nat}
theorem w_seq{a b:Sm}:Po (j5 a b (e::E)) N C R X=Po (a (e::E)) (λE=>Po (b E) N C R X) C R X:=vvg
theorem w_asg:Po (jk i c (e::E)) N C R X=Eo (c (e::E)) (λE x=>N (E.set i (some x))) X:=by unfold jk;rw[Q9];with_unfolding_all rfl
theorem w_ret:Po (jz c (e::E)) N C R X=Eo (c (e::E)) (λ_ x=>R x) X:=by unfold jz;rw[Q9];with_unfolding_all rfl
theorem w_pass:Po (k9 (e::E)) N C R X=N (e::E):=nd (by with_unfolding_all rfl)
theorem w_if{a b:Sm}:Po (sIf t a b (e::E)) N C R X=Eo (t (e::E)) (λE k=>if k=true then Po (a E) N C R X else Po (b E) N C R X) X:=by
 unfold sIf;rw[Q9];congr 1;funext E k;cases k<;>with_unfolding_all rfl
theorem w_tup{is:List Nat}:Po (zJ is c (e::E)) N C R X=Eo (c (e::E)) (λE x=>Vo (Tg.put (.t is) x.2 E) N) X:=by
 unfold zJ;rw[Q9];congr 1;funext E x;rw[wkf];with_unfolding_all rfl
theorem w_vV:Eo (vV i (e::E)) P X=Wo (sl (e::E)[i]?) (e::E) P:=by
 unfold vV Wo;cases(e::E)[i]? with
 |none=>with_unfolding_all rfl
 |some q=>cases q<;>with_unfolding_all rfl
theorem w_cV:Eo (cV i (e::E)) P X=Wo (sl (e::E)[i]?) (e::E) (λE x=>P (E.set i (some (.no,x.2))) (.no,x.2)):=by
 unfold cV Wo;cases(e::E)[i]? with
 |none=>with_unfolding_all rfl
 |some q=>cases q<;>with_unfolding_all rfl
theorem w_cMv:Eo (cMv i (e::E)) P X=Wo (sl (e::E)[i]?) (e::E) (λE x=>P (E.set i none) x):=by
 unfold cMv Wo;cases(e::E)[i]? with
 |none=>with_unfolding_all rfl
 |some q=>cases q<;>with_unfolding_all rfl
theorem w_cC{d:D}:Eo (cC d (e::E)) P X=P (e::E) (.dp,d):=nd (by with_unfolding_all rfl)
theorem w_vE:Eo (vE c (e::E)) P X=Eo (c (e::E)) (λE x=>P E (.no,x.2)) X:=by unfold vE;rw[kW];with_unfolding_all rfl
theorem w_cH:Eo (cH c (e::E)) P X=Eo (c (e::E)) (λE x=>if x.1=.no then P E (.no,x.2)else if x.2.pure=true then P E (.dp,x.2)else False) X:=by
 unfold cH;rw[kW]
 congr 1
 funext E x
 by_cases h:x.1=.no
 ·rw[X9 h,X9 h];with_unfolding_all rfl
 ·rw[Xd h,Xd h]
  by_cases h2:x.2.pure=true
  ·rw[X9 h2,X9 h2];with_unfolding_all rfl
  ·rw[Xd h2,Xd h2];with_unfolding_all rfl
theorem w_f1{f:Sd->Option Sd}:Eo (cF1 f a (e::E)) P X=Eo (a (e::E)) (λE x=>Wo (f x) E P) X:=by
 unfold cF1;rw[kW];congr 1;funext E x;exact Q0
theorem w_f2{f:Sd->Sd->Option Sd}:Eo (cF2 f a b (e::E)) P X=Eo (a (e::E)) (λE x=>Eo (b E) (λE y=>Wo (f x y) E P) X) X:=by
 unfold cF2;rw[kW];congr 1;funext E x;rw[kW];congr 1;funext E y;exact Q0
theorem w_ix:Eo (j6 a b (e::E)) P X=Eo (a (e::E)) (λE x=>Eo (b E) (λE y=>Wo (jV x.2 y.2) E (λE d=>P E (sub x.1,d))) X) X:=by
 unfold j6;rw[kW];congr 1;funext E x;rw[kW];congr 1;funext E y;rw[Q0];exact vo_map
theorem w_tE:Eo (tE c (e::E)) T X=Eo (c (e::E)) (λE x=>Wo (truth x.2) E T) X:=by
 unfold tE;rw[kW];congr 1;funext E x;exact Q0
theorem w_tEQ:Eo (tEQ c (e::E)) T X=Eo (c (e::E)) (λE x=>Wo (truthQ x.2) E T) X:=by
 unfold tEQ;rw[kW];congr 1;funext E x;exact Q0
theorem w_tNot:Eo (tNot t (e::E)) T X=Eo (t (e::E)) (λE k=>T E (!k)) X:=by unfold tNot;rw[kW];with_unfolding_all rfl
theorem w_tAnd:Eo (tAnd t u (e::E)) T X=Eo (t (e::E)) (λE k=>if k=true then Eo (u E) T X else T E false) X:=by
 unfold tAnd;rw[kW];congr 1;funext E k;cases k<;>with_unfolding_all rfl
theorem w_tOr:Eo (tOr t u (e::E)) T X=Eo (t (e::E)) (λE k=>if k=true then T E true else Eo (u E) T X) X:=by
 unfold tOr;rw[kW];congr 1;funext E k;cases k<;>with_unfolding_all rfl
theorem w_tYes:Eo (tYes (e::E)) T X=T (e::E) true:=nd (by with_unfolding_all rfl)
theorem w_cIf:Eo (cIf t a b (e::E)) P X=Eo (t (e::E)) (λE k=>if k=true then Eo (a E) P X else Eo (b E) P X) X:=by
 unfold cIf;rw[kW];congr 1;funext E k;cases k<;>with_unfolding_all rfl
theorem w_cAnd:Eo (Kw a b (e::E)) P X=Eo (a (e::E)) (λE x=>wxk x.2 (Eo (b E) P X) (P E (.dp,.bl false))) X:=by
 rw[vzq,kW];congr 1;funext E x;cases x.2 with
 |bl k=>cases k<;>with_unfolding_all rfl
 |_=>with_unfolding_all rfl
theorem w_cOr:Eo (cOr a b (e::E)) P X=Eo (a (e::E)) (λE x=>wxk x.2 (P E (.dp,.bl true)) (Eo (b E) P X)) X:=by
 rw[wv3,kW];congr 1;funext E x;cases x.2 with
 |bl k=>cases k<;>with_unfolding_all rfl
 |_=>with_unfolding_all rfl
theorem w_call{f:Fn}{cs:List Ex}:Eo (jK f cs (e::E)) P X=Eo (wj cs (e::E)) (λE xs=>Oe f (letAll xs) E P X) X:=by with_unfolding_all exact vzh
theorem w_partN{P:En->Option Int->Prop}:Eo (XJ none (e::E)) P X=P (e::E) none:=nd (by with_unfolding_all rfl)
theorem w_partS{P:En->Option Int->Prop}:Eo (XJ (some c) (e::E)) P X=Eo (c (e::E)) (λE x=>Ie x.2 E (λE i=>P E (some i))) X:=by
 show Eo (bnd (c (e::E)) _) P X=_;rw[kW];congr 1;funext E x;unfold Ie;cases x.2<;>with_unfolding_all rfl
theorem w_sl{lo hi:Option Ex}:Eo (cSl a lo hi (e::E)) P X=Eo (a (e::E)) (λE x=>Eo (XJ lo E) (λE l=>Eo (XJ hi E) (λE h=>Wo (fSl x l h) E P) X) X) X:=by
 unfold cSl;rw[kW];congr 1;funext E x;rw[kW];congr 1;funext E l;rw[kW];congr 1;funext E h;exact Q0
theorem w_idx:Eo (W5 a b (e::E)) P X=Eo (a (e::E)) (λE x=>if isSq x.2=true then Eo (b E) (λE y=>Wo (kve x.2 y.2) E (λE d=>P E (.dp,d))) X else False) X:=by
 unfold W5;rw[kW];congr 1;funext E x;cases isSq x.2 with
 |false=>with_unfolding_all rfl
 |true=>
  show Eo (bnd (b E) _) P X=_;rw[kW];rw[X9 rfl]
  congr 1;funext E y;rw[Q0];unfold pu2;exact vo_map
theorem w_itS{P:En->List D->Prop}:Eo (itS c (e::E)) P X=Eo (c (e::E)) (λE x=>Wo (seqOf x.2) E P) X:=by
 unfold itS;rw[kW]
 congr 1
 funext E x;exact Q0
theorem w_itEn{P:En->List D->Prop}:Eo (wqn c (e::E)) P X=Eo (c (e::E)) (λE x=>Wo (lstOf x.2) E (λE ds=>P E (zq 0 ds))) X:=by
 unfold wqn;rw[kW]
 congr 1
 funext E x;rw[Q0];exact vo_map
end
theorem args_nil{e:Option Sd}{E:En}{P:En->List Sd->Prop}{X:XP}:Eo (wj [] (e::E)) P X=P (e::E) []:=nd (by with_unfolding_all rfl)
theorem args_cons{e:Option Sd}{E:En}{c:Ex}{cs:List Ex}{P:En->List Sd->Prop}{X:XP}:Eo (wj (c::cs) (e::E)) P X=Eo (c (e::E)) (λE x=>Eo (wj cs E) (λE xs=>P E (x::xs)) X) X:=by
 show Eo (bnd (c (e::E)) λE x=>bnd (wj cs E) λE xs=>some (.ok E (x::xs))) P X=_;rw[kW]
 congr 1
 funext E x;rw[kW]
 with_unfolding_all rfl
theorem eo_tup{e:Option Sd}{E:En}{cs:List Ex}{P:En->Sd->Prop}{X:XP}:Eo (qw .no cs (e::E)) P X=Eo (wj cs (e::E)) (λE xs=>P E (.no,.tup (xs.map (·.2)))) X:=by
 unfold qw;rw[kW]
 with_unfolding_all rfl
theorem eo_lst{e:Option Sd}{E:En}{cs:List Ex}{P:En->Sd->Prop}{X:XP}:Eo (k8 .rt cs (e::E)) P X=Eo (wj cs (e::E)) (λE xs=>P E (.rt,.lst (xs.map (·.2)))) X:=by
 unfold k8;rw[kW]
 with_unfolding_all rfl
theorem JV{c:Ex}{E:En}{P:En->List D->Prop}{X:XP}(h:Eo (c E) (λE x=>∃n:Int,x.2=.int n/\n<=1000/\-1000<=n/\P E (jQ 0 n)) X):Eo (vz c E) P X:=by
 unfold vz;rw[kW];refine h.mono ?_;rintro E ⟨o,d⟩ ⟨n,rfl,h1,h2,h3⟩;have:vQ n=true:=by unfold vQ;rw[Xb (by omega),Xb (by omega)];with_unfolding_all rfl
 show Eo (if vQ n=true/\n.toNat<=big then _ else _) P X;rw[X9 ⟨this,by unfold big;omega⟩]
 with_unfolding_all exact h3
theorem vvz{i:Nat}{c:Ex}{E:En}{o:Own}{xs:List D}{N C:En->Prop}{R:Sd->Prop}{X:XP}(h0:E[i]?=some (some (o,.lst xs)))
  (h:Eo (c E) (λE1 x=>∃o ys,E1[i]?=some (some (o,.lst ys))/\o≠.no/\ys.length<10000/\N (E1.set i (some (if o=.dp/\xX x then .dp else .rt,.lst (ys++[x.2]))))) X):Po (qK qJ i c E) N C R X:=by
 unfold qK;rw[h0,X9 (show vqj (some (some (o,.lst xs)))=true from rfl),Q9];refine h.mono ?_;rintro E1 x ⟨o,ys,h1,h2,h3,h4⟩;rw[h1];dsimp only;have hg:qJ ys x.2=some (ys++[x.2]):=by unfold qJ;rw[X9 (by unfold big;omega)]
 rw[Xd h2,hg]
 with_unfolding_all exact h4
theorem vY{i:Nat}{c:Ex}{E:En}{xs:List D}{N C:En->Prop}{R:Sd->Prop}{X:XP}(h0:E[i]?=some (some (.rt,.lst xs)))
  (h:Eo (c E) (λE1 x=>∃ys,E1[i]?=some (some (.rt,.lst ys))/\ys.length<10000/\N (E1.set i (some (.rt,.lst (ys++[x.2]))))) X):Po (qK qJ i c E) N C R X:=
 vvz h0 (h.mono λE1 x ⟨ys,h1,h2,h3⟩=>⟨.rt,ys,h1,by decide,h2,by rw[Xd (by rintro ⟨z,_⟩;cases z)];with_unfolding_all exact h3⟩)
theorem rng_ok{n:Int}(h1:-1000<=n)(h2:n<=1000):(vQ n=true/\n.toNat<=big)=True:=by
 have:vQ n=true:=by unfold vQ;rw[Xb (by omega),Xb (by omega)];with_unfolding_all rfl
 with_unfolding_all exact eq_true ⟨this,by unfold big;omega⟩
theorem rng2_ok{m n:Int}(h1:-1000<=n)(h2:n<=1000)(h3:-1000<=m)(h4:m<=1000):(vQ m=true/\vQ n=true/\(n - m).toNat<=big)=True:=by
 have a1:vQ n=true:=by unfold vQ;rw[Xb (by omega),Xb (by omega)];with_unfolding_all rfl
 have a2:vQ m=true:=by unfold vQ;rw[Xb (by omega),Xb (by omega)];with_unfolding_all rfl
 with_unfolding_all exact eq_true ⟨a2,a1,by unfold big;omega⟩
theorem kwr{α:Type}{p:Prop}[Decidable p]{a:Option (Res α)}{P:En->α->Prop}{X:XP}:Eo (if p then a else none) P X=(p/\Eo a P X):=by
 by_cases h:p
 ·rw[X9 h];with_unfolding_all exact propext ⟨λz=>⟨h,z⟩,λz=>z.2⟩
 ·rw[Xd h];with_unfolding_all exact propext ⟨λz=>z.elim,λz=>h z.1⟩
theorem w_R1{c:Ex}{e:Option Sd}{E:En}{P:En->List D->Prop}{X:XP}:Eo (vz c (e::E)) P X=Eo (c (e::E)) (λE x=>Ie x.2 E λE n=>(vQ n=true/\n.toNat<=big)/\P E (jQ 0 n)) X:=by
 unfold vz;rw[kW];congr 1;funext E x;cases x.2 with
 |int n=>with_unfolding_all exact kwr
 |_=>with_unfolding_all rfl
theorem w_LR1{c:Ex}{e:Option Sd}{E:En}{P:En->Sd->Prop}{X:XP}:Eo (W0 c (e::E)) P X=Eo (c (e::E)) (λE x=>Ie x.2 E λE n=>(vQ n=true/\n.toNat<=big)/\P E (.rt,.lst (jQ 0 n))) X:=by
 unfold W0;rw[kW];congr 1;funext E x;cases x.2 with
 |int n=>with_unfolding_all exact kwr
 |_=>with_unfolding_all rfl
theorem w_R2{c c':Ex}{e:Option Sd}{E:En}{P:En->List D->Prop}{X:XP}:Eo (wvn c c' (e::E)) P X=Eo (c (e::E)) (λE x=>Eo (c' E) (λE y=>Ie x.2 E λE m=>Ie y.2 E λE n=>(vQ m=true/\vQ n=true/\(n - m).toNat<=big)/\P E (jQ m n)) X) X:=by
 unfold wvn;rw[kW];congr 1;funext E x;rw[kW];congr 1;funext E y;cases x.2 with
 |int m=>cases y.2 with
  |int n=>with_unfolding_all exact kwr
  |_=>with_unfolding_all rfl
 |_=>with_unfolding_all rfl
theorem vkk{o:Own}{xs:List D}{lo hi:Option Int}(h:o≠.dp):fSl (o,.lst xs) lo hi=some (.rt,.lst (K4 xs lo hi)):=by
 show(if v5 (o,.lst xs)then _ else _)=_;rw[X9 (by cases o<;>simp_all [v5])]
theorem sub_no:sub .no=.no:=nd (by with_unfolding_all rfl)
theorem sub_rt:sub .rt=.no:=nd (by with_unfolding_all rfl)
theorem sub_dp:sub .dp=.dp:=nd (by with_unfolding_all rfl)
theorem Oo.use{ι:Sort _}{f:Fn}{xs:List Sd}{g:ι->Sd}{S:ι->Prop}{E:En}{P:En->Sd->Prop}{X:XP}(h:Oo f xs (λy=>∃i,y=g i/\S i) X)(k:∀i,S i->P E (g i)):Oe f xs E P X:=h.mono λy ⟨i,e,s⟩=>e▸k i s
theorem Oo.use2{ι κ:Sort _}{f:Fn}{xs:List Sd}{g:ι->κ->Sd}{S:ι->κ->Prop}{E:En}{P:En->Sd->Prop}{X:XP}(h:Oo f xs (λy=>∃i j,y=g i j/\S i j) X)(k:∀i j,S i j->P E (g i j)):Oe f xs E P X:=h.mono λy ⟨i,j,e,s⟩=>e▸k i j s
theorem Oo.via{f:Fn}{xs:List Sd}{S:Sd->Prop}{E:En}{P:En->Sd->Prop}{X:XP}(h:Oo f xs S X)(k:∀y,S y->P E y):Oe f xs E P X:=h.mono k
theorem z7{E:En}{ys:List Sd}{P:En->Sd->Prop}{X:XP}:Eo (mkL .rt E ys) P X=P E (.rt,.lst (ys.map (·.2))):=nd (by with_unfolding_all rfl)
theorem Oo.any{f:Fn}{xs:List Sd}{P:Sd->Prop}{X:XP}(h:Oo f xs P noX):Oo f xs P X:=by
 unfold Oo at *;cases hf:f xs with
 |none=>rw[hf]at h;with_unfolding_all exact h
 |some r=>rw[hf]at h;cases r with
  |ok E a=>with_unfolding_all exact h
  |exc E c=>with_unfolding_all exact(show False from h).elim
noncomputable def qq2(d:D):Option (List D):=match d with
 |.dct kvs=>if kvs.length<=big/\unm kvs=true then some (kvs.map λe=>.tup [e.1,e.2])else none
 |_=>none
section
variable {c kc vc:Ex}{e:Option Sd}{E:En}{X:XP}{N C:En->Prop}{R:Sd->Prop}
theorem qw5{P:En->List D->Prop}:Eo (kwh c (e::E)) P X=Eo (c (e::E)) (λE x=>Wo (qq2 x.2) E P) X:=by
 show Eo (bnd (c (e::E)) λE x=>val E (qq2 x.2)) P X=_;rw[kW];congr 1;funext E x;exact Q0
theorem wj3{P:En->Sd->Prop}:Eo (vzp (e::E)) P X=P (e::E) (.rt,.dct []):=nd (by with_unfolding_all rfl)
theorem vv6{P:En->Sd->Prop}:Eo (vjq kc vc (e::E)) P X=Eo (kc (e::E)) (λE k=>Eo (vc E) (λE v=>vW k.2=true/\P E (.rt,.dct [(k.2,v.2)])) X) X:=by
 unfold vjq;rw[kW];congr 1;funext E k;rw[kW];congr 1;funext E v;rw[kwr,V7]
theorem vzj{i:Nat}(h:Eo (vc E) (λE1 v=>(∃kvs,E1[i]?=some (some (.rt,.dct kvs)))/\Eo (kc E1) (λE2 k=>∃kvs,E2[i]?=some (some (.rt,.dct kvs))/\vW k.2=true/\(kvs.length<10000/\unm kvs=true)/\N (E2.set i (some (.rt,.dct (K5 kvs k.2 v.2))))) X) X):Po (vkm i kc vc E) N C R X:=by
 unfold vkm;rw[Q9];refine h.mono ?_;rintro E1 v ⟨⟨kvs,e1⟩,h1⟩;rw[e1,X9 (show vxx (some (some (Own.rt,D.dct kvs)))=true from rfl),Q9];refine h1.mono ?_;rintro E2 k ⟨kvs2,e2,h2,h3,h4⟩;rw[e2];dsimp only;rw[X9 ⟨h2,by unfold big;omega,h3.2⟩,vkw];exact h4
end
theorem qze{kvs:List (D×D)}(h:kvs.length<=10000)(hu:unm kvs=true):qq2 (.dct kvs)=some (kvs.map λe=>.tup [e.1,e.2]):=by
 unfold qq2;dsimp only;rw[X9 ⟨by unfold big;omega,hu⟩]
theorem wq9{o:Own}{kvs:List (D×D)}(h:kvs.length<=10000)(hu:unm kvs=true):XQ (o,.dct kvs)=some (.rt,.lst (kvs.map (·.1))):=by
 unfold XQ;dsimp only;rw[X9 ⟨by unfold big;omega,hu⟩]
theorem wwu{x:D}{kvs:List (D×D)}(h:vW x=true)(hu:unm kvs=true):Wz x (.dct kvs)=some (.bl (!decide (x∈kvs.map (·.1)))):=by
 unfold Wz;dsimp only;rw[X9 ⟨h,hu⟩]
section
variable {a b c kc vc:Ex}{cs:List Ex}{e:Option Sd}{E:En}{X:XP}{N C:En->Prop}{R:Sd->Prop}{P:En->Sd->Prop}{i r n:Nat}{t:Ts}
theorem qz1{kvs:List (D×D)}(h:unm kvs=true):Zx (.dct kvs)=some (.int kvs.length):=X9 h
theorem vwc(h0:wvo E[i]?=true)(h:Eo (kc E) (λE1 k=>Eo (vc E1) (λE2 v=>∃kvs,E2[i]?=some (some (.rt,.dct kvs))/\(vW k.2=true/\kvs.length<10000/\unm kvs=true/\v.2.pure=true/\D.pures (kvs.map (·.2))=true) /\
  (∀d,xx kvs k.2=some d->P E2 (.dp,d))/\(xx kvs k.2=none->P (E2.set i (some (.rt,.dct (kvs++[(k.2,v.2)])))) (.dp,v.2))) X) X):Eo (vjp i kc vc E) P X:=by
 unfold vjp;rw[X9 h0,kW];refine h.mono ?_;intro E1 k h1;rw[kW];refine h1.mono ?_;rintro E2 v ⟨kvs,e2,hc,h3,h4⟩;rw[e2];dsimp only;rw[X9 ⟨hc.1,by unfold big;omega,hc.2.2⟩];cases hg:xx kvs k.2 with
 |none=>dsimp only;rw[V7];exact h4 hg
 |some d=>dsimp only;rw[V7];exact h3 d hg
noncomputable def YY(s:Option (Option Sd))(Q:Sd->Prop):Prop:=match s with
 |some (some x)=>Q x
 |_=>False
noncomputable def Om(m:Option Fl)(n:Nat)(N:En->Prop)(P:Sd->Sd->Prop)(X:XP):Prop:=match m with
 |some (.nx E)=>N E
 |some (.rt E x)=>YY E[n]? (P x)
 |some (.xc _ c)=>X c
 |_=>False
noncomputable def Oom(f:Fn)(xs:List Sd)(n:Nat)(P:Sd->Sd->Prop)(X:XP):Prop:=match f xs with
 |some (.ok E y)=>YY E[n]? (P y)
 |some (.exc _ c)=>X c
 |none=>False
theorem qxe{nn:Nat}{b:Sm}{xs:List Sd}{P:Sd->Sd->Prop}(h:Om (b (xs.map some++List.replicate (nn - xs.length) none)) n (λE=>YY E[n]? (P (.dp,.non))) P X):Oom (fn nn b) xs n P X:=by
 unfold Oom fn;cases hb:b (xs.map some++List.replicate (nn - xs.length) none)with
 |none=>rw[hb]at h;exact h.elim
 |some f=>
  rw[hb]at h;cases f with
  |nx E=>exact h
  |rt E x=>exact h
  |xc E c=>exact h
  |ct E=>exact h.elim
  |bk E=>exact h.elim
theorem kxq{a b:Sm}{P:Sd->Sd->Prop}(h:Om (a E) n (λE=>Om (b E) n N P X) P X):Om (j5 a b E) n N P X:=by
 unfold j5;cases ha:a E with
 |none=>rw[ha]at h;exact h.elim
 |some f=>
  rw[ha]at h;cases f with
  |nx E=>exact h
  |rt E x=>exact h
  |xc E c=>exact h
  |ct E=>exact h.elim
  |bk E=>exact h.elim
theorem qxf{P:Sd->Sd->Prop}(h:Eo (c E) (λE x=>YY E[n]? (P x)) X):Om (jz c E) n N P X:=by
 unfold jz;cases hc:c E with
 |none=>rw[hc,vj4]at h;exact h.elim
 |some f=>
  rw[hc]at h;cases f with
  |ok E x=>rw[V7]at h;exact h
  |exc E c=>rw[vj6]at h;exact h
theorem wkz{a b:Sm}{P:Sd->Sd->Prop}(h:Eo (t E) (λE k=>if k=true then Om (a E) n N P X else Om (b E) n N P X) X):Om (sIf t a b E) n N P X:=by
 unfold sIf;cases hc:t E with
 | none=>rw[hc,vj4]at h;exact h.elim
 | some f=>
  rw[hc]at h;cases f with
  |ok E k=>
   rw[V7]at h;cases k with
   |true=>rw[X9 rfl]at h;exact h
   |false=>rw[Xd (by decide)]at h;exact h
  |exc E c=>rw[vj6]at h;exact h
theorem vq7{m:Option Fl}{P:Sd->Sd->Prop}(h:Po m N (λ_=>False) (λ_=>False) X):Om m n N P X:=by
 cases m with
 |none=>with_unfolding_all exact h
 |some f=>
  cases f with
  |nx E=>rw[vkw]at h;exact h
  |rt E x=>rw[wwi]at h;exact h.elim
  |xc E c=>with_unfolding_all exact h
  |ct E=>with_unfolding_all exact h
  |bk E=>with_unfolding_all exact h
theorem qqh{f:Fn}(h:Eo (wj cs E) (λE1 xs=>∃x,E1[i]?=some (some x)/\Oom f (letAll xs++[x]) xs.length (λy x'=>P (E1.set i (some x')) y) X) X):Eo (kzl f i cs E) P X:=by
 unfold kzl;rw [kW];refine h.mono ?_;rintro E1 xs ⟨x,e1,h1⟩;rw [e1];dsimp only;unfold Oom at h1;cases hf:f (letAll xs++[x])with
 | none=>rw[hf]at h1;exact h1.elim
 | some rr=>
  rw[hf]at h1;cases rr with
  | exc E' c=>dsimp only;rw[vj6];exact h1
  | ok E' y=>
   dsimp only at h1 ⊢;unfold YY at h1;cases hs:E'[xs.length]? with
   |none=>rw[hs]at h1;exact h1.elim
   |some s=>
    rw[hs]at h1;cases s with
    |none=>exact h1.elim
    |some x'=>dsimp only at h1 ⊢;rw[V7];exact h1
theorem Oom.mono{f:Fn}{xs:List Sd}{P Q:Sd->Sd->Prop}{X Y:XP}(h:Oom f xs n P X)(hp:∀y x,P y x->Q y x)(hx:∀c,X c->Y c):Oom f xs n Q Y:=by
 unfold Oom at h ⊢;cases hf:f xs with
 | none=>rw[hf]at h;exact h.elim
 | some rr=>
  rw[hf]at h;cases rr with
  | exc E' c=>exact hx c h
  | ok E' y=>
   dsimp only at h ⊢;unfold YY at h ⊢;cases hs:E'[n]? with
   |none=>rw[hs]at h;exact h.elim
   |some s=>
    rw[hs]at h;cases s with
    |none=>exact h.elim
    |some x'=>exact hp _ _ h
theorem wjl{ds:List D}(h0:E[i]?=some (some (.rt,.lst ds)))(h:N (E.set i (some (.rt,.lst ds.reverse)))):Po (WV i E) N C R X:=by
 unfold WV;rw[h0];dsimp only;rw[vkw];exact h
end
end Q
namespace C
open PySem Q
noncomputable def m_fits:Fn:=fn 4
  (j5 (jk 3 (cH (j6 (vV 0) (C9 1))))
  (j5 (sIf (tE (cF2 (pu2 fEq) (vV 3) (vE (cC (.str "any"))))) (jz (cC (.bl true))) k9)
  (j5 (sIf (tE (cF2 (pu2 fEq) (vV 3) (vE (cC (.str "fresh"))))) (jz (cF2 (pu2 wW) (vV 2) (vV 1))) k9)
  (jz (cF2 (pu2 fEq) (j6 (vV 1) (vV 3)) (vV 2))))))
noncomputable def m_held_by:Fn:=fn 3
  (j5 (sIf (tE (cF2 (f2First fIsNon) (vV 0) (vE (cC .non)))) (jz (cC .non)) k9)
  (jz (cIf (tE (cF2 (pu2 fEq) (vV 0) (vE (cC (.str "new"))))) (cV 2) (cH (j6 (vV 1) (vV 0))))))
noncomputable def m_filled:Fn:=fn 3
  (jz (cF1 z3 (vE (cLC .rt 1 [1,2] (itS (cH (j6 (vV 0) (C9 3)))) (.n 0) tYes (jK m_held_by [(cV 0),(cV 1),(cV 2)])))))
noncomputable def m_first_standing:Fn:=fn 1
  (jz (qw .no [(cC (.int 0)),(cF2 jX (vE (qw .no [(cC .non)])) (j6 (j6 (j6 (vV 0) (C9 1)) (C9 0)) (C9 0)))]))
noncomputable def m_steps_at:Fn:=fn 2
  (jz (cH (j6 (j6 (j6 (vV 0) (C9 1)) (j6 (vV 1) (C9 0))) (C9 2))))
noncomputable def m_fitting:Fn:=fn 6
  (j5 (jk 4 (cH (j6 (vV 1) (C9 1))))
  (j5 (jk 5 (jK m_steps_at [(cV 0),(cV 1)]))
  (jz (cLC .rt 2 [2,4,3] (wqn (cV 5)) (.t [0,1]) (tAnd (tE (cF2 (pu2 fEq) (j6 (vV 1) (C9 0)) (vV 2))) (tEQ (vE (jK m_fits [(cV 1),(cV 3),(cV 4)])))) (cV 0)))))
noncomputable def m_behind:Fn:=fn 5
  (j5 (jk 4 (cH (j6 (vE (jK m_steps_at [(cV 0),(cV 1)])) (vV 2))))
  (jz (qw .no [(cH (j6 (vV 4) (C9 2))),(jK m_filled [(cV 4),(cH (j6 (vV 1) (C9 1))),(cV 3)])])))
noncomputable def J6:Fn:=fn 4
  (j5 (jk 2 (cF2 jX (C9 1000) (vE (cF2 (pu2 zW) (C9 10) (C9 64)))))
  (j5 (jk 3 (cF2 jx (vE (cF2 jX (vE (cF2 jX (vV 1) (vV 1))) (vV 1))) (C9 7)))
  (j5 (sIf (tE (cF2 (pu2 fLt) (vV 1) (vE (cF1 (pu1 kY) (vV 0))))) (jk 3 (cH (j6 (vV 0) (vV 1)))) (sIf (tE (cF2 (pu2 fGt) (vE (cF1 (pu1 kY) (vV 0))) (C9 0))) (jk 3 (cF2 jX (vE (cF2 jx (vE (cF2 (pu2 jY) (j6 (vV 0) (vE (cF2 (pu2 jY) (vV 1) (vE (cF1 (pu1 kY) (vV 0)))))) (C9 1000003))) (C9 1))) (vV 3))) k9))
  (jz (cF2 (pu2 jY) (vE (cF2 jX (vE (cF2 (pu2 jY) (vV 3) (vV 2))) (vE (cF2 (pu2 zW) (C9 7919) (C9 15))))) (vV 2))))))
noncomputable def m__law_digits:Fn:=fn 4
  (j5 (jk 2 (k8 .rt []))
  (j5 (qX (itS (cV 1)) (.n 3) (j5 (qK qJ 2 (cF2 (pu2 jY) (vV 0) (vV 3)))
  (jk 0 (cF2 (pu2 wZ) (vV 0) (vV 3)))))
  (jz (cMv 2))))
noncomputable def m__law_signs:Fn:=fn 11
  (j5 (jk 2 (cC (.str "abcdefghijklmnopqrstuvwxyz")))
  (j5 (zJ [3,4,5] (jK m__law_digits [(cV 0),(k8 .rt [(cC (.int 8)),(cC (.int 840)),(cC (.int 8))])]))
  (j5 (jk 4 (cF2 (pu2 jY) (vV 4) (vE (cF2 jx (vV 3) (C9 1)))))
  (j5 (jk 6 (k8 .rt []))
  (j5 (qX (vz (vV 1)) (.n 7) (j5 (jk 8 (cC (.str "")))
  (j5 (qX (vz (vE (cF2 jx (vV 3) (C9 1)))) (.n 9) (j5 (jk 10 (cF2 jx (vE (cF2 (pu2 wZ) (vV 0) (vE (cF2 jx (C9 53761) (vE (cF2 jX (vE (cF2 jX (C9 26) (vV 9))) (vV 9))))))) (vE (cF2 jX (vE (cF2 jX (vV 7) (vE (cF2 jx (vV 5) (C9 1))))) (vE (cF1 (pu1 J0) (vE (cF2 (pu2 fEq) (vV 9) (vV 4)))))))))
  (jk 8 (cF2 jx (vV 8) (j6 (vV 2) (vE (cF2 (pu2 jY) (vV 10) (C9 26))))))))
  (qK qJ 6 (cV 8)))))
  (jz (cF1 kq2 (vV 6))))))))
noncomputable def m__law_name:Fn:=fn 1
  (j5 (sIf (tE (cF2 (pu2 fEq) (vE (cF2 (pu2 jY) (vV 0) (C9 3))) (C9 0))) (jz (cF2 (pu2 V5) (vE (cF2 (pu2 jY) (vE (cF2 (pu2 wZ) (vV 0) (C9 3))) (C9 9))) (C9 4))) k9)
  (jz (cF2 jx (vE (cF2 (pu2 V5) (vE (cF2 (pu2 jY) (vE (cF2 (pu2 wZ) (vV 0) (C9 3))) (vE (cF2 (pu2 V5) (vE (cF2 jX (C9 2) (vE (cF2 (pu2 zW) (C9 10) (C9 60))))) (C9 1))))) (vE (cF2 (pu2 zW) (C9 10) (C9 60))))) (C9 1))))
noncomputable def m__law_pool(dr:Fn):Fn:=fn 3
  (jz (cLC .rt 1 [0,1] (vz (vV 2)) (.n 0) tYes (jK m__law_name [(jK dr [(cV 1),(cF2 jx (vV 2) (vV 0))])])))
noncomputable def XV(dr:Fn):Fn:=fn 11
  (j5 (jk 5 (k8 .rt []))
  (j5 (qX (vz (vV 2)) (.n 6) (j5 (zJ [7,8,9] (jK m__law_digits [(jK dr [(cV 0),(cF2 jx (vV 1) (vV 6))]),(k8 .rt [(cC (.int 6)),(cC (.int 60)),(cC (.int 24))])]))
  (j5 (jk 10 (cH (j6 (vV 3) (vE (cF2 (pu2 jY) (vV 7) (vE (cF1 (pu1 kY) (vV 3))))))))
  (j5 (sIf (tE (cF2 (pu2 fEq) (vV 9) (C9 7))) (jk 10 (cH (j6 (vE (cLC .rt 1 [3] (itS (k8 .rt [(cC (.str "a")),(cC (.str "b")),(cC (.str "c")),(cC (.str "d"))])) (.n 0) (tE (cF2 (pu2 wW) (vV 0) (vV 1))) (cV 0))) (C9 0)))) k9)
  (qK qJ 5 (qw .no [(cV 10),(cH (j6 (vV 4) (vE (cF2 (pu2 jY) (vV 8) (vE (cF1 (pu1 kY) (vV 4)))))))]))))))
  (jz (cMv 5))))
noncomputable def m__law_copy:Fn:=fn 1
  (jz (qw .no [(cF1 V8 (j6 (vV 0) (C9 0))),(cLC .rt 1 [] (itS (cH (j6 (vV 0) (C9 1)))) (.n 0) tYes (qw .no [(cH (j6 (vV 0) (C9 0))),(cH (j6 (vV 0) (C9 1))),(cF1 V8 (j6 (vV 0) (C9 2)))]))]))
noncomputable def m__law_fits:Fn:=fn 3
  (j5 (sIf (tE (cF2 (pu2 fEq) (j6 (vV 0) (C9 1)) (vE (cC (.str "fresh"))))) (jz (cF2 (pu2 wW) (vV 2) (vV 1))) k9)
  (jz (cOr (vE (cF2 (pu2 fEq) (j6 (vV 0) (C9 1)) (vE (cC (.str "any"))))) (cF2 (pu2 fEq) (j6 (vV 1) (j6 (vV 0) (C9 1))) (vV 2)))))
noncomputable def m__law_filled:Fn:=fn 5
  (j5 (jk 3 (k8 .rt []))
  (j5 (qX (itS (cH (j6 (vV 0) (C9 3)))) (.n 4) (sIf (tOr (tE (cF2 (f2First fIsNon) (vV 4) (vE (cC .non)))) (tE (cF2 (pu2 fEq) (vV 4) (vE (cC (.str "new")))))) (qK qJ 3 (cH (j6 (vE (k8 .rt [(cV 2),(cC .non)])) (vE (cF1 (pu1 J0) (vE (cF2 (f2First fIsNon) (vV 4) (vE (cC .non))))))))) (qK qJ 3 (cH (j6 (vV 1) (vV 4))))))
  (jz (cF1 z3 (vV 3)))))
noncomputable def m__law_fitting:Fn:=fn 5
  (j5 (jk 4 (cH (j6 (j6 (j6 (vV 0) (C9 1)) (j6 (vV 1) (C9 0))) (C9 2))))
  (jz (cLC .rt 1 [4,2,1,3] (vz (vE (cF1 (pu1 kY) (vV 4)))) (.n 0) (tAnd (tE (cF2 (pu2 fEq) (j6 (j6 (vV 1) (vV 0)) (C9 0)) (vV 2))) (tEQ (vE (jK m__law_fits [(cH (j6 (vV 1) (vV 0))),(cH (j6 (vV 3) (C9 1))),(cV 4)])))) (cV 0))))
noncomputable def m__law_behind:Fn:=fn 5
  (j5 (jk 4 (cH (j6 (j6 (j6 (j6 (vV 0) (C9 1)) (j6 (vV 1) (C9 0))) (C9 2)) (vV 2))))
  (jz (qw .no [(cH (j6 (vV 4) (C9 2))),(jK m__law_filled [(cV 4),(cH (j6 (vV 1) (C9 1))),(cV 3)])])))
noncomputable def m__law_draw2:Fn:=fn 6
  (j5 (jk 2 (cF2 jX (C9 1000) (vE (cF2 (pu2 zW) (C9 10) (C9 64)))))
  (j5 (sIf (tE (cF2 (pu2 fLt) (vV 1) (vE (cF1 (pu1 kY) (vV 0))))) (jz (cF2 (pu2 jY) (vE (cF2 jX (vE (cF2 (pu2 jY) (j6 (vV 0) (vV 1)) (vV 2))) (vE (cF2 (pu2 zW) (C9 7919) (C9 15))))) (vV 2))) k9)
  (j5 (jk 3 (cF2 jx (vE (cF2 jx (vE (cF2 jX (vV 1) (vV 1))) (vE (cF2 jX (C9 7) (vV 1))))) (C9 11)))
  (j5 (sIf (tE (cF2 (pu2 fNe) (vV 0) (vE (k8 .rt [])))) (jk 3 (cF2 jx (vV 3) (vE (cF2 jX (vE (cF2 (pu2 jY) (j6 (vV 0) (vE (cF2 (pu2 jY) (vV 1) (vE (cF1 (pu1 kY) (vV 0)))))) (C9 1000003))) (vE (cF2 jx (vE (cF2 jX (C9 2) (vV 1))) (C9 1))))))) k9)
  (j5 (jk 4 (cC (.int 0)))
  (j5 (qX (vz (C9 8)) (.n 5) (j5 (jk 3 (cF2 (pu2 jY) (vE (cF2 jx (vE (cF2 jx (vE (cF2 jx (vE (cF2 jX (vV 3) (vV 3))) (vE (cF2 jX (C9 48271) (vV 3))))) (vE (cF2 jX (C9 69621) (vV 5))))) (vV 1))) (C9 2147483629)))
  (jk 4 (cF2 jx (vE (cF2 jX (vV 4) (C9 998244353))) (vE (cF2 (pu2 jY) (vE (cF2 jX (vV 3) (C9 16807))) (C9 2147483587)))))))
  (jz (cF2 (pu2 jY) (vV 4) (vV 2)))))))))
noncomputable def m_read_by:Fn:=fn 8
  (j5 (sIf (tOr (tE (cF2 (f2First fIsNon) (vV 1) (vE (cC .non)))) (tE (cF2 (pu2 wW) (vV 2) (j6 (vV 0) (C9 0))))) (jz (cC .non)) k9)
  (j5 (jk 4 (cH (j6 (vV 1) (C9 1))))
  (j5 (jk 5 (cH (j6 (j6 (j6 (j6 (vV 0) (C9 1)) (j6 (vV 1) (C9 0))) (C9 2)) (vE (W5 (j6 (vV 0) (C9 0)) (vV 2))))))
  (j5 (jk 6 (cH (j6 (vV 5) (vE (cIf (tE (cF2 (pu2 JZ) (vV 3) (vV 4))) (W5 (vV 4) (vV 3)) (cF1 (pu1 kY) (vV 4)))))))
  (j5 (sIf (tE (cF2 (f2First fIsNon) (vV 6) (vE (cC .non)))) (jz (cC .non)) k9)
  (j5 (jk 7 (cF2 jx (vV 4) (vE (qw .no [(cV 3)]))))
  (jz (qw .no [(cH (j6 (vV 6) (C9 0))),(cF1 z3 (vE (cLC .rt 1 [7] (itS (cH (j6 (vV 6) (C9 1)))) (.n 0) tYes (cH (j6 (vV 1) (vV 0))))))]))))))))
end C
local macro_rules
 | `(tactic| simp![$ts,*])=>`(tactic| simp(config:={ maxSteps:=1000000,failIfUnchanged:=false,implicitDefEqProofs:=true }) (disch:=omega) only[↓Q.w_seq,↓Q.w_asg,↓Q.w_ret,↓Q.w_pass,↓Q.w_if,↓Q.w_tup,↓Q.w_vV,↓Q.w_cV,↓Q.w_cMv,↓Q.w_cC,↓Q.w_vE,↓Q.w_cH,↓Q.w_f1,↓Q.w_f2,↓Q.w_ix,↓Q.w_tE,↓Q.w_tEQ,↓Q.w_tNot,↓Q.w_tAnd,↓Q.w_tOr,↓Q.w_tYes,↓Q.w_cIf,↓Q.w_cAnd,↓Q.w_cOr,↓Q.w_call,↓Q.w_partN,↓Q.w_partS,↓Q.w_sl,↓Q.w_idx,↓Q.w_itS,↓Q.w_itEn,↓Q.w_R1,↓Q.w_R2,↓Q.w_LR1,Q.rng_ok,Q.rng2_ok,true_and,↓Q.ie_i,Q.isSq,Q.sl_some,↓Q.andP_bl,↓Q.vo_some,↓Q.vo_map,↓Q.wo_some,↓Q.wo_map,↓Q.args_nil,↓Q.args_cons,↓Q.eo_tup,↓Q.eo_lst,Q.letAll,Q.pu2,Q.pu1,Q.f2First,Q.fIsNon,Q.fNotNon,Q.isNon,List.map_cons,List.map_nil,List.cons_append,List.nil_append,Xr,List.length_nil,X4,Nat.reduceAdd,Nat.reduceSub,List.replicate,List.set_cons_zero,List.set_cons_succ,List.getElem?_cons_zero,List.getElem?_cons_succ,Q.len_l,Q.len_t,Q.lt_ii,Q.gt_ii,Q.le_ii,Q.ge_ii,Q.add_i,Q.sub_i,Q.div_i,Q.mod_i,Q.pow_i,Q.mulT_i,Q.mulT_l,Q.mul_l,Q.mul_r,Option.map_some,Q.truth,Q.truthQ,Q.D.pure,↓reduceIte,if_true,if_false,ite_true,ite_false,Q.sub_no,Q.sub_rt,Q.sub_dp,Bool.false_eq_true,reduceCtorEq,Bool.not_true,Bool.not_false,Q.Tg.put,Q.setAll,Q.seqOf,Q.lstOf,$ts,*])
namespace C
open Q PySem
abbrev most:Int:=1000*10 ^ 64
abbrev iL(ns:List Int):D:=.lst (ns.map D.int)
noncomputable def Dr(dr:Fn):Prop:=∀(ns:List Int) (k:Int),0<=k->k<=1000->Oo dr [(.no,iL ns),(.no,.int k)] (λy=>∃i,y=(.dp,.int i)/\0<=i/\i<most) noX
noncomputable def Digs:List Int->List Int->Prop
 |[],[]=>True
 |b::bs,d::ds=>0<=d/\d<b/\Digs bs ds
 |_,_=>False
theorem vzb:∀i:Nat,i<4->(i=0\/i=1\/i=2\/i=3):=by decide
theorem wkt:∀j:Nat,j<3->∀i:Nat,i<j->((i=0/\j=1)\/(i=0/\j=2)\/(i=1/\j=2)):=by decide
theorem Zz(x:Int):∀(bs:List Int) (hb:∀b∈bs,0<b/\b<1000000000000) (hl:bs.length<1000),Oo m__law_digits [(.no,.int x),(.no,iL bs)] (λy=>∃ds,y=(.rt,iL ds)/\Digs bs ds) noX:=by
 intro bs hb hl;unfold m__law_digits;refine kX ?_;simp![];refine vZ (λE jw=>∃x o ys l d0 bs1 bs2,E=[some (o,.int x),some (.no,d0),some (.rt,iL ys),l]/\jw=bs2.map D.int/\bs=bs1++bs2/\Digs bs1 ys/\ys.length=bs1.length) ?_ ?_ ?_
 ·simp![];exact⟨x,.no,[],none,_,[],bs,rfl,rfl,rfl,trivial,rfl⟩
 ·rintro E d ds ⟨x,o,ys,l,d0,bs1,bs2,rfl,hr,he,hd,hy⟩;cases bs2 with
  | nil=>cases hr
  | cons b bs2=>
   rw[List.map_cons]at hr;injection hr with e1 e2;subst e1 e2;have ng:=hb b (by rw[he];simp);simp![];refine vvz rfl ?_;simp![mod_i ng.1];refine⟨.rt,_,rfl,by decide,?_,?_⟩
   ·rw[X4];have:=congrArg List.length he;rw[Xi]at this;omega
   ·simp![div_i ng.1];refine⟨_,_,ys++[x % b],_,_,bs1++[b],bs2,by simp[iL,xX];exact⟨⟨rfl,rfl⟩,rfl,rfl⟩,rfl,by rw[he];simp,?_,by simp[hy]⟩;have h1:=Xq x (show b≠0 by omega);have h2:=Xk x ng.1;clear he hb
    induction bs1 generalizing ys with
    |nil=>cases ys with
     |nil=>exact⟨h1,h2,trivial⟩
     |cons y ys=>exact hd.elim
    |cons c bs1 ih=>cases ys with
     |nil=>exact hd.elim
     |cons y ys=>exact⟨hd.1,hd.2.1,ih ys hd.2.2 (by simpa using hy)⟩
 ·rintro E ⟨x,o,ys,l,d0,bs1,bs2,rfl,hr,he,hd,hy⟩;cases bs2 with
  |cons b bs2=>cases hr
  |nil=>
   rw[Xv]at he;subst he;simp![];exact⟨ys,rfl,hd⟩
noncomputable def Each(G:D->Sd->Prop):List D->List Sd->Prop
 |[],[]=>True
 |d::ds,y::ys=>G d y/\Each G ds ys
 |_,_=>False
theorem Each.snoc{G:D->Sd->Prop}{d:D}{y:Sd}(h:G d y):∀{ds:List D} {ys:List Sd},Each G ds ys->Each G (ds++[d]) (ys++[y])
 |[],[],_=>⟨h,trivial⟩
 |_::_,_::_,r=>⟨r.1,Each.snoc h r.2⟩
theorem Each.len{G:D->Sd->Prop}:∀{ds:List D} {ys:List Sd},Each G ds ys->ys.length=ds.length
 |[],[],_=>rfl
 |_::_,_::_,r=>by rw[Xr,Xr,Each.len r.2]
theorem Kj{X:XP}{E:En}{o:Own}{r:List Nat}{it:Ev (List D)}{c:Ex}{P:En->Sd->Prop}(jw:En)(G:D->Sd->Prop)(h0:Eo (it E) (λE1 ds=>r.map (at' E1)=jw/\(∀d∈ds,Eo (c (some (.no,d)::jw)) (λB y=>(∃q,B=q::jw)/\G d y) X)/\∀ys,Each G ds ys->Eo (mkL o (back r jw (clr r E1)) ys) P X) X):Eo (cLC o 1 r it (.n 0) tYes c E) P X:=by
 refine ZV (λE1 B t5 acc=>∃ds ds1 q,ds=ds1++t5/\B=q::jw/\Each G ds1 acc/\(∀d∈ds,Eo (c (some (.no,d)::jw)) (λB y=>(∃q,B=q::jw)/\G d y) X)/\∀ys,Each G ds ys->Eo (mkL o (back r jw (clr r E1)) ys) P X) ?_ ?_ ?_
 ·refine h0.mono λE1 ds ⟨h1,h2,h3⟩=>⟨ds,[],none,rfl,by rw[<-h1];rfl,trivial,h2,h3⟩
 ·rintro E1 B d t5 acc ⟨ds,ds1,q,e,rfl,hE,h2,h3⟩;have hp:(Tg.n 0).put d (q::jw)=some (some (.no,d)::jw):=rfl;rw[hp,vo_some,show tYes (some (Own.no,d)::jw)=some (.ok (some (Own.no,d)::jw) true)from rfl,V7,X9 rfl];refine(h2 d (by rw[e];simp)).mono ?_;rintro B y ⟨⟨q',rfl⟩,hG⟩;exact⟨ds,ds1++[d],q',by rw[e];simp,rfl,hE.snoc hG,h2,h3⟩
 ·rintro E1 B acc ⟨ds,ds1,q,e,rfl,hE,h2,h3⟩;rw[Xv]at e;subst e;exact h3 acc hE
theorem kq6{G:D->Sd->Prop}{S:Int->Prop}(hG:∀d y,G d y->∃i,y.2=.int i/\S i):∀{ds:List D} {ys:List Sd},Each G ds ys->∃ps:List Int,ys.map (·.2)=ps.map D.int/\ps.length=ds.length/\∀p∈ps,S p
 |[],[],_=>⟨[],rfl,rfl,λ_ h=>nomatch h⟩
 |d::ds,y::ys,r=>by
  obtain⟨i,e,s⟩:=hG d y r.1;obtain⟨ps,h1,h2,h3⟩:=kq6 hG r.2;exact⟨i::ps,by simp[e,h1],by simp[h2],λp hp=>(List.mem_cons.mp hp).elim (λz=>z▸s) (h3 p)⟩
theorem qqb{G:D->Sd->Prop}{S:D->Prop}(hG:∀d y,G d y->S y.2):∀{ds:List D} {ys:List Sd},Each G ds ys->∀z∈ys.map (·.2),S z
 |[],[],_,_,h=>nomatch h
 |d::ds,y::ys,r,z,h=>by
  rcases List.mem_cons.mp h with rfl|h
  ·exact hG d y r.1
  ·exact qqb hG r.2 z h
theorem qwn{n:Int}:jQ n n=[]:=by unfold jQ;rw[Int.sub_self];rfl
theorem kv6{k n:Int}(h:k<n):jQ k n=.int k::jQ (k+1) n:=by
 unfold jQ;have:(n - k).toNat=(n - (k+1)).toNat+1:=by
  obtain⟨m,hm⟩:=Yx (show 0<=n - (k+1)by omega);rw[hm,show n - k=(m+1:Nat)by omega];rfl
 rw[this,List.range_succ_eq_map,List.map_cons,Y2]
 congr 1
 ·simp
 ·apply Y5;intro i _;simp only[Function.comp]
  congr 1
  omega
theorem J3{k n:Int}{d:D}{ds:List D}(hk:k<=n)(h:d::ds=jQ k n):k<n/\d=.int k/\ds=jQ (k+1) n:=by
 by_cases hl:k<n
 ·rw[kv6 hl]at h;injection h with h1 h2;exact⟨hl,h1,h2⟩
 ·have:k=n:=by omega
  subst this;rw[qwn]at h;cases h
theorem W6{k n:Int}(hk:k<=n)(h:[]=jQ k n):k=n:=by
 by_cases hl:k<n
 ·rw[kv6 hl]at h;cases h
 ·omega
theorem Kq{k n:Int}{d:D}(h:d∈jQ k n):∃i:Int,k<=i/\i<n/\d=.int i:=by
 unfold jQ at h;obtain⟨j,hj,rfl⟩:=List.mem_map.mp h;have:=List.mem_range.mp hj;exact⟨k+j,by omega,by omega,rfl⟩
theorem kkr{k n:Int}(h:k<=n):((jQ k n).length:Int)=n - k:=by
 unfold jQ;rw[X4,Z4];omega
def Nm(i:Int):Prop:=-(10 ^ 60)<i/\i<10 ^ 60
theorem vxk(x:Int):Oo m__law_name [(.no,.int x)] (λy=>∃i,y=(.dp,.int i)/\Nm i) noX:=by
 have hp:((10:Int) ^ (Int.toNat 60))=10 ^ 60:=rfl;have hm:jY (.int (x / 3)) (.int (2*10 ^ 60 - 1))=some (.int (x / 3 % (2*10 ^ 60 - 1))):=mod_i (by decide);unfold m__law_name;refine kX ?_;simp![xv]
 by_cases c:x % 3=0
 ·rw[X9 (by rw[c];rfl)];have h1:=Xq (x / 3) (show(9:Int)≠0 by decide);have h2:=Xk (x / 3) (show(0:Int)<9 by decide);exact⟨_,rfl,by unfold Nm;omega⟩
 ·rw[Xd (by simpa using c)];simp![hp,hm];have h1:=Xq (x / 3) (show(2*10 ^ 60 - 1:Int)≠0 by decide);have h2:=Xk (x / 3) (show(0:Int)<2*10 ^ 60 - 1 by decide);exact⟨_,rfl,by unfold Nm;omega⟩
theorem vww{dr:Fn}(qr:Dr dr)(ns:List Int)(a n:Int)(ha:0<=a)(o9:a<=100)(hn:0<=n)(mz:n<=100):Oo (m__law_pool dr) [(.no,iL ns),(.no,.int a),(.no,.int n)] (λy=>∃ps,y=(.rt,iL ps)/\(ps.length:Int)=n/\∀p∈ps,Nm p) noX:=by
 unfold m__law_pool;refine kX ?_;simp![];refine Kj [some (.no,iL ns),some (.no,.int a)] (λ_ y=>∃i,y=(.dp,.int i)/\Nm i) ?_;refine JV ?_;simp![];refine⟨n,rfl,by omega,by omega,rfl,λd hd=>?_,λys hy=>?_⟩
 ·obtain⟨i,h1,h2,rfl⟩:=Kq hd;simp![];refine(qr ns (a+i) (by omega) (by omega)).via ?_;rintro _ ⟨x,rfl,_,_⟩;simp![];refine(vxk x).via ?_;rintro _ ⟨j,rfl,hj⟩;exact⟨⟨_,rfl⟩,j,rfl,hj⟩
 ·obtain⟨ps,h1,h2,h3⟩:=kq6 (S:=Nm) (λd y ⟨i,h,s⟩=>⟨i,by rw[h],s⟩) hy;rw[z7,h1];exact⟨ps,rfl,by rw[h2,kkr hn];omega,h3⟩
theorem wv7{o1 o2:Own}{a b:Str}(h:a.cps.size+b.cps.size<=10000):jx (o1,.str a) (o2,.str b)=some (.dp,.str (a++b)):=by
 show(if a.cps.size+b.cps.size<=big then _ else _)=_;rw[X9 (by unfold big;omega)]
theorem vkl(a b:Str):(a++b).cps.size=a.cps.size+b.cps.size:=by
 show(a.cps++b.cps).size=_;exact Array.size_append
theorem qwc:∀(ss:List Str),K9 (ss.map D.str)=some ss
 |[]=>rfl
 |s::ss=>by rw[List.map_cons,K9,qwc ss];rfl
theorem vke{o:Own}{ss:List Str}(h:ss.length<64):kq2 (o,.lst (ss.map D.str))=some (.rt,.lst ((K0 ss).map D.str)):=by
 unfold kq2;dsimp only;rw[qwc];dsimp only;rw[X9 h]
theorem qq4(a:Str):∀r,(QX a r).length=r.length+1
 |[]=>rfl
 |b::r=>by unfold QX;split<;>simp[qq4 a r]
theorem kx7:∀r,(K0 r).length=r.length
 |[]=>rfl
 |a::r=>by rw[K0,qq4,kx7 r];rfl
theorem wv0{a b c:Int}{ds:List Int}(h:Digs [a,b,c] ds):∃x y z,ds=[x,y,z]/\0<=x/\x<a/\0<=y/\y<b/\0<=z/\z<c:=by
 match ds,h with
 |[x,y,z],⟨h1,h2,h3,h4,h5,h6,_⟩=>exact⟨x,y,z,rfl,h1,h2,h3,h4,h5,h6⟩
theorem Digs.get:∀{bs ds:List Int} (h:Digs bs ds) (i:Nat) (b:Int),bs[i]?=some b->∃d,ds[i]?=some d/\0<=d/\d<b
 |b::bs,d::ds,h,0,c,e=>by
  have e:b=c:=by simpa using e
  subst e;exact⟨d,rfl,h.1,h.2.1⟩
 |b::bs,d::ds,h,i+1,c,e=>by
  obtain⟨x,h1,h2⟩:=Digs.get h.2.2 i c (by simpa using e);exact⟨x,by simpa using h1,h2⟩
 |[],_,_,i,c,e=>by simp at e
theorem Digs.len:∀{bs ds:List Int} (h:Digs bs ds),ds.length=bs.length
 |[],[],_=>rfl
 |b::bs,d::ds,h=>by rw[Xr,Xr,Digs.len h.2.2]
abbrev sL(ss:List Str):D:=.lst (ss.map D.str)
theorem dg{bs hs:List Int}(h:Digs bs hs)(i:Int)(h0:0<=i)(h1:i<bs.length):∃v,jV (iL hs) (.int i)=some (.int v)/\0<=v/\v<bs.getD i.toNat 0:=by
 have hl:i.toNat<bs.length:=by omega
 obtain⟨d,e,d0,d1⟩:=h.get i.toNat bs[i.toNat] (X1 hl);refine⟨d,v9 h0 (by rw[Xg,e];rfl),d0,?_⟩;rw[X2,X1 hl];exact d1
theorem ixI(ks:List Int)(S:Int->Prop)(hS:∀k∈ks,S k)(i:Int)(h0:0<=i)(h1:i<ks.length):∃v,jV (iL ks) (.int i)=some (.int v)/\S v/\ks[i.toNat]?=some v:=by
 have hl:i.toNat<ks.length:=by omega
 refine⟨ks[i.toNat],v9 h0 (by rw[Xg,X1 hl];rfl),hS _ (Xh hl),X1 hl⟩
theorem fint(b:Bool):∃w:Int,J0 (.bl b)=some (.int w)/\0<=w/\w<=1:=by
 cases b
 ·exact⟨0,rfl,by decide,by decide⟩
 ·exact⟨1,rfl,by decide,by decide⟩
noncomputable def Gd(n:Int)(g:D):Prop:=g=.str "fresh"\/g=.str "any"\/∃i:Int,0<=i/\i<n/\g=.int i
noncomputable def Fd(n:Int)(g:D):Prop:=g=.str "new"\/g=.non\/∃i:Int,0<=i/\i<n/\g=.int i
noncomputable def St(own:Int)(d:D):Prop:=∃(z:Str) (g:D) (to:Int) (fs:List D),d=.tup [.str z,g,.int to,.tup fs]/\Gd own g/\(∀f∈fs,Fd own f)/\fs.length<=3
noncomputable def Rm(d:D):Prop:=∃(kp:Int) (gd:Bool) (ss:List D),d=.tup [.int kp,.bl gd,.lst ss]/\0<=kp/\kp<=3/\(∀s∈ss,St kp s)/\ss.length<=14
noncomputable def Rms(rs:List D):Prop:=1<=rs.length/\rs.length<=4/\∀r∈rs,Rm r
noncomputable def Rmw(rs:List D):Prop:=1<=rs.length/\rs.length<=12/\∀r∈rs,Rm r
instance {rs:List D}:Coe (Rms rs) (Rmw rs):=⟨λh=>⟨h.1,by have:=h.2.1;omega,h.2.2⟩⟩
noncomputable def Sx(gm:List Str)(kps:List Int)(d:D):Prop:=∃(z:Str) (g:D) (to:Int) (fs:List D),d=.tup [.str z,g,.int to,.tup fs]/\z∈gm/\0<=to/\to<kps.length/\(fs.length:Int)=kps.getD to.toNat 0
noncomputable def Rx(gm:List Str)(kps:List Int)(rs:List D):Prop:=rs.length=kps.length/\∀i:Nat,i<kps.length->∃(gd:Bool) (ss:List D),rs[i]?=some (.tup [.int (kps.getD i 0),.bl gd,.lst ss])/\∀s∈ss,Sx gm kps s
theorem qwl{n:Int}{i:Nat}(h:(i:Int)<n):(jQ 0 n)[i]?=some (.int i):=by
 unfold jQ;rw[Xg,List.getElem?_range (by omega)];simp
def At(d:D):Prop:=d=.non\/∃i,d=.int i
theorem At.flat{d:D}{n:Nat}(h:At d):d.flat n=true:=by
 rcases h with rfl|⟨i,rfl⟩<;>cases n<;>simp[D.flat]
theorem xZ{n:Nat}:∀{ks:List D},(∀k∈ks,k.flat n=true)->D.flats n ks=true
 |[],_=>by cases n<;>simp[D.flats]
 |k::ks,h=>by rw[D.flats,h k X3,xZ λe he=>h e (lc9 _ he)];rfl
theorem At.flats{n:Nat}{ks:List D}(h:∀k∈ks,At k):D.flats n ks=true:=xZ λk hk=>(h k hk).flat
mutual
theorem Zj:∀{n:Nat} (d:D),d.flat n=true->peq d d=true
 |n,.non,_=>by simp[peq]
 |n,.bl b,_=>by simp[peq]
 |n,.int b,_=>by simp[peq]
 |n,.str b,_=>by simp[peq]
 |0,.tup xs,h=>by simp[D.flat]at h
 |0,.lst xs,h=>by simp[D.flat]at h
 |n+1,.tup xs,h=>by rw[peq];exact peqs_refl xs (by simpa [D.flat]using h)
 |n+1,.lst xs,h=>by rw[peq];exact peqs_refl xs (by simpa [D.flat]using h)
 |n,.dct _,h=>by cases n<;>simp[D.flat]at h
 |n,.obj _ _,h=>by cases n<;>simp[D.flat]at h
theorem peqs_refl:∀{n:Nat} (ds:List D),D.flats n ds=true->peqs ds ds=true
 |_,[],_=>by simp[peqs]
 |n,d::ds,h=>by
  rw[D.flats,Bool.and_eq_true]at h;rw[peqs,Zj d h.1,peqs_refl ds h.2];rfl
end
theorem eq_self{d:D}(h:d.flat 40=true):fEq d d=some (.bl true):=by unfold fEq;rw[h,Zj d h];rfl
theorem ne_self{d:D}(h:d.flat 40=true):fNe d d=some (.bl false):=by unfold fNe;rw[h,Zj d h];rfl
theorem vqv{a b:D}(ha:At a)(hb:At b):fEq a b=some (.bl (peq a b)):=by
 unfold fEq;rw[ha.flat,hb.flat];rfl
theorem vvn{a:D}{ks:List D}(ha:At a)(hb:∀k∈ks,At k):wW a (.tup ks)=some (.bl (!ks.any λz=>peq z a)):=by
 show Wx a (.tup ks)=_;unfold Wx;have:fIn a (.tup ks)=some (.bl (ks.any λz=>peq z a)):=by
  show(if a.flat 30&&D.flats 30 ks then _ else _)=_;rw[ha.flat,At.flats hb];rfl
 rw[this];rfl
noncomputable def vJ(ks:List D)(d g:D):Bool:=match g with
 |.int i=>peq (ks.getD i.toNat .non) d
 |.str s=>if s="fresh" then !ks.any λz=>peq z d else true
 |_=>true
theorem s1:((Str.ofString "fresh")==(Str.ofString "any"))=false:=by decide
theorem s3(a:Str):(a==a)=true:=by simp
theorem s4:¬(Str.ofString "any")=(Str.ofString "fresh"):=by decide
theorem ix0(c g r f:D):jV (.tup [c,g,r,f]) (.int 0)=some c:=rfl
theorem ix1(c g r f:D):jV (.tup [c,g,r,f]) (.int 1)=some g:=rfl
theorem ix2(c g r f:D):jV (.tup [c,g,r,f]) (.int 2)=some r:=rfl
theorem ix3(c g r f:D):jV (.tup [c,g,r,f]) (.int 3)=some f:=rfl
theorem p0(a b:D):jV (.tup [a,b]) (.int 0)=some a:=rfl
theorem p1(a b:D):jV (.tup [a,b]) (.int 1)=some b:=rfl
theorem t0(a b c:D):jV (.tup [a,b,c]) (.int 0)=some a:=rfl
theorem t1(a b c:D):jV (.tup [a,b,c]) (.int 1)=some b:=rfl
theorem t2(a b c:D):jV (.tup [a,b,c]) (.int 2)=some c:=rfl
theorem wvp(i:Int)(z:Str):fEq (.int i) (.str z)=some (.bl false):=by simp[fEq,D.flat,peq]
theorem vzc{ks:List D}{d g c r f:D}(hk:∀k∈ks,At k)(hd:At d)(hg:Gd ks.length g):Oo m_fits [(.no,.tup [c,g,r,f]),(.no,.tup ks),(.no,d)] (λy=>∃_:Unit,y=(.dp,.bl (vJ ks d g))/\True) noX:=by
 have hn:=vvn hd hk;unfold m_fits;refine kX ?_;rcases hg with rfl|rfl|⟨i,h0,h1,rfl⟩
 ·simp![ix1,Qj,s1,s3,hn];exact⟨(),by simp[vJ],trivial⟩
 ·simp![ix1,Qj,s3,s4,hn];exact⟨(),by simp[vJ,s4],trivial⟩
 ·simp![ix1,wvp,vqi ks i h0 h1,vqv (hk _ (J7 ks i h0 h1)) hd]
  first|trivial|exact⟨(),trivial⟩|exact⟨(),rfl,trivial⟩
theorem vqd{ks:List D}{d g c r f:D}(hk:∀k∈ks,At k)(hd:At d)(hg:Gd ks.length g):Oo m__law_fits [(.no,.tup [c,g,r,f]),(.no,.tup ks),(.no,d)] (λy=>∃_:Unit,y=(.dp,.bl (vJ ks d g))/\True) noX:=by
 have hn:=vvn hd hk;unfold m__law_fits;refine kX ?_;rcases hg with rfl|rfl|⟨i,h0,h1,rfl⟩
 ·simp![ix1,Qj,s1,s3,hn];exact⟨(),by simp[vJ],trivial⟩
 ·simp![ix1,Qj,s3,s4,hn];exact⟨(),by simp[vJ,s4],trivial⟩
 ·simp![ix1,wvp,vqi ks i h0 h1,vqv (hk _ (J7 ks i h0 h1)) hd]
  first|trivial|exact⟨(),trivial⟩|exact⟨(),rfl,trivial⟩
noncomputable def vK(ks:List D)(d f:D):D:=match f with
 |.int i=>ks.getD i.toNat .non
 |.str _=>d
 |_=>.non
theorem vqp{ks:List D}{d f:D}(hk:∀k∈ks,At k)(hd:At d)(hf:Fd ks.length f):At (vK ks d f):=by
 rcases hf with rfl|rfl|⟨i,h0,h1,rfl⟩
 ·exact hd
 ·exact .inl rfl
 ·exact hk _ (J7 ks i h0 h1)
theorem vz4{ks:List D}{d f:D}(hf:Fd ks.length f):Oo m_held_by [(.no,f),(.no,.tup ks),(.no,d)] (λy=>y.2=vK ks d f) noX:=by
 unfold m_held_by;refine kX ?_;rcases hf with rfl|rfl|⟨i,h0,h1,rfl⟩
 ·simp![Qj,s3];rfl
 ·simp![];rfl
 ·simp![wvp,vqi ks i h0 h1];rfl
theorem Vz{G:D->Sd->Prop}{h:D->D}(hG:∀d y,G d y->y.2=h d):∀{ds:List D} {ys:List Sd},Each G ds ys->ys.map (·.2)=ds.map h
 |[],[],_=>rfl
 |d::ds,y::ys,r=>by rw[List.map_cons,List.map_cons,hG d y r.1,Vz hG r.2]
theorem vj2{ks:List D}{d c g r:D}{fs:List D}(hf:∀f∈fs,Fd ks.length f):Oo m_filled [(.no,.tup [c,g,r,.tup fs]),(.no,.tup ks),(.no,d)] (λy=>∃_:Unit,y=(.no,.tup (fs.map (vK ks d)))/\True) noX:=by
 unfold m_filled;refine kX ?_;simp![];refine Kj [some (.no,.tup ks),some (.no,d)] (λf y=>y.2=vK ks d f) ?_;simp![ix3];refine⟨rfl,λf h=>?_,λys hy=>?_⟩
 ·simp![];exact(vz4 (hf f h)).via λy hy=>⟨⟨_,rfl⟩,hy⟩
 ·rw[z7,Vz (h:=vK ks d) (λd y h=>h) hy];simp only[back,clr,at',List.map_cons,List.map_nil,List.set_cons_zero,List.set_cons_succ];simp![J5 (o:=.no) (xs:=fs.map (vK ks d)) (by decide)]
  first|trivial|exact⟨(),trivial⟩|exact⟨(),rfl,trivial⟩
theorem qvh{ks:List D}{d c g r:D}{fs:List D}(hf:∀f∈fs,Fd ks.length f)(hl:fs.length<=1000):Oo m__law_filled [(.no,.tup [c,g,r,.tup fs]),(.no,.tup ks),(.no,d)] (λy=>∃_:Unit,y=(.no,.tup (fs.map (vK ks d)))/\True) noX:=by
 unfold m__law_filled;refine kX ?_;simp![];refine vZ (λE jw=>∃fs1 l,E=[some (.no,.tup [c,g,r,.tup fs]),some (.no,.tup ks),some (.no,d),some (.rt,.lst (fs1.map (vK ks d))),l]/\fs=fs1++jw) ?_ ?_ ?_
 ·simp![ix3];exact⟨[],_,rfl,rfl⟩
 ·rintro E f ds ⟨fs1,l,rfl,he⟩;have ae:fs1.length<1000:=by have:=congrArg List.length he;simp at this;omega
  have fin:∀z:D,z=vK ks d f->fs1.map (vK ks d)++[z]=(fs1++[f]).map (vK ks d):=λz e=>by rw[e];simp
  have done:fs=(fs1++[f])++ds:=by rw[he];simp
  rcases hf f (by rw[he];simp)with rfl|rfl|⟨i,h0,h1,rfl⟩
  ·simp![Qj,s3];refine vY rfl ?_;have hi:J0 (.bl false)=some (.int 0):=rfl;have hx:jV (.lst [d,.non]) (.int 0)=some d:=rfl;simp![hi,hx];refine⟨_,rfl,by rw[X4];omega,fs1++[.str "new"],_,by rw[fin d rfl],done⟩
  ·simp![Qj,s3];refine vY rfl ?_;have hi:J0 (.bl true)=some (.int 1):=rfl;have hx:jV (.lst [d,.non]) (.int 1)=some .non:=rfl;simp![hi,hx];refine⟨_,rfl,by rw[X4];omega,fs1++[.non],_,by rw[fin .non rfl],done⟩
  ·simp![wvp];refine vY rfl ?_;simp![vqi ks i h0 h1];refine⟨_,rfl,by rw[X4];omega,fs1++[.int i],_,by rw[fin (ks.getD i.toNat .non) rfl],done⟩
 ·rintro E ⟨fs1,l,rfl,he⟩;rw[Xv]at he;subst he;simp![J5 (o:=.rt) (xs:=fs.map (vK ks d)) (by decide)]
  first|trivial|exact⟨(),trivial⟩|exact⟨(),rfl,trivial⟩
abbrev kz(ss:List Str)(rs:List D):D:=.tup [sL ss,.lst rs]
noncomputable def qQ(z:Str)(ks:List D)(d s:D):Bool:=match s with
 |.tup [.str w,g,_,_]=>(w==z)&&vJ ks d g
 |_=>false
noncomputable def k6(p:D->Bool):Nat->List D->List D
 |_,[]=>[]
 |k,s::r=>if p s=true then .int k::k6 p (k+1) r else k6 p (k+1) r
theorem kq0{p:D->Bool}:∀{r:List D} {k:Nat},∀d∈k6 p k r,∃i:Int,d=.int i
 | [],_,_,h=>by unfold k6 at h;cases h
 | s::r,k,d,h=>by
  unfold k6 at h
  split at h
  ·rcases List.mem_cons.mp h with rfl|h
   ·exact⟨_,rfl⟩
   ·exact kq0 d h
  ·exact kq0 d h
theorem qkc{ss:List Str}{rs ks st:List D}{kp:D}{gd:D}{room:Int}(h0:0<=room)(hr:rs[room.toNat]?=some (.tup [kp,gd,.lst st])):Oo m_steps_at [(.no,kz ss rs),(.no,.tup [.int room,.tup ks])] (λy=>∃_:Unit,y=(.no,.lst st)/\True) noX:=by
 have hi:jV (.lst rs) (.int room)=some (.tup [kp,gd,.lst st]):=v9 h0 hr;unfold m_steps_at;refine kX ?_;simp![p0,p1,t2,hi]
 first|trivial|exact⟨(),trivial⟩|exact⟨(),rfl,trivial⟩
theorem kvd{ss:List Str}{rs ks st:List D}{gd d:D}{room:Int}{z:Str}(h0:0<=room)(hr:rs[room.toNat]?=some (.tup [.int ks.length,gd,.lst st]))(ao:∀s∈st,St ks.length s)(hk:∀k∈ks,At k)(hd:At d):
  Oo m_fitting [(.no,kz ss rs),(.no,.tup [.int room,.tup ks]),(.no,.str z),(.no,d)] (λy=>∃_:Unit,y=(.rt,.lst (k6 (qQ z ks d) 0 st))/\True) noX:=by
 unfold m_fitting;refine kX ?_;simp![p1];refine(qkc h0 hr).use ?_;intro _ _;simp![];refine ZV (λE1 B ds acc=>∃k q0 q1,B=q0::q1::[some (.no,.str z),some (.no,.tup ks),some (.no,d)]/\ds=zq k (st.drop k)/\acc.map (·.2)++k6 (qQ z ks d) k (st.drop k)=k6 (qQ z ks d) 0 st) ?_ ?_ ?_
 ·simp![];exact⟨0,none,none,rfl,rfl,rfl⟩
 ·rintro E1 B e ds acc ⟨k,q0,q1,rfl,cy,az⟩;cases hs:st.drop k with
  | nil=>rw[hs]at cy;cases cy
  | cons s r=>
   have mq:st.drop (k+1)=r:=by rw[<-List.drop_drop,hs];rfl
   rw[hs,zq]at cy;injection cy with e1 e2;subst e1 e2;rw[hs,k6]at az;obtain⟨w,g,to,fs,rfl,hg,hf,hl⟩:=ao s (List.mem_of_mem_drop (by rw[hs];exact X3));have hc:qQ z ks d (.tup [.str w,g,.int to,.tup fs])=((w==z)&&vJ ks d g):=rfl;simp![ix0,Qj];cases hw:(w==z)with
   | false=>
    rw[hc,hw,Bool.false_and,Xd (by decide)]at az;simp![];exact⟨k+1,_,_,rfl,by rw[mq],by rw[mq];exact az⟩
   | true=>
    simp![];refine(vzc hk hd hg).use ?_;intro _ _;simp![];rw[hc,hw,Bool.true_and]at az;cases hb:vJ ks d g with
    |false=>
     rw[hb,Xd (by decide)]at az;simp![];exact⟨k+1,_,_,rfl,by rw[mq],by rw[mq];exact az⟩
    |true=>
     rw[hb,X9 rfl]at az;simp![];refine⟨k+1,_,_,rfl,by rw[mq],?_⟩;rw[mq,Xp,Xz];exact az
 ·rintro E1 B acc ⟨k,q0,q1,rfl,cy,az⟩;cases hs:st.drop k with
  |cons s r=>rw[hs]at cy;cases cy
  |nil=>
   rw[hs,k6,Xv]at az;rw[z7,az]
   first|trivial|exact⟨(),trivial⟩|exact⟨(),rfl,trivial⟩
theorem kkq{ss:List Str}{rs ks st:List D}{gd d:D}{room:Int}{z:Str}(h0:0<=room)(hr:rs[room.toNat]?=some (.tup [.int ks.length,gd,.lst st]))(ao:∀s∈st,St ks.length s)(hl:st.length<=1000)(hk:∀k∈ks,At k)(hd:At d):
  Oo m__law_fitting [(.no,kz ss rs),(.no,.tup [.int room,.tup ks]),(.no,.str z),(.no,d)] (λy=>∃_:Unit,y=(.rt,.lst (k6 (qQ z ks d) 0 st))/\True) noX:=by
 have hi:jV (.lst rs) (.int room)=some (.tup [.int ks.length,gd,.lst st]):=v9 h0 hr;unfold m__law_fitting;refine kX ?_;simp![p0,p1,t2,hi];refine ZV (λE1 B ds acc=>∃k:Nat,∃q0,B=q0::[some (.no,.lst st),some (.no,.str z),some (.no,.tup [.int room,.tup ks]),some (.no,d)]/\k<=st.length/\ds=jQ k st.length/\acc.map (·.2)++k6 (qQ z ks d) k (st.drop k)=k6 (qQ z ks d) 0 st) ?_ ?_ ?_
 ·simp![];exact⟨0,none,rfl,Y9 _,rfl,rfl⟩
 ·rintro E1 B e ds acc ⟨k,q0,rfl,m8,cy,az⟩;obtain⟨b8,rfl,rfl⟩:=J3 (by omega) cy;have b8:k<st.length:=by omega
  have hs:st.drop k=st[k]::st.drop (k+1):=Ym b8;rw[hs,k6]at az;obtain⟨w,g,to,fs,es,hg,hf,hl⟩:=ao st[k] (Xh b8);have dk:jV (.lst st) (.int k)=some (.tup [.str w,g,.int to,.tup fs]):=v9 (by omega) (by rw[Xs,X1 b8,es]);have hc:qQ z ks d st[k]=((w==z)&&vJ ks d g):=by rw[es];rfl
  have ie:((k:Int)+1)=((k+1:Nat):Int):=by omega
  simp![dk,ix0,Qj];cases hw:(w==z)with
  | false=>
   rw[hc,hw,Bool.false_and,Xd (by decide)]at az;simp![];exact⟨k+1,_,rfl,b8,by rw[ie],az⟩
  | true=>
   simp![dk,p1];refine(vqd hk hd hg).use ?_;intro _ _;simp![];rw[hc,hw,Bool.true_and]at az;cases hb:vJ ks d g with
   |false=>
    rw[hb,Xd (by decide)]at az;simp![];exact⟨k+1,_,rfl,b8,by rw[ie],az⟩
   |true=>
    rw[hb,X9 rfl]at az;simp![];refine⟨k+1,_,rfl,b8,by rw[ie],?_⟩;rw[Xp,Xz];exact az
 ·rintro E1 B acc ⟨k,q0,rfl,m8,cy,az⟩;have:=W6 (by omega) cy;have:k=st.length:=by omega
  subst this;rw[List.drop_length,k6,Xv]at az;rw[z7,az]
  first|trivial|exact⟨(),trivial⟩|exact⟨(),rfl,trivial⟩
noncomputable def wK(ks:List D)(d s:D):D:=match s with
 |.tup [_,_,to,.tup fs]=>.tup [to,.tup (fs.map (vK ks d))]
 |_=>.non
theorem kzr{ss:List Str}{rs ks st:List D}{kp gd d:D}{room:Int}{k:Nat}(h0:0<=room)(hr:rs[room.toNat]?=some (.tup [kp,gd,.lst st]))(ao:∀s∈st,St ks.length s)(hk:k<st.length):
  Oo m_behind [(.no,kz ss rs),(.no,.tup [.int room,.tup ks]),(.no,.int k),(.no,d)] (λy=>∃_:Unit,y=(.no,wK ks d st[k])/\True) noX:=by
 obtain⟨w,g,to,fs,es,hg,hf,hl⟩:=ao st[k] (Xh hk);have dk:jV (.lst st) (.int k)=some (.tup [.str w,g,.int to,.tup fs]):=v9 (by omega) (by rw[Xs,X1 hk,es]);unfold m_behind;refine kX ?_;simp![];refine(qkc h0 hr).use ?_;intro _ _;simp![dk,ix2,p1];refine(vj2 hf).use ?_;intro _ _;simp![];rw[es]
 first|trivial|exact⟨(),trivial⟩|exact⟨(),rfl,trivial⟩
theorem kv9{ss:List Str}{rs ks st:List D}{kp gd d:D}{room:Int}{k:Nat}(h0:0<=room)(hr:rs[room.toNat]?=some (.tup [kp,gd,.lst st]))(ao:∀s∈st,St ks.length s)(hk:k<st.length):
  Oo m__law_behind [(.no,kz ss rs),(.no,.tup [.int room,.tup ks]),(.no,.int k),(.no,d)] (λy=>∃_:Unit,y=(.no,wK ks d st[k])/\True) noX:=by
 obtain⟨w,g,to,fs,es,hg,hf,hl⟩:=ao st[k] (Xh hk);have dk:jV (.lst st) (.int k)=some (.tup [.str w,g,.int to,.tup fs]):=v9 (by omega) (by rw[Xs,X1 hk,es]);have hi:jV (.lst rs) (.int room)=some (.tup [kp,gd,.lst st]):=v9 h0 hr;unfold m__law_behind;refine kX ?_;simp![p0,p1,t2,hi,dk,ix2];refine(qvh hf (by omega)).use ?_;intro _ _;simp![];rw[es]
 first|trivial|exact⟨(),trivial⟩|exact⟨(),rfl,trivial⟩
theorem kwb{α:Type}[DecidableEq α]:∀{l m:List α},l.Nodup->(∀x∈l,x∈m)->l.length<=m.length
 |[],_,_,_=>Y9 _
 |a::l,m,nd,h=>by
  rw[List.nodup_cons]at nd;have ha:=h a X3;have:=kwb (l:=l) (m:=m.erase a) nd.2 λx hx=>(List.mem_erase_of_ne (by rintro rfl;exact nd.1 hx)).mpr (h x (lc9 _ hx))
  have hl:=List.length_erase_of_mem ha;have:0<m.length:=List.length_pos_of_mem ha;simp only[Xr];omega
theorem vzi{G:D->Sd->Prop}(hG:∀d y,G d y->y.2=d){ds:List D}{ys:List Sd}(h:Each G ds ys):ys.map (·.2)=ds:=by
 rw[Vz (h:=id) hG h,List.map_id]
theorem kz2{o:Own}{xs:List D}(h:o≠.dp):V8 (o,.lst xs)=some (.rt,.lst xs):=by
 show(if v5 (o,.lst xs)then _ else _)=_;rw[X9 (by cases o<;>simp_all [v5])]
theorem vzl{ss:List Str}{rs:List D}(hr:∀r∈rs,Rm r):Oo m__law_copy [(.no,kz ss rs)] (λy=>∃_:Unit,y=(.no,kz ss rs)/\True) noX:=by
 unfold m__law_copy;refine kX ?_;simp![p0,p1,kz2 (o:=.no) (xs:=ss.map D.str) (by decide)];refine Kj [] (λd y=>y.2=d) ?_;simp![p1];refine⟨λd hd=>?_,λys hy=>?_⟩
 ·obtain⟨kp,gd,st,rfl,_⟩:=hr d hd;simp![t0,t1,t2,kz2 (o:=.no) (xs:=st) (by decide)];exact⟨⟨_,rfl⟩,trivial⟩
 ·rw[z7,vzi (λd y h=>h) hy];simp only[back,clr];simp![]
  first|trivial|exact⟨(),trivial⟩|exact⟨(),rfl,trivial⟩
theorem vkd{r:Int}{ks:List D}(h:∀k∈ks,At k):(D.tup [.int r,.tup ks]).flat 40=true:=by
 show D.flats 39 [.int r,.tup ks]=true;refine xZ λd hd=>?_
 simp only[Yh,Xw,or_false]at hd;rcases hd with rfl|rfl
 ·rfl
 ·show D.flats 38 ks=true;exact At.flats h
theorem qxp{o1 o2:Own}{a:D}{k:Int}(h1:o1≠.dp)(h0:0<=k)(hk:k<=1000):jX (o1,.tup [a]) (o2,.int k)=some (.no,.tup (List.replicate k.toNat a)):=by
 show(if -(2 ^ 63)<=k/\k<2 ^ 63/\[a].length*k.toNat<=big/\v5 (o1,.tup [a])then _ else _)=_;rw[X9 ⟨by omega,by omega,by unfold big;simp;omega,by cases o1<;>simp_all [v5]⟩]
 congr 3
 induction k.toNat with
 |zero=>rfl
 |succ n ih=>rw[List.replicate_succ,Yv,ih,List.replicate_succ];rfl
theorem qqa{ss:List Str}{rs:List D}{kp:Int}{gd:D}{st:D}(hr:rs[0]?=some (.tup [.int kp,gd,st]))(h0:0<=kp)(h1:kp<=1000):Oo m_first_standing [(.no,kz ss rs)] (λy=>∃_:Unit,y=(.no,.tup [.int 0,.tup (List.replicate kp.toNat .non)])/\True) noX:=by
 have hi:jV (.lst rs) (.int 0)=some (.tup [.int kp,gd,st]):=v9 (by decide) hr;unfold m_first_standing;refine kX ?_;simp![p1,hi,t0,qxp (o1:=.no) (o2:=.no) (a:=.non) (k:=kp) (by decide) h0 h1]
 first|trivial|exact⟨(),trivial⟩|exact⟨(),rfl,trivial⟩
theorem qxl{z:Str}{ss:List Str}:wW (.str z) (sL ss)=some (.bl (!ss.any λw=>w==z)):=by
 show Wx (.str z) (sL ss)=_;unfold Wx;have:fIn (.str z) (sL ss)=some (.bl (ss.any λw=>w==z)):=by
  show(if(D.str z).flat 30&&D.flats 30 (ss.map D.str)then some (D.bl ((ss.map D.str).any λw=>peq w (.str z)))else none)=_;rw[show(D.str z).flat 30=true from rfl,xZ (ks:=ss.map D.str) (λk hk=>by obtain⟨w,_,rfl⟩:=List.mem_map.mp hk;rfl),List.any_map];rfl
 rw[this];rfl
def wr(x:Int):Int:=if x<=0 then x else x - 10 ^ 60
theorem in_i{p:Int}{ks:List Int}:JZ (.int p) (iL ks)=some (.bl (ks.any λw=>w==p)):=by
 show(if(D.int p).flat 30&&D.flats 30 (ks.map D.int)then some (D.bl ((ks.map D.int).any λw=>peq w (.int p)))else none)=_;rw[show(D.int p).flat 30=true from rfl,xZ (ks:=ks.map D.int) (λk hk=>by obtain⟨w,_,rfl⟩:=List.mem_map.mp hk;rfl),List.any_map];rfl
theorem vqm{p:Int}{ks:List Int}:JZ (.int p) (.tup (ks.map D.int))=some (.bl (ks.any λw=>w==p)):=by
 show(if(D.int p).flat 30&&D.flats 30 (ks.map D.int)then some (D.bl ((ks.map D.int).any λw=>peq w (.int p)))else none)=_;rw[show(D.int p).flat 30=true from rfl,xZ (ks:=ks.map D.int) (λk hk=>by obtain⟨w,_,rfl⟩:=List.mem_map.mp hk;rfl),List.any_map];rfl
theorem WY{p:Int}{ks:List Int}:(ks.any λw=>w==p)=decide (p∈ks):=by
 rw[Bool.eq_iff_iff];simp
def Wq(own k:Int):Int:=own+(if k=own then 1 else 0)
noncomputable def Cs(kps:List Int)(b:Int)(c:D):Prop:=c=.non\/∃(to:Int) (fs:List Int),c=.tup [.int to,.tup (fs.map D.int)]/\0<=to/\to<kps.length/\(∀f∈fs,0<=f/\f<b)/\fs.Nodup/\(fs.length:Int)=kps.getD to.toNat 0
noncomputable def Pr(kps:List Int)(n:Nat)(own:Int)(d:D):Prop:=∃(gd:Bool) (st:List D),d=.tup [.int own,.bl gd,.lst st]/\st.length=n/\∀c∈st,∃cs:List D,c=.lst cs/\(cs.length:Int)=own+1/\∀k:Nat,k<cs.length->∃z,cs[k]?=some z/\Cs kps (Wq own k) z
noncomputable def Prs(kps:List Int)(n:Nat)(rs:List D):Prop:=rs.length=kps.length/\∀i:Nat,i<kps.length->∃r,rs[i]?=some r/\Pr kps n (kps.getD i 0) r
theorem kwn{α:Type}{p:α->Bool}:∀{l:List α},l.any p=true->l.findIdx? p=some (l.findIdx p)
 | [],h=>by cases h
 | a::l,h=>by
  rw[List.findIdx?_cons,List.findIdx_cons];cases hp:p a with
  |true=>simp
  |false=>
   rw[Z5,hp,Bool.false_or]at h;rw[kwn h];simp
theorem vzf{α:Type}{p:α->Bool}{l:List α}(h:l.any p=true):l.findIdx p<l.length:=by
 obtain⟨x,hx,hp⟩:=List.any_eq_true.mp h;exact List.findIdx_lt_length_of_exists ⟨x,hx,hp⟩
theorem vze{α:Type}{p:α->Bool}{l:List α}(h:l.any p=false):l.findIdx p=l.length:=by
 rw[List.findIdx_eq_length];intro x hx;cases hp:p x with
 |false=>rfl
 |true=>rw[List.any_eq_true.mpr ⟨x,hx,hp⟩]at h;cases h
theorem wx1{z:Str}{ss:List Str}(h:(ss.any λw=>w==z)=true):kve (sL ss) (.str z)=some (.int (ss.findIdx λw=>w==z:Nat)):=by
 show(if(D.str z).flat 30&&D.flats 30 (ss.map D.str)then((ss.map D.str).findIdx? λw=>peq w (.str z)).map λ(j:Nat)=>D.int (j:Int)else none)=_;rw[show(D.str z).flat 30=true from rfl,xZ (ks:=ss.map D.str) (λk hk=>by obtain⟨w,_,rfl⟩:=List.mem_map.mp hk;rfl),List.findIdx?_map];have:ss.findIdx? ((λw=>peq w (.str z))∘D.str)=ss.findIdx? λw=>w==z:=rfl
 rw[this,kwn h];rfl
theorem wx2{p:Int}{ks:List Int}(h:(ks.any λw=>w==p)=true):kve (.tup (ks.map D.int)) (.int p)=some (.int (ks.findIdx λw=>w==p:Nat)):=by
 show(if(D.int p).flat 30&&D.flats 30 (ks.map D.int)then((ks.map D.int).findIdx? λw=>peq w (.int p)).map λ(j:Nat)=>D.int (j:Int)else none)=_;rw[show(D.int p).flat 30=true from rfl,xZ (ks:=ks.map D.int) (λk hk=>by obtain⟨w,_,rfl⟩:=List.mem_map.mp hk;rfl),List.findIdx?_map];have:ks.findIdx? ((λw=>peq w (.int p))∘D.int)=ks.findIdx? λw=>w==p:=rfl
 rw[this,kwn h];rfl
theorem wv6{a b:List D}(hl:a.length+b.length<=10000):jx (.no,.tup a) (.no,.tup b)=some (.no,.tup (a++b)):=by
 show(if a.length+b.length<=big/\v5 (.no,.tup a)/\v5 (.no,.tup b)then _ else _)=_;rw[X9 ⟨by unfold big;omega,rfl,rfl⟩]
abbrev iT(ks:List Int):D:=.tup (ks.map D.int)
noncomputable def nameAt(ks:List Int)(p:Int)(f:Int):Int:=(ks++[p]).getD f.toNat 0
noncomputable def vjh(ks:List Int)(p:Int)(c:D):D:=match c with
 |.tup [to,.tup fs]=>.tup [to,.tup (fs.map λf=>match f with|.int i=>.int (nameAt ks p i)|_=>.non)]
 |_=>.non
theorem caseD_is{ks fs:List Int}{p to:Int}:vjh ks p (.tup [.int to,iT fs])=.tup [.int to,iT (fs.map (nameAt ks p))]:=by
 unfold vjh iT;simp[Y2,Function.comp]
noncomputable def VY(ss:List Str)(st:List D)(ks:List Int)(z:Str)(p:Int):D:=match st[ss.findIdx λw=>w==z]? with
 |some (.lst cs)=>cs.getD (ks.findIdx λw=>w==p) .non
 |_=>.non
noncomputable def Z9(ss:List Str)(st:List D)(ks:List Int)(z:Str)(p:Int):D:=if(ss.any λw=>w==z)=true then vjh ks p (VY ss st ks z p)else .non
noncomputable def Cas(kps:List Int)(n:Nat)(own:Int)(st:List D):Prop:=st.length=n/\∀c∈st,∃cs:List D,c=.lst cs/\(cs.length:Int)=own+1/\∀k:Nat,k<cs.length->∃z,cs[k]?=some z/\Cs kps (Wq own k) z
theorem vzg{ks:List Int}{p:Int}:(ks.findIdx λw=>w==p)<=ks.length:=List.findIdx_le_length
theorem wv2{kps:List Int}{ss:List Str}{st:List D}{ks:List Int}{z:Str}(p:Int)(h:Cas kps ss.length ks.length st)(hz:(ss.any λw=>w==z)=true):∃cs,st[ss.findIdx λw=>w==z]?=some (.lst cs)/\(cs.length:Int)=ks.length+1/\cs[ks.findIdx λw=>w==p]?=some (VY ss st ks z p)/\Cs kps (Wq ks.length (ks.findIdx λw=>w==p:Nat)) (VY ss st ks z p):=by
 have hj:(ss.findIdx λw=>w==z)<st.length:=by rw[h.1];exact vzf hz
 obtain⟨cs,e,hl,hc⟩:=h.2 st[ss.findIdx λw=>w==z] (Xh hj);have hg:st[ss.findIdx λw=>w==z]?=some (.lst cs):=by rw[X1 hj,e]
 have dy:=vzg (ks:=ks) (p:=p);obtain⟨c,e2,hC⟩:=hc (ks.findIdx λw=>w==p) (by omega);have hca:VY ss st ks z p=c:=by unfold VY;rw[hg];dsimp only;rw[X2,e2];rfl
 exact⟨cs,hg,hl,by rw[hca];exact e2,by rw[hca];exact hC⟩
theorem qxo{ks:List Int}{p f:Int}(h0:0<=f)(h1:f<=ks.length):jV (.tup (ks.map D.int++[.int p])) (.int f)=some (.int (nameAt ks p f)):=by
 refine wzf h0 ?_;rw[show ks.map D.int++[D.int p]=(ks++[p]).map D.int by simp,Xg];unfold nameAt;rw[X2,X1 (by simp;omega)];rfl
theorem vzr{own:Int}{k:Int}:Wq own k<=own+1:=by unfold Wq;split<;>omega
theorem vwg{kps:List Int}{ss:List Str}{rs st:List D}{kp gd:D}{room:Int}{ks:List Int}{z:Str}{p:Int}(h0:0<=room)(hr:rs[room.toNat]?=some (.tup [kp,gd,.lst st]))(hc:Cas kps ss.length ks.length st)(hl:ks.length<=1000):
  Oo m_read_by [(.no,kz ss rs),(.no,.tup [.int room,iT ks]),(.no,.str z),(.no,.int p)] (λy=>y.2=Z9 ss st ks z p) noX:=by
 have hi:jV (.lst rs) (.int room)=some (.tup [kp,gd,.lst st]):=v9 h0 hr;unfold Z9;cases hz:(ss.any λw=>w==z)with
 | false=>
  unfold m_read_by;refine kX ?_;simp![p0,qxl,hz]
 | true=>
  obtain⟨cs,g1,g2,g3,g4⟩:=wv2 p hc hz;have hx:jV (.lst st) (.int (ss.findIdx λw=>w==z:Nat))=some (.lst cs):=v9 (by omega) (by rw[Xs];exact g1);have hy:jV (.lst cs) (.int (ks.findIdx λw=>w==p:Nat))=some (VY ss st ks z p):=v9 (by omega) (by rw[Xs];exact g3);have bd:=wv6 (a:=ks.map D.int) (b:=[.int p]) (by simp;omega);have nj:=wx1 hz;generalize VY ss st ks z p=c at g4 hy;have fin:∀(to:Int) (fs:List Int) (E:En) (hE:Qx 1 [7] E=none::[some (.no,.tup (ks.map D.int++[.int p]))]) (hb:back [7] [some (Own.no,D.tup (ks.map D.int++[.int p]))] (clr [7] E)=E) (hi:itS (cH (j6 (vV 6) (C9 1))) E=some (.ok E (fs.map D.int))) (P:En->Sd->Prop),(∀f∈fs,0<=f/\f<Wq ks.length (ks.findIdx λw=>w==p:Nat))->P E (.rt,.lst ((fs.map (nameAt ks p)).map D.int))->Eo (cLC .rt 1 [7] (itS (cH (j6 (vV 6) (C9 1)))) (.n 0) tYes (cH (j6 (vV 1) (vV 0))) E) P noX:=by
   intro to fs E hE hb hi P im hP;refine Kj [some (.no,.tup (ks.map D.int++[.int p]))] (λf y=>y.2=match f with|.int i=>.int (nameAt ks p i)|_=>.non) ?_;rw[hi,V7];refine⟨by have:=hE;unfold Qx at this;simpa using this,λf hf=>?_,λys hy=>?_⟩
   ·obtain⟨i,hi',rfl⟩:=List.mem_map.mp hf;have hb:=vzr (own:=ks.length) (k:=(ks.findIdx λw=>w==p:Nat));have:=im i hi';simp![qxo (ks:=ks) (p:=p) (f:=i) this.1 (by omega)];exact⟨⟨_,rfl⟩,trivial⟩
   ·rw[z7,Vz (h:=λf=>match f with|.int i=>.int (nameAt ks p i)|_=>.non) (λd y h=>h) hy,hb];rw[Y2]at hP ⊢;exact hP
  rw[X9 rfl];cases hp:(ks.any λw=>w==p)with
  | true=>
   have hii:=wx2 hp;unfold m_read_by;refine kX ?_;rcases g4 with rfl|⟨to,fs,rfl,t0',t1',im,_⟩
   ·simp![p0,p1,qxl,hz,hi,t2,nj,hx,vqm,hp,hii,hy];rfl
   ·simp![p0,p1,qxl,hz,hi,t2,nj,hx,vqm,hp,hii,hy,bd];refine fin to fs _ rfl rfl rfl _ im ?_;simp![J5 (o:=.no) (xs:=(fs.map (nameAt ks p)).map D.int) (by decide)];exact caseD_is.symm
  | false=>
   rw[vze hp]at hy;unfold m_read_by;refine kX ?_;rcases g4 with rfl|⟨to,fs,rfl,t0',t1',im,_⟩
   ·simp![p0,p1,qxl,hz,hi,t2,nj,hx,vqm,hp,hy];rfl
   ·simp![p0,p1,qxl,hz,hi,t2,nj,hx,vqm,hp,hy,bd];refine fin to fs _ rfl rfl rfl _ im ?_;simp![J5 (o:=.no) (xs:=(fs.map (nameAt ks p)).map D.int) (by decide)];exact caseD_is.symm
theorem qkw(ns:List Int):fNe (iL ns) (.lst [])=some (.bl (!ns.isEmpty)):=by
 unfold fNe;have:(iL ns).flat 40=true:=by
  show D.flats 39 (ns.map D.int)=true;exact xZ λk hk=>by obtain⟨w,_,rfl⟩:=List.mem_map.mp hk;rfl
 rw[this,show(D.lst []).flat 40=true from rfl];cases ns with
 |nil=>simp[peq,peqs]
 |cons a r=>simp[peq,peqs]
inductive DR1 (ns:List Int)(k:Int):En->List D->Prop
 |mk (x:Int) (f:Int) (j:Int) {o3:Own} {o4:Own} {l5:Option Sd} {jw:List D} (h0:0<=x) (h1:x<10000000000) (h2:0<=j) (h3:j<=8) (h4:jw=jQ j 8):DR1 ns k [some (.no,iL ns),some (.no,.int k),some (.dp,.int most),some (o3,.int x),some (o4,.int f),l5] jw
theorem KW:Dr m__law_draw2:=by
 intro ns k h0 h1;have hkk:k*k<=1000*1000:=Z7 h1 h1 h0 (by decide);have hkk0:0<=k*k:=Z8 h0 h0;have hp:((7919:Int) ^ (Int.toNat 15))=7919 ^ 15:=rfl;have hm:(1000*(10:Int) ^ (Int.toNat 64))=most:=rfl;have mf:(0:Int)<most:=by decide
 have hb:∀x:Int,zY (.no,.int (x % most)) (.no,.int (7919 ^ 15))=some (.dp,.int (x % most*7919 ^ 15)):=λx=>by
  have:=Xq x (show most≠0 by decide);have:=Xk x mf;unfold most at *;exact wwv (by omega) (by omega) (by decide) (by decide)
 have fin:∀x:Int,∃i,((Own.dp,D.int (x % most)):Sd)=(.dp,.int i)/\0<=i/\i<most:=λx=>⟨_,rfl,Xq _ (by decide),Xk _ mf⟩
 have lr:∀(N C':En->Prop) (x:Int),0<=x->x<10000000000->∀o3 o4:Own,Po (qX (vz (C9 8)) (.n 5) (j5 (jk 3 (cF2 (pu2 jY) (vE (cF2 jx (vE (cF2 jx (vE (cF2 jx (vE (cF2 jX (vV 3) (vV 3))) (vE (cF2 jX (C9 48271) (vV 3))))) (vE (cF2 jX (C9 69621) (vV 5))))) (vV 1))) (C9 2147483629)))
  (jk 4 (cF2 jx (vE (cF2 jX (vV 4) (C9 998244353))) (vE (cF2 (pu2 jY) (vE (cF2 jX (vV 3) (C9 16807))) (C9 2147483587))))))
  [some (.no,iL ns),some (.no,.int k),some (.dp,.int most),some (o3,.int x),some (o4,.int 0),none]) (λE=>Po (jz (cF2 (pu2 jY) (vV 4) (vV 2)) E) N C' (λy=>∃i,y=(.dp,.int i)/\0<=i/\i<most) noX) C' (λy=>∃i,y=(.dp,.int i)/\0<=i/\i<most) noX:=by
  intro N C' x x0 x1 o3 o4;refine vZ (DR1 ns k) ?_ ?_ ?_
  ·simp![];exact⟨x,0,0,x0,x1,by decide,by decide,rfl⟩
  ·rintro E d ds ⟨x,f,j,x0,x1,j0,j1,hr⟩;obtain⟨hj,rfl,rfl⟩:=J3 j1 hr;simp![];have g1:=Xq (x*x+48271*x+69621*j+k) (show(2147483629:Int)≠0 by decide);have g2:=Xk (x*x+48271*x+69621*j+k) (show(0:Int)<2147483629 by decide);generalize (x*x+48271*x+69621*j+k) % 2147483629=y at g1 g2;simp![];exact⟨y,_,j+1,g1,by omega,by omega,by omega,rfl⟩
  ·rintro E ⟨x,f,j,x0,x1,j0,j1,hr⟩;simp![mod_i mf];exact fin _
 unfold m__law_draw2;refine kX ?_
 by_cases c1:k<ns.length
 ·have hi:=qzd ns k h0 c1;simp![Xb c1,hi,hm,hp,mod_i mf,hb];exact fin _
 ·cases he:ns.isEmpty with
  | true=>
   simp![Xa c1,hm,qkw,he];exact lr _ _ (k*k+7*k+11) (by omega) (by omega) _ _
  | false=>
   have c2:(0:Int)<ns.length:=by
    cases ns with
    |nil=>cases he
    |cons a r=>simp
   have hq0:=Xq k (show(ns.length:Int)≠0 by omega);have hq1:=Xk k c2;have hi:=qzd ns (k % ns.length) hq0 hq1;have v0:=Xq (ns.getD (k % ns.length).toNat 0) (show(1000003:Int)≠0 by decide);have v1:=Xk (ns.getD (k % ns.length).toNat 0) (show(0:Int)<1000003 by decide);have w0:0<=ns.getD (k % ns.length).toNat 0 % 1000003*(2*k+1):=Z8 v0 (by omega);have w1:ns.getD (k % ns.length).toNat 0 % 1000003*(2*k+1)<=1000003*2001:=Z7 (by omega) (by omega) (by omega) (by decide);simp![Xa c1,hm,qkw,he,mod_i c2,hi];exact lr _ _ _ (by omega) (by omega) _ _
noncomputable def Go(rs:List D)(s:D)(w:Str×Int)(k:Nat)(s':D):Prop:=∃(room:Int) (ks st:List D) (gd:D),s=.tup [.int room,.tup ks]/\0<=room/\rs[room.toNat]?=some (.tup [.int ks.length,gd,.lst st])/\(∀s∈st,St ks.length s)/\(∀k∈ks,At k)/\∃h:k<st.length,D.int k∈k6 (qQ w.1 ks (.int w.2)) 0 st/\s'=wK ks (.int w.2) st[k]
abbrev Lg:=List ((Str×Int)×Nat)
noncomputable def Chain(rs:List D):D->Lg->D->Prop
 |s,[],s'=>s=s'
 |s,x::r,s'=>∃m,Go rs s x.1 x.2 m/\Chain rs m r s'
theorem Chain.snoc{rs:List D}{x:(Str×Int)×Nat}{m s':D}(g:Go rs m x.1 x.2 s'):∀{L:Lg} {s:D},Chain rs s L m->Chain rs s (L++[x]) s'
 |[],s,h=>by cases(show s=m from h);exact⟨s',g,rfl⟩
 |y::L,s,⟨n,h1,h2⟩=>⟨n,h1,Chain.snoc g h2⟩
abbrev xV(L:Lg):List D:=L.map λx=>.int x.2
theorem VW:KZ (.int 1)=some (.int (-1)):=rfl
theorem qzc{xs:List D}{d:D}(h:xs[xs.length - 1]?=some d):jV (.lst xs) (.int (-1))=some d:=by
 have hl:xs.length - 1<xs.length:=(List.getElem?_eq_some_iff.mp h).1;show((ixN xs.length (-1)).bind λj=>xs[j]?)=some d;unfold ixN;rw[Xd (by decide),X9 (by omega)];show xs[(-1+(xs.length:Int)).toNat]?=some d;rw[show(-1+(xs.length:Int)).toNat=xs.length - 1 by omega];exact h
noncomputable def Sok(kps:List Int)(s:D):Prop:=∃(room:Int) (ks:List D),s=.tup [.int room,.tup ks]/\0<=room/\room<kps.length/\(ks.length:Int)=kps.getD room.toNat 0/\∀k∈ks,At k
theorem V3{gm:List Str}{kps:List Int}{rs:List D}{s:D}(hR:Rmw rs)(hx:Rx gm kps rs)(h:Sok kps s):∃(room:Int) (ks st:List D) (gd:D),s=.tup [.int room,.tup ks]/\0<=room/\rs[room.toNat]?=some (.tup [.int ks.length,gd,.lst st])/\(∀s∈st,St ks.length s)/\(∀k∈ks,At k)/\(∀s∈st,Sx gm kps s)/\st.length<=14:=by
 obtain⟨room,ks,rfl,r0,r1,hl,cu⟩:=h;obtain⟨gd,st,e,fe⟩:=hx.2 room.toNat (by omega);obtain⟨kp,mw,cz,e',_,_,ao,ic⟩:=hR.2.2 _ (Xm e);injection e' with e';injection e' with a1 a2;injection a1 with a1;injection a2 with b1 b2;injection b2 with c1 c2;injection c1 with c1;subst c1 a1;rw[<-hl]at e ao;exact⟨room,ks,st,.bl gd,rfl,r0,e,ao,cu,fe,ic⟩
theorem kv3{gm:List Str}{kps:List Int}{ks st:List D}{p:Int}{k:Nat}(ao:∀s∈st,St ks.length s)(cu:∀k∈ks,At k)(fe:∀s∈st,Sx gm kps s)(hk:k<st.length):Sok kps (wK ks (.int p) st[k]):=by
 obtain⟨z,g,to,fs,es,hg,hf,_⟩:=ao st[k] (Xh hk);obtain⟨z',g',to',fs',es',_,t0,t1,pe⟩:=fe st[k] (Xh hk);rw[es]at es';injection es' with es';injection es' with _ e2;injection e2 with _ e3;injection e3 with e4 e5;injection e5 with e6 _;injection e4 with e4;injection e6 with e6;subst e4 e6;rw[es];refine⟨to,fs.map (vK ks (.int p)),rfl,t0,t1,by rw[X4];exact pe,λd hd=>?_⟩;obtain⟨f,hf',rfl⟩:=List.mem_map.mp hd;exact vqp cu (.inr ⟨p,rfl⟩) (hf f hf')
theorem Qw{p:D->Bool}:∀{r:List D} {k:Nat} {d:D},d∈k6 p k r->∃j:Nat,d=.int j/\k<=j/\j<k+r.length
 | [],_,_,h=>by unfold k6 at h;cases h
 | s::r,k,d,h=>by
  unfold k6 at h
  split at h
  ·rcases List.mem_cons.mp h with rfl|h
   ·exact⟨k,rfl,X8 _,by simp⟩
   ·obtain⟨j,e,j0,j1⟩:=Qw h;exact⟨j,e,by omega,by simp;omega⟩
  ·obtain⟨j,e,j0,j1⟩:=Qw h;exact⟨j,e,by omega,by simp;omega⟩
theorem wq5{fl:List D}(h:∀d∈fl,∃i:Int,d=.int i):fNe (.lst fl) (.lst [])=some (.bl (!fl.isEmpty)):=by
 unfold fNe;have:(D.lst fl).flat 40=true:=by
  show D.flats 39 fl=true;exact xZ λk hk=>by obtain⟨w,rfl⟩:=h k hk;rfl
 rw[this,show(D.lst []).flat 40=true from rfl];cases fl with
 |nil=>simp[peq,peqs]
 |cons a r=>simp[peq,peqs]
theorem www{a b:Int}:wzh (.int a) (.int b)=some (.int (if b<a then b else a)):=rfl
theorem wwx{a b:Int}:wxa (.int a) (.int b)=some (.int (if b>a then b else a)):=rfl
theorem vvv{xs:List D}{c:Int}(h0:0<=c)(h1:c<=xs.length):K4 xs none (some c)=xs.take c.toNat:=by
 unfold K4 JK;dsimp only;rw[Xd (by omega),List.drop_zero,Nat.sub_zero,Nat.min_eq_left (Int.toNat_le.mpr h1)]
end C
namespace C
open Q PySem
noncomputable def Ok2(kps:List Int)(s:D):Prop:=s=.non\/∃(room:Int) (ks:List Int),s=.tup [.int room,iT ks]/\0<=room/\room<kps.length/\(ks.length:Int)=kps.getD room.toNat 0
noncomputable def Rd(kps:List Int)(ss:List Str)(rs:List D)(s:D)(w:Str×Int)(s':D):Prop:=(s=.non/\s'=.non)\/∃(room:Int) (ks:List Int) (st:List D) (kp gd:D),s=.tup [.int room,iT ks]/\0<=room/\rs[room.toNat]?=some (.tup [kp,gd,.lst st])/\Cas kps ss.length ks.length st/\ks.length<=3/\s'=Z9 ss st ks w.1 w.2
theorem vko{kps:List Int}{ss:List Str}{rs:List D}{s s':D}{w:Str×Int}(h:Rd kps ss rs s w s'):Oo m_read_by [(.no,kz ss rs),(.no,s),(.no,.str w.1),(.no,.int w.2)] (λy=>y.2=s') noX:=by
 rcases h with⟨rfl,rfl⟩|⟨room,ks,st,kp,gd,rfl,r0,er,hc,hl,rfl⟩
 ·unfold m_read_by;refine kX ?_;simp![]
 ·exact vwg r0 er hc (by omega)
abbrev Lw:=List (Str×Int)
noncomputable def Ch2(kps:List Int)(ss:List Str)(rs:List D):D->Lw->D->Prop
 |s,[],s'=>s=s'
 |s,x::r,s'=>∃m,Rd kps ss rs s x m/\Ch2 kps ss rs m r s'
abbrev wjk(L:Lw):List D:=L.map λw=>.tup [.str w.1,.int w.2]
abbrev st0:D:=.tup [.int 0,iT []]
noncomputable def stands:Fn:=fn 5
  (j5 (jk 2 (qw .no [(cC (.int 0)),(qw .no [])]))
  (j5 (qX (itS (cV 1)) (.t [3,4]) (jk 2 (jK m_read_by [(cV 0),(cV 2),(cV 3),(cV 4)])))
  (jz (cMv 2))))
noncomputable def plets:Fn:=fn 3
  (j5 (jk 2 (jK stands [(cV 0),(cV 1)]))
  (jz (Kw (vE (cF2 (f2First fNotNon) (vV 2) (vE (cC .non)))) (cH (j6 (j6 (j6 (vV 0) (C9 1)) (j6 (vV 2) (C9 0))) (C9 1))))))
theorem kk8{kps:List Int}{ss:List Str}{rs:List D}{L:Lw}{s:D}(hc:Ch2 kps ss rs st0 L s):Oo stands [(.no,kz ss rs),(.no,.lst (wjk L))] (λy=>y.2=s) noX:=by
 unfold stands;refine kX ?_;simp![];refine vZ (λE jw=>∃(L2:Lw) (m:D) (o1 o2:Own) (l3 l4:Option Sd),E=[some (.no,kz ss rs),some (o1,.lst (wjk L)),some (o2,m),l3,l4]/\jw=wjk L2/\Ch2 kps ss rs m L2 s) ?_ ?_ ?_
 ·simp![];exact⟨L,_,_,_,_,_,rfl,rfl,hc⟩
 ·rintro E d ds ⟨L2,m,o1,o2,l3,l4,rfl,hr,dq⟩;cases L2 with
  |nil=>cases hr
  |cons x L2=>
   have hr:d::ds=.tup [.str x.1,.int x.2]::wjk L2:=hr;injection hr with e1 e2;subst e1 e2;obtain⟨m',h1,h2⟩:=dq;simp![];refine(vko h1).via ?_;intro y hy;obtain⟨o,d⟩:=y;have hy:d=m':=hy;subst hy;simp![];exact⟨L2,_,_,_,_,_,rfl,rfl,h2⟩
 ·rintro E ⟨L2,m,o1,o2,l3,l4,rfl,hr,dq⟩;have:L2=[]:=by cases L2 with
   |nil=>rfl
   |cons=>cases hr
  subst this;simp![];exact dq
noncomputable def goodD(rs:List D)(s:D):Bool:=match s with
 |.tup [.int room,_]=>(match rs[room.toNat]? with
  |some (.tup [_,.bl b,_])=>b
  |_=>false)
 |_=>false
theorem vz7{kps:List Int}{n:Nat}{rs:List D}{room:Int}{kd:D}(hP:Prs kps n rs)(r0:0<=room)(r1:room<kps.length):∃kp st,jV (.lst rs) (.int room)=some (.tup [kp,.bl (goodD rs (.tup [.int room,kd])),st]):=by
 obtain⟨r,er,gd,st,rfl,ic,ao⟩:=hP.2 room.toNat (by omega);have hg:goodD rs (.tup [.int room,kd])=gd:=by unfold goodD;dsimp only;rw[er]
 exact⟨.int (kps.getD room.toNat 0),.lst st,v9 r0 (by rw[hg];exact er)⟩
theorem qxz{kps:List Int}{ss:List Str}{rs:List D}{L:Lw}{s:D}(hP:Prs kps ss.length rs)(hc:Ch2 kps ss rs st0 L s)(hok:Ok2 kps s):Oo plets [(.no,kz ss rs),(.no,.lst (wjk L))] (λy=>y.2=.bl (goodD rs s)) noX:=by
 unfold plets;refine kX ?_;simp![];refine(kk8 hc).via ?_;intro y hy;obtain⟨o,d⟩:=y;have hy:d=s:=hy;subst hy;rcases hok with rfl|⟨room,ks,rfl,r0,r1,hl⟩
 ·simp![];rfl
 ·obtain⟨kp,st,dk⟩:=vz7 (kd:=iT ks) hP r0 r1;cases o with
  |no=>simp![p0,p1,t1,dk]
  |rt=>simp![p0,p1,t1,dk]
  |dp=>simp![p0,p1,t1,dk]
end C
namespace C
open PySem Q
noncomputable def m_ways_on:Fn:=fn 9
  (j5 (jk 4 vzp)
  (j5 (qX (kwh (cV 1)) (.t [5,6]) (qX (itS (jK m_fitting [(cV 0),(cV 5),(cV 2),(cV 3)])) (.n 7) (j5 (jk 8 (jK m_behind [(cV 0),(cV 5),(cV 7),(cV 3)]))
  (sIf (tE (cF2 (pu2 Wz) (vV 8) (vV 4))) (vkm 4 (vV 8) (cF2 jx (vV 6) (vE (k8 .rt [(cV 7)])))) k9))))
  (jz (cMv 4))))
noncomputable def m_is_good_at:Fn:=fn 2
  (jz (cH (j6 (j6 (j6 (vV 0) (C9 1)) (j6 (vV 1) (C9 0))) (C9 1))))
noncomputable def m_way_by:Fn:=fn 7
  (j5 (jk 2 (vjq (jK m_first_standing [(cV 0)]) (k8 .rt [])))
  (j5 (qX (itS (cV 1)) (.t [3,4]) (jk 2 (jK m_ways_on [(cV 0),(cV 2),(cV 3),(cV 4)])))
  (j5 (qX (kwh (cV 2)) (.t [5,6]) (sIf (tEQ (vE (jK m_is_good_at [(cV 0),(cV 5)]))) (jz (cMv 6)) k9))
  (jz (cC .non)))))
noncomputable def m_lets_by:Fn:=fn 2
  (jz (cF2 (f2First fNotNon) (vE (jK m_way_by [(cV 0),(cV 1)])) (vE (cC .non))))
end C
namespace C
open Q PySem
noncomputable section
noncomputable def kZ(K:List D)(d:D):List D:=if d∈K then K else K++[d]
def xj:D->List D
 |.tup [_,.tup ks]=>ks
 |_=>[]
noncomputable def wvh(rs:List D):D->List D
 |.tup [.int r,_]=>(match rs.getD r.toNat .non with
  |.tup [_,_,.lst st]=>st
  |_=>[])
 |_=>[]
noncomputable def xK(rs:List D):D->Bool
 |.tup [.int r,_]=>(match rs.getD r.toNat .non with
  |.tup [_,.bl b,_]=>b
  |_=>false)
 |_=>false
noncomputable def bh(ks st:List D)(p:Int):D->D
 |.int k=>wK ks (.int p) (st.getD k.toNat .non)
 |_=>.non
noncomputable def v6(rs:List D)(w:Str×Int)(s:D):List D:=(k6 (qQ w.1 (xj s) (.int w.2)) 0 (wvh rs s)).map (bh (xj s) (wvh rs s) w.2)
noncomputable def stepK(rs:List D)(w:Str×Int)(K:List D):List D:=(K.flatMap (v6 rs w)).foldl kZ []
noncomputable def zj(rs:List D):List (Str×Int)->List D->List D
 |[],K=>K
 |w::ws,K=>zj rs ws (stepK rs w K)
end
theorem kxk(kvs:List (D×D))(k v:D):(K5 kvs k v).map (·.1)=kZ (kvs.map (·.1)) k:=by
 unfold K5 kZ
 by_cases h:k∈kvs.map (·.1)
 ·rw[X9 h,X9 h,Y2];refine Y5 λe _=>?_
  show(if e.1=k then(k,v)else e).1=e.1
  by_cases z:e.1=k
  ·rw[X9 z];exact z.symm
  ·rw[Xd z]
 ·rw[Xd h,Xd h,Xp];rfl
noncomputable def SokV(kps:List Int)(V:List D)(s:D):Prop:=∃(room:Int) (ks:List D),s=.tup [.int room,.tup ks]/\0<=room/\room<kps.length/\(ks.length:Int)=kps.getD room.toNat 0/\(∀k∈ks,At k)/\∀k∈ks,k∈V
theorem SokV.ok{kps:List Int}{V:List D}{s:D}(h:SokV kps V s):Sok kps s:=by
 obtain⟨room,ks,e,r0,r1,hl,ha,_⟩:=h;exact⟨room,ks,e,r0,r1,hl,ha⟩
noncomputable def Kin(kps:List Int)(V K:List D):Prop:=K.Nodup/\∀s∈K,SokV kps V s
theorem kwj{kps:List Int}{V K:List D}{d:D}(h:Kin kps V K)(hd:SokV kps V d):Kin kps V (kZ K d):=by
 unfold kZ
 by_cases z:d∈K
 ·rw[X9 z];exact h
 ·rw[Xd z];refine⟨List.nodup_append.mpr ⟨h.1,List.nodup_cons.mpr ⟨Xw,Xx⟩,λa ha b hb e=>?_⟩,λs hs=>?_⟩
  ·rw[List.mem_singleton.mp hb]at e;exact z (e▸ha)
  ·rcases List.mem_append.mp hs with q|q
   ·exact h.2 s q
   ·rw[List.mem_singleton.mp q];exact hd
theorem kwi{kps:List Int}{V:List D}:∀{l K:List D},Kin kps V K->(∀d∈l,SokV kps V d)->Kin kps V (l.foldl kZ K)
 |[],_,h,_=>h
 |d::l,_,h,hd=>kwi (l:=l) (kwj h (hd d X3)) λe he=>hd e (lc9 _ he)
noncomputable def tps(V:List D):Nat->List (List D)
 |0=>[[]]
 |n+1=>V.flatMap λv=>(tps V n).map (v :: ·)
theorem qj1{V:List D}:∀{ks:List D},(∀k∈ks,k∈V)->ks∈tps V ks.length
 |[],_=>List.mem_singleton.mpr rfl
 |k::ks,h=>List.mem_flatMap.mpr ⟨k,h k X3,List.mem_map.mpr ⟨ks,qj1 λe he=>h e (lc9 _ he),rfl⟩⟩
theorem kwm{α β:Type}{f:α->List β}{c:Nat}:∀{l:List α},(∀a∈l,(f a).length<=c)->(l.flatMap f).length<=l.length*c
 |[],_=>Y9 _
 |a::l,h=>by
  rw[Yw,Xi,Xr,Nat.succ_mul];have:=kwm (l:=l) λb hb=>h b (lc9 _ hb)
  have:=h a X3;omega
theorem Q5{V:List D}(hV:V.length<=6):∀n,(tps V n).length<=6 ^ n
 |0=>X8 _
 |n+1=>by
  have h1:=kwm (l:=V) (f:=λv=>(tps V n).map (v :: ·)) (c:=6 ^ n) λa _=>by rw[X4];exact Q5 hV n
  have h2:=Nat.mul_le_mul_right (6 ^ n) hV;have h3:6 ^ (n+1)=6*6 ^ n:=by rw[Nat.pow_succ,Nat.mul_comm]
  show(V.flatMap λv=>(tps V n).map (v :: ·)).length<=_;omega
theorem kva{kps:List Int}{V K:List D}(h:Kin kps V K)(hk:kps.length<=4)(dl:∀k∈kps,k<=3)(hV:V.length<=6):K.length<=1036:=by
 have h1:=kwb (l:=K) (m:=(List.range 4).flatMap λ(r:Nat)=>(tps V 0++(tps V 1++(tps V 2++tps V 3))).map λks=>D.tup [.int (r:Int),.tup ks]) h.1 λs hs=>by
  obtain⟨room,ks,e,r0,r1,hl,ha,hv⟩:=h.2 s hs;have h3:ks.length<=3:=by
   have:=dl (kps.getD room.toNat 0) (by rw[X2,X1 (by omega)];exact Xh _);omega
  have hm:=qj1 hv;refine List.mem_flatMap.mpr ⟨room.toNat,List.mem_range.mpr (by omega),List.mem_map.mpr ⟨ks,?_,by rw[e,Int.toNat_of_nonneg r0]⟩⟩;rw[List.mem_append,List.mem_append,List.mem_append];have:=vzb ks.length (by omega);rcases this with z|z|z|z<;>rw[z]at hm
  ·exact .inl hm
  ·exact .inr (.inl hm)
  ·exact .inr (.inr (.inl hm))
  ·exact .inr (.inr (.inr hm))
 have h2:=kwm (l:=List.range 4) (f:=λ(r:Nat)=>(tps V 0++(tps V 1++(tps V 2++tps V 3))).map λks=>D.tup [.int (r:Int),.tup ks]) (c:=259) λa _=>by
  rw[X4,Xi,Xi,Xi];have a0:=Q5 hV 0;have a1:=Q5 hV 1;have a2:=Q5 hV 2;have a3:=Q5 hV 3;have:(6:Nat) ^ 0=1/\(6:Nat) ^ 1=6/\(6:Nat) ^ 2=36/\(6:Nat) ^ 3=216:=⟨rfl,rfl,rfl,rfl⟩;omega
 rw[Z4]at h2;exact Y3 h1 h2
theorem qjv{kps:List Int}{V K:List D}(h:Kin kps V K)(hk:kps.length<=12)(dl:∀k∈kps,k<=3)(hV:V.length<=6):K.length<=3108:=by
 have h1:=kwb (l:=K) (m:=(List.range 12).flatMap λ(r:Nat)=>(tps V 0++(tps V 1++(tps V 2++tps V 3))).map λks=>D.tup [.int (r:Int),.tup ks]) h.1 λs hs=>by
  obtain⟨room,ks,e,r0,r1,hl,ha,hv⟩:=h.2 s hs;have h3:ks.length<=3:=by
   have:=dl (kps.getD room.toNat 0) (by rw[X2,X1 (by omega)];exact Xh _);omega
  have hm:=qj1 hv;refine List.mem_flatMap.mpr ⟨room.toNat,List.mem_range.mpr (by omega),List.mem_map.mpr ⟨ks,?_,by rw[e,Int.toNat_of_nonneg r0]⟩⟩;rw[List.mem_append,List.mem_append,List.mem_append];have:=vzb ks.length (by omega);rcases this with z|z|z|z<;>rw[z]at hm
  ·exact .inl hm
  ·exact .inr (.inl hm)
  ·exact .inr (.inr (.inl hm))
  ·exact .inr (.inr (.inr hm))
 have h2:=kwm (l:=List.range 12) (f:=λ(r:Nat)=>(tps V 0++(tps V 1++(tps V 2++tps V 3))).map λks=>D.tup [.int (r:Int),.tup ks]) (c:=259) λa _=>by
  rw[X4,Xi,Xi,Xi];have a0:=Q5 hV 0;have a1:=Q5 hV 1;have a2:=Q5 hV 2;have a3:=Q5 hV 3;have:(6:Nat) ^ 0=1/\(6:Nat) ^ 1=6/\(6:Nat) ^ 2=36/\(6:Nat) ^ 3=216:=⟨rfl,rfl,rfl,rfl⟩;omega
 rw[Z4]at h2;exact Y3 h1 h2
theorem Qq{rs ks st:List D}{room:Int}{kp gd:D}(hr:rs[room.toNat]?=some (.tup [kp,gd,.lst st])):wvh rs (.tup [.int room,.tup ks])=st:=by
 unfold wvh;dsimp only;rw[X2,hr];rfl
theorem vX{room:D}{ks:List D}:xj (.tup [room,.tup ks])=ks:=rfl
theorem Q3{ks st:List D}{p:Int}{k:Nat}(h:k<st.length):bh ks st p (.int k)=wK ks (.int p) st[k]:=by
 unfold bh;dsimp only;rw[Xs,X2,X1 h];rfl
theorem vz5{ks V:List D}{d f:D}(hk:∀k∈ks,k∈V)(hd:d∈V)(hn:D.non∈V)(hf:Fd ks.length f):vK ks d f∈V:=by
 rcases hf with rfl|rfl|⟨i,h0,h1,rfl⟩
 ·exact hd
 ·exact hn
 ·exact hk _ (J7 ks i h0 h1)
theorem jw5{gm:List Str}{kps:List Int}{ks st V:List D}{p:Int}{k:Nat}(ao:∀s∈st,St ks.length s)(cu:∀k∈ks,At k)(hV:∀k∈ks,k∈V)(hn:D.non∈V)(hp:D.int p∈V)(fe:∀s∈st,Sx gm kps s)(hk:k<st.length):SokV kps V (wK ks (.int p) st[k]):=by
 obtain⟨room,av,e,r0,r1,hl,ha⟩:=kv3 (p:=p) ao cu fe hk;refine⟨room,av,e,r0,r1,hl,ha,λd hd=>?_⟩;obtain⟨z,g,to,fs,es,hg,hf,_⟩:=ao st[k] (Xh hk);rw[es]at e;have e:D.tup [.int to,.tup (fs.map (vK ks (.int p)))]=.tup [.int room,.tup av]:=e;injection e with e;injection e with _ e;injection e with e _;injection e with e;subst e;obtain⟨f,hf',rfl⟩:=List.mem_map.mp hd;exact vz5 hV hp hn (hf f hf')
theorem kjw{gm:List Str}{kps:List Int}{rs V:List D}{w:Str×Int}{s:D}(hR:Rmw rs)(hx:Rx gm kps rs)(hn:D.non∈V)(hp:D.int w.2∈V)(h:SokV kps V s):∀d∈v6 rs w s,SokV kps V d:=by
 intro d hd;obtain⟨ac,av,e',_,_,_,_,hV⟩:=id h;obtain⟨room,ks,st,gd,rfl,r0,er,ao,cu,fe,ic⟩:=V3 hR hx h.ok;injection e' with e';injection e' with _ e';injection e' with e' _;injection e' with e';subst e';unfold v6 at hd;rw[Qq er,vX]at hd;obtain⟨c,hc,rfl⟩:=List.mem_map.mp hd;obtain⟨j,rfl,_,hj⟩:=Qw hc;rw[Q3 (by omega)];exact jw5 ao cu hV hn hp fe (by omega)
theorem vw7{gm:List Str}{kps:List Int}{rs V K:List D}{w:Str×Int}(hR:Rms rs)(hx:Rx gm kps rs)(hn:D.non∈V)(hp:D.int w.2∈V)(h:Kin kps V K):Kin kps V (stepK rs w K):=by
 refine kwi ⟨Xx,λ_ z=>nomatch z⟩ λd hd=>?_
 obtain⟨s,hs,hd⟩:=List.mem_flatMap.mp hd;exact kjw hR hx hn hp (h.2 s hs) d hd
theorem kwg{kps:List Int}{s:D}(h:Sok kps s):vW s=true:=by
 obtain⟨room,ks,rfl,_,_,_,ha⟩:=h;have:∀{l:List D},(∀k∈l,At k)->keyDs 4 l=true:=by
  intro l
  induction l with
  |nil=>intro _;rfl
  |cons a l ih=>
   intro h;have h1:k7 4 a=true:=by rcases h a X3 with rfl|⟨i,rfl⟩<;>rfl
   show(k7 4 a&&keyDs 4 l)=true;rw[h1,ih λk hk=>h k (lc9 _ hk)];rfl
 show((true&&(keyDs 4 ks&&true))&&true)=true;rw[this ha];rfl
theorem kks{kps : List Int}{V : List D}: ∀{kvs : List (D × D)}, Kin kps V (kvs.map (·.1)) -> unm kvs = true
  | [], _=>rfl
  | (k, _)::r, h=>by
    obtain⟨_, _, e, _⟩:= h.2 k (by simp);subst e;rfl
abbrev Kvs:=List (D×D)
abbrev Lws:=List (Str×Int)
noncomputable def Wd(rs:List D)(s0:D)(pre:List (Str×Int))(kvs:List (D×D)):Prop:=∀e∈kvs,∃L:Lg,e.2=.lst (xV L)/\L.map (·.1)=pre/\Chain rs s0 L e.1
theorem qzs(l:List D)(d:D)(K:List D):(l++[d]).foldl kZ K=kZ (l.foldl kZ K) d:=by rw[List.foldl_append];rfl
theorem vql{K:List D}{d:D}(h:d∈K):kZ K d=K:=by unfold kZ;rw[X9 h]
inductive WO1 (ss:List Str)(rs V:List D)(kps:List Int)(s0:D)(pre:Lws)(kvs:Kvs)(z:Str)(p:Int):En->List D->Prop
 |mk (i8:Kvs) (i6:Kvs) (kv:Kvs) {l5:Option Sd} {l6:Option Sd} {l7:Option Sd} {l8:Option Sd} {jw:List D} (h0:jw=i6.map (λe=>D.tup [e.1,e.2])) (h1:kvs=i8++i6) (h2:kv.map (·.1)=((i8.map (·.1)).flatMap (v6 rs (z,p))).foldl kZ []) (h3:Kin kps V (kv.map (·.1))) (h4:Wd rs s0 (pre++[(z,p)]) kv):WO1 ss rs V kps s0 pre kvs z p [some (.no,kz ss rs),some (.no,.dct kvs),some (.no,.str z),some (.no,.int p),some (.rt,.dct kv),l5,l6,l7,l8] jw
inductive WO2 (ss:List Str)(rs V:List D)(kps:List Int)(s0:D)(pre:Lws)(kvs:Kvs)(z:Str)(p:Int)(room:Int)(ks st:List D)(L:Lg)(i8:Kvs):En->List D->Prop
 |mk (f1:List D) (kv:Kvs) {l7:Option Sd} {l8:Option Sd} {jw:List D} (h0:k6 (qQ z ks (.int p)) 0 st=f1++jw) (h1:kv.map (·.1)=(f1.map (bh ks st p)).foldl kZ (((i8.map (·.1)).flatMap (v6 rs (z,p))).foldl kZ [])) (h2:Kin kps V (kv.map (·.1))) (h3:Wd rs s0 (pre++[(z,p)]) kv):WO2 ss rs V kps s0 pre kvs z p room ks st L i8 [some (.no,kz ss rs),some (.no,.dct kvs),some (.no,.str z),some (.no,.int p),some (.rt,.dct kv),some (.no,.tup [.int room,.tup ks]),some (.no,.lst (xV L)),l7,l8] jw
theorem qqr{ss:List Str}{rs V:List D}{kps:List Int}{s0:D}{pre:List (Str×Int)}{kvs:List (D×D)}(z:Str)(p:Int)(hR:Rms rs)(hx:Rx ss kps rs)(h3:∀k∈kps,k<=3)(hV:V.length<=6)(hn:D.non∈V)(hp:D.int p∈V)(hK:Kin kps V (kvs.map (·.1)))(hw:Wd rs s0 pre kvs)(cg:pre.length<=1000):
  Oo m_ways_on [(.no,kz ss rs),(.no,.dct kvs),(.no,.str z),(.no,.int p)] (λy=>∃kvs',y=(.rt,.dct kvs')/\(kvs'.map (·.1)=stepK rs (z,p) (kvs.map (·.1))/\Wd rs s0 (pre++[(z,p)]) kvs')) noX:=by
 have iq:At (.int p):=.inr ⟨p,rfl⟩;have k4:kps.length<=4:=by have:=hx.1;have:=hR.2.1;omega
 have m8:kvs.length<=10000:=by have:=kva hK k4 h3 hV;rw[X4]at this;omega
 unfold m_ways_on;refine kX ?_;simp![↓wj3];refine vZ (WO1 ss rs V kps s0 pre kvs z p) ?_ ?_ ?_
 ·simp![↓qw5,qze m8 (kks hK)];exact⟨[],kvs,[],rfl,rfl,rfl,⟨Xx,λ_ z=>nomatch z⟩,λ_ z=>nomatch z⟩
 ·rintro E d ds ⟨i8,i6,kv,hr,he,hk,hki,hwd⟩;cases i6 with
  | nil=>cases hr
  | cons q i6=>
   obtain⟨s,wv⟩:=q;rw [List.map_cons]at hr;injection hr with e1 e2;subst e1 e2;have rn:SokV kps V s:=hK.2 s (by rw[he];simp);obtain⟨ac,av,e',_,_,_,_,hVk⟩:=id rn;obtain⟨room,ks,st,gd,rfl,r0,er,ao,cu,fe,ic⟩:=V3 hR hx rn.ok;injection e' with e';injection e' with _ e';injection e' with e' _;injection e' with e';subst e';obtain⟨L,ew,hLp,dq⟩:=hw (.tup [.int room,.tup ks],wv) (by rw[he];simp);have ew:wv=.lst (xV L):=ew;subst ew;have hLl:L.length<=1000:=by have:=congrArg List.length hLp;rw[X4]at this;omega
   have fk:v6 rs (z,p) (.tup [.int room,.tup ks])=(k6 (qQ z ks (.int p)) 0 st).map (bh ks st p):=by unfold v6;rw[Qq er,vX]
   simp![];refine vZ (WO2 ss rs V kps s0 pre kvs z p room ks st L i8) ?_ ?_ ?_
   ·simp![];refine(kvd r0 er ao cu iq).use ?_;intro _ _;simp![];exact⟨[],kv,rfl,hk,hki,hwd⟩
   ·rintro E d ds ⟨f1,kv,hf,hk,hki,hwd⟩;have fm:d∈k6 (qQ z ks (.int p)) 0 st:=by rw[hf];simp
    obtain⟨j,rfl,_,hj⟩:=Qw fm;have hj:j<st.length:=by omega
    have me:SokV kps V (wK ks (.int p) st[j]):=jw5 ao cu hVk hn hp fe hj;have da:=kwg me.ok;have go:Go rs (.tup [.int room,.tup ks]) (z,p) j (wK ks (.int p) st[j]):=⟨room,ks,st,gd,rfl,r0,er,ao,cu,hj,fm,rfl⟩;have ie:kZ (kv.map (·.1)) (wK ks (.int p) st[j])=((f1++[D.int j]).map (bh ks st p)).foldl kZ (((i8.map (·.1)).flatMap (v6 rs (z,p))).foldl kZ []):=by
     rw[Xp,List.map_cons,List.map_nil,qzs,<-hk,Q3 hj]
    have qf:=kwj hki me;have hf1:k6 (qQ z ks (.int p)) 0 st=(f1++[D.int j])++ds:=by rw[hf];simp
    simp![];refine(kzr (d:=.int p) r0 er ao hj).use ?_;intro _ _;simp![wwu da (kks hki)]
    by_cases hm:wK ks (.int p) st[j]∈kv.map (·.1)
    ·have lh:decide (wK ks (.int p) st[j]∈kv.map (·.1))=true:=Xb hm;simp![lh];rw[vql hm]at ie qf;exact⟨f1++[.int j],kv,hf1,ie,qf,hwd⟩
    ·have lh:decide (wK ks (.int p) st[j]∈kv.map (·.1))=false:=Xa hm;simp![lh];refine vzj ?_;have bd:jx (.no,.lst (xV L)) (.no,.lst [.int j])=some (.rt,.lst (xV L++[.int j])):=kzt (by decide) (by decide) (by simp;omega);simp![bd];refine⟨⟨kv,rfl⟩,kv,rfl,da,⟨by have:=kva hki k4 h3 hV;rw[X4]at this;omega,kks hki⟩,f1++[.int j],K5 kv (wK ks (.int p) st[j]) (.lst (xV L++[.int j])),hf1,by rw[kxk];exact ie,by rw[kxk];exact qf,?_⟩;unfold K5;rw[Xd hm];intro e he';rcases List.mem_append.mp he' with q|q
     ·exact hwd e q
     ·rw[List.mem_singleton.mp q];exact⟨L++[((z,p),j)],by simp[xV],by simp[hLp],dq.snoc go⟩
   ·rintro E ⟨f1,kv,hf,hk,hki,hwd⟩;rw[Xv]at hf;refine⟨i8++[(.tup [.int room,.tup ks],.lst (xV L))],i6,kv,rfl,by rw[he];simp,?_,hki,hwd⟩;rw[hk,<-hf,Xp,List.flatMap_append,List.foldl_append,List.map_cons,List.map_nil,List.flatMap_singleton,fk]
 ·rintro E ⟨i8,i6,kv,hr,he,hk,hki,hwd⟩;cases i6 with
  |cons=>cases hr
  |nil=>
   rw[Xv]at he;subst he;simp![];exact⟨kv,rfl,hk,hwd⟩
theorem vz6{ss:List Str}{rs:List D}{kps:List Int}{s:D}(hx:Rx ss kps rs)(h:Sok kps s):Oo m_is_good_at [(.no,kz ss rs),(.no,s)] (λy=>∃_:Unit,y=(.no,.bl (xK rs s))/\True) noX:=by
 obtain⟨room,ks,rfl,r0,r1,hl,cu⟩:=h;obtain⟨gd,st,e,_⟩:=hx.2 room.toNat (by omega);have hi:jV (.lst rs) (.int room)=some (.tup [.int (kps.getD room.toNat 0),.bl gd,.lst st]):=v9 r0 e;have hg:xK rs (.tup [.int room,.tup ks])=gd:=by
  unfold xK;dsimp only;rw[X2,e];rfl
 unfold m_is_good_at;refine kX ?_;simp![p0,p1,t1,hi,hg]
 first|trivial|exact⟨(),trivial⟩|exact⟨(),rfl,trivial⟩
theorem vv9{gm:List Str}{kps:List Int}{rs V:List D}(hR:Rms rs)(hx:Rx gm kps rs)(hn:D.non∈V):∀{ws:List (Str×Int)} {K:List D},(∀w∈ws,D.int w.2∈V)->Kin kps V K->Kin kps V (zj rs ws K)
 |[],_,_,h=>h
 |w::ws,_,hp,h=>vv9 hR hx hn (ws:=ws) (λv hv=>hp v (lc9 _ hv)) (vw7 hR hx hn (hp w X3) h)
theorem qki{rs:List D}{w:Str×Int}:∀{ws:List (Str×Int)} {K:List D},zj rs (ws++[w]) K=stepK rs w (zj rs ws K)
 |[],_=>rfl
 |v::ws,K=>qki (ws:=ws) (K:=stepK rs v K)
abbrev rwD(ws:List (Str×Int)):List D:=ws.map λw=>.tup [.str w.1,.int w.2]
theorem jxk{ss:List Str}{kps:List Int}{rs V:List D}{kp:Int}{gd st0:D}(hR:Rmw rs)(hx:Rx ss kps rs)(hn:D.non∈V)(ez:rs[0]?=some (.tup [.int kp,gd,st0]))(iy:0<=kp):Kin kps V [.tup [.int 0,.tup (List.replicate kp.toNat .non)]]:=by
 have h1:=hR.1;have h2:=hx.1;obtain⟨mw,cz,e,_⟩:=hx.2 0 (by omega);rw[ez]at e;injection e with e;injection e with e;injection e with e _;injection e with e;refine⟨List.nodup_cons.mpr ⟨Xw,Xx⟩,λs hs=>?_⟩;rw[List.mem_singleton.mp hs];refine⟨0,_,rfl,by decide,by omega,?_,λk hk=>.inl (List.eq_of_mem_replicate hk),λk hk=>by rw[List.eq_of_mem_replicate hk];exact hn⟩;rw[Yc,show(0:Int).toNat=0 from rfl,<-e];omega
inductive WB1 (ss:List Str)(rs:List D)(s0:D)(ws:Lws):En->List D->Prop
 |mk (w1:Lws) (w2:Lws) (kv:Kvs) {l3:Option Sd} {l4:Option Sd} {jw:List D} (h0:jw=rwD w2) (h1:ws=w1++w2) (h2:kv.map (·.1)=zj rs w1 [s0]) (h3:Wd rs s0 w1 kv):WB1 ss rs s0 ws [some (.no,kz ss rs),some (.no,.lst (rwD ws)),some (.rt,.dct kv),l3,l4,none,none] jw
inductive WB2 (ss:List Str)(rs:List D)(ws:Lws)(kv:Kvs):En->List D->Prop
 |mk (i8:Kvs) (i6:Kvs) {o2:Own} {l3:Option Sd} {l4:Option Sd} {l5:Option Sd} {l6:Option Sd} {jw:List D} (h0:jw=i6.map (λe=>D.tup [e.1,e.2])) (h1:kv=i8++i6) (h2:(i8.map (·.1)).any (xK rs)=false):WB2 ss rs ws kv [some (.no,kz ss rs),some (.no,.lst (rwD ws)),some (o2,.dct kv),l3,l4,l5,l6] jw
theorem kx2{ss:List Str}{rs V:List D}{kps:List Int}{kp:Int}{gd st0:D}(ws:List (Str×Int))(hR:Rms rs)(hx:Rx ss kps rs)(h3:∀k∈kps,k<=3)(hV:V.length<=6)(hn:D.non∈V)(hp:∀w∈ws,D.int w.2∈V)(lx:ws.length<=1000)(ez:rs[0]?=some (.tup [.int kp,gd,st0]))(iy:0<=kp)(dl:kp<=3):
  Oo m_way_by [(.no,kz ss rs),(.no,.lst (rwD ws))] (λy=>∃o d,y=(o,d)/\(((zj rs ws [.tup [.int 0,.tup (List.replicate kp.toNat .non)]]).any (xK rs)=true/\∃(L:Lg) (s:D),d=.lst (xV L)/\L.map (·.1)=ws/\Chain rs (.tup [.int 0,.tup (List.replicate kp.toNat .non)]) L s/\xK rs s=true/\Sok kps s)\/((zj rs ws [.tup [.int 0,.tup (List.replicate kp.toNat .non)]]).any (xK rs)=false/\d=.non))) noX:=by
 have k4:kps.length<=4:=by have:=hx.1;have:=hR.2.1;omega
 have fi:=jxk hR hx hn ez iy;have ff:=fun {us:List (Str×Int)} (hu:∀w∈us,D.int w.2∈V)=>vv9 hR hx hn hu fi
 generalize lc:(D.tup [.int 0,.tup (List.replicate kp.toNat .non)])=s0 at *;unfold m_way_by;refine kX ?_;simp![↓vv6];refine(qqa (gd:=gd) (st:=st0) ez iy (by omega)).use ?_;intro _ _;simp![];rw [lc];refine⟨kwg (fi.2 s0 X3).ok,?_⟩;refine vZ (WB1 ss rs s0 ws) ?_ ?_ ?_
 ·simp![];refine⟨[],ws,[(s0,.lst [])],rfl,rfl,rfl,λe he=>?_⟩;rw [List.mem_singleton.mp he];exact⟨[],rfl,rfl,rfl⟩
 ·rintro E d ds ⟨w1,w2,kv,hr,he,hk,hwd⟩;cases w2 with
  | nil=>cases hr
  | cons w w2=>
   obtain⟨z,p⟩:=w;rw [show rwD ((z,p)::w2)=D.tup [.str z,.int p]::rwD w2 from rfl]at hr;injection hr with e1 e2;subst e1 e2;have hl:=congrArg List.length he;rw [Xi,Xr]at hl;have ll:Kin kps V (kv.map (·.1)):=by rw[hk];exact ff λw hw=>hp w (by rw[he];exact ll9 _ hw)
   simp![];refine(qqr z p hR hx h3 hV hn (hp (z,p) (by rw[he];simp)) ll hwd (by omega)).use ?_;intro kv' tf;simp![];exact⟨w1++[(z,p)],w2,kv',rfl,by rw[he];simp,by rw[tf.1,hk,qki],tf.2⟩
 ·rintro E ⟨w1,w2,kv,hr,he,hk,hwd⟩;cases w2 with
  | cons=>cases hr
  | nil=>
   rw [Xv]at he;subst he;have ll:Kin kps V (kv.map (·.1)):=by rw[hk];exact ff hp
   have m8:kv.length<=10000:=by have:=kva ll k4 h3 hV;rw[X4]at this;omega
   rw [<-hk];simp![];refine vZ (WB2 ss rs ws kv) ?_ ?_ ?_
   ·simp![↓qw5,qze m8 (kks ll)];exact⟨[],kv,rfl,rfl,rfl⟩
   ·rintro E d ds ⟨i8,i6,hr,he,hb⟩;cases i6 with
    | nil=>cases hr
    | cons q i6=>
     obtain⟨s,wv⟩:=q;rw[List.map_cons]at hr;injection hr with e1 e2;subst e1 e2;have hs:=ll.2 s (by rw[he];simp);obtain⟨L,ew,hLp,dq⟩:=hwd (s,wv) (by rw[he];simp);have ew:wv=.lst (xV L):=ew;subst ew;simp![];refine(vz6 hx hs.ok).use ?_;intro _ _;cases hg:xK rs s with
     |true=>
      simp![hg];refine⟨_,_,rfl,.inl ⟨?_,L,s,rfl,hLp,dq,hg,hs.ok⟩⟩;rw[he,List.any_eq_true];exact⟨s,by simp,hg⟩
     |false=>
      simp![hg];refine⟨i8++[(s,.lst (xV L))],i6,rfl,by rw[he];simp,?_⟩;rw[Xp,List.any_append,hb];simp[hg]
   ·rintro E ⟨i8,i6,hr,he,hb⟩;cases i6 with
    |cons=>cases hr
    |nil=>
     rw[Xv]at he;subst he;simp![];exact⟨_,_,rfl,.inr ⟨hb,rfl⟩⟩
theorem qvi{ss:List Str}{rs V:List D}{kps:List Int}{kp:Int}{gd st0:D}(ws:List (Str×Int))(hR:Rms rs)(hx:Rx ss kps rs)(h3:∀k∈kps,k<=3)(hV:V.length<=6)(hn:D.non∈V)(hp:∀w∈ws,D.int w.2∈V)(lx:ws.length<=1000)(ez:rs[0]?=some (.tup [.int kp,gd,st0]))(iy:0<=kp)(dl:kp<=3):
  Oo m_lets_by [(.no,kz ss rs),(.no,.lst (rwD ws))] (λy=>∃_:Unit,y=(.dp,.bl ((zj rs ws [.tup [.int 0,.tup (List.replicate kp.toNat .non)]]).any (xK rs)))/\True) noX:=by
 unfold m_lets_by;refine kX ?_;simp![];refine(kx2 ws hR hx h3 hV hn hp lx ez iy dl).use2 ?_;rintro o d (⟨e,L,s,rfl,_⟩|⟨e,rfl⟩)
 ·simp![];exact⟨(),by rw[e],trivial⟩
 ·simp![];exact⟨(),by rw[e],trivial⟩
noncomputable section
def rnD(r:Int->Int):D->D
 |.int i=>.int (r i)
 |d=>d
noncomputable def rnS(r:Int->Int):D->D
 |.tup [a,.tup ks]=>.tup [a,.tup (ks.map (rnD r))]
 |d=>d
end
abbrev nmV(N:List Int):List D:=D.non::N.map D.int
noncomputable def Inj(r:Int->Int)(N:List Int):Prop:=∀a∈N,∀b∈N,r a=r b->a=b
section
variable {r:Int->Int}{N:List Int}
theorem wqq{d:D}(h:d∈nmV N):d=.non\/∃i∈N,d=.int i:=by
 rcases List.mem_cons.mp h with h|h
 ·exact .inl h
 ·obtain⟨i,hi,e⟩:=List.mem_map.mp h;exact .inr ⟨i,hi,e.symm⟩
theorem vvi(hr:Inj r N){a b:D}(ha:a∈nmV N)(hb:b∈nmV N):peq (rnD r a) (rnD r b)=peq a b:=by
 rcases wqq ha with rfl|⟨i,hi,rfl⟩<;>rcases wqq hb with rfl|⟨j,hj,rfl⟩
 ·rfl
 ·rfl
 ·rfl
 ·show(r i==r j)=(i==j)
  by_cases h:i=j
  ·subst h;simp
  ·rw[beq_false_of_ne h,beq_false_of_ne λz=>h (hr i hi j hj z)]
theorem qzo{ks:List D}{i:Nat}:(ks.map (rnD r)).getD i .non=rnD r (ks.getD i .non):=by
 rw[X2,X2,Xg];cases ks[i]?<;>rfl
theorem vzd(hr:Inj r N){ks:List D}{p:Int}{g:D}(hk:∀k∈ks,k∈nmV N)(hp:p∈N)(hg:Gd ks.length g):vJ (ks.map (rnD r)) (.int (r p)) g=vJ ks (.int p) g:=by
 have nu:D.int p∈nmV N:=lc9 _ (Xe hp);rcases hg with rfl|rfl|⟨i,h0,h1,rfl⟩
 ·show(if(Str.ofString "fresh")=(Str.ofString "fresh")then(!(ks.map (rnD r)).any λz=>peq z (.int (r p)))else true)=(if(Str.ofString "fresh")=(Str.ofString "fresh")then(!ks.any λz=>peq z (.int p))else true);rw[X9 rfl,X9 rfl,List.any_map]
  congr 1
  have:∀{l:List D},(∀k∈l,k∈nmV N)->(l.any ((λz=>peq z (.int (r p)))∘rnD r))=l.any λz=>peq z (.int p):=by
   intro l
   induction l with
   |nil=>intro _;rfl
   |cons a l ih=>
    intro h;rw[Z5,Z5,ih λk hk=>h k (lc9 _ hk)]
    congr 1
    exact vvi hr (h a X3) nu
  exact this hk
 ·show(if(Str.ofString "any")=(Str.ofString "fresh")then(!(ks.map (rnD r)).any λz=>peq z (.int (r p)))else true)=(if(Str.ofString "any")=(Str.ofString "fresh")then(!ks.any λz=>peq z (.int p))else true);rw[Xd s4,Xd s4]
 ·show peq ((ks.map (rnD r)).getD i.toNat .non) (.int (r p))=peq (ks.getD i.toNat .non) (.int p);rw[qzo];exact vvi hr (hk _ (J7 ks i h0 h1)) nu
theorem kq1{p q:D->Bool}:∀{l:List D} {k:Nat},(∀s∈l,p s=q s)->k6 p k l=k6 q k l
 |[],_,_=>rfl
 |s::l,k,h=>by
  unfold k6;rw[h s X3,kq1 (l:=l) (k:=k+1) λt ht=>h t (lc9 _ ht)]
theorem vzm(hr:Inj r N){ks:List D}{p:Int}{z:Str}{s:D}(hk:∀k∈ks,k∈nmV N)(hp:p∈N)(hs:St ks.length s):qQ z (ks.map (rnD r)) (.int (r p)) s=qQ z ks (.int p) s:=by
 obtain⟨w,g,to,fs,rfl,hg,_,_⟩:=hs;show((w==z)&&vJ (ks.map (rnD r)) (.int (r p)) g)=((w==z)&&vJ ks (.int p) g);rw[vzd hr hk hp hg]
theorem wqw(hr:Inj r N){ks st:List D}{p:Int}{z:Str}(hk:∀k∈ks,k∈nmV N)(hp:p∈N)(hs:∀s∈st,St ks.length s):k6 (qQ z (ks.map (rnD r)) (.int (r p))) 0 st=k6 (qQ z ks (.int p)) 0 st:=kq1 λs h=>vzm hr hk hp (hs s h)
theorem vz3{ks:List D}{p:Int}{f:D}(hf:Fd ks.length f):vK (ks.map (rnD r)) (.int (r p)) f=rnD r (vK ks (.int p) f):=by
 rcases hf with rfl|rfl|⟨i,h0,h1,rfl⟩
 ·rfl
 ·rfl
 ·exact qzo
theorem vjv{ks:List D}{p:Int}{s:D}(hs:St ks.length s):wK (ks.map (rnD r)) (.int (r p)) s=rnS r (wK ks (.int p) s):=by
 obtain⟨w,g,to,fs,rfl,_,hf,_⟩:=hs;show D.tup [.int to,.tup (fs.map (vK (ks.map (rnD r)) (.int (r p))))]=.tup [.int to,.tup ((fs.map (vK ks (.int p))).map (rnD r))];rw[Y2]
 congr 4
 exact Y5 λf h=>vz3 (hf f h)
theorem vqa(hr:Inj r N){gm:List Str}{kps:List Int}{rs:List D}{w:Str×Int}{s:D}(hR:Rms rs)(hx:Rx gm kps rs)(hp:w.2∈N)(h:SokV kps (nmV N) s):v6 rs (w.1,r w.2) (rnS r s)=(v6 rs w s).map (rnS r):=by
 obtain⟨ac,av,e',_,_,_,_,hV⟩:=id h;obtain⟨room,ks,st,gd,rfl,r0,er,ao,cu,fe,ic⟩:=V3 hR hx h.ok;injection e' with e';injection e' with _ e';injection e' with e' _;injection e' with e';subst e';unfold v6;rw[show rnS r (.tup [.int room,.tup ks])=.tup [.int room,.tup (ks.map (rnD r))]from rfl,Qq er,Qq er,vX,vX,Y2];show(k6 (qQ w.1 (ks.map (rnD r)) (.int (r w.2))) 0 st).map _=_;rw[wqw hr hV hp ao];refine Y5 λd hd=>?_
 obtain⟨j,rfl,_,hj⟩:=Qw hd;show bh (ks.map (rnD r)) st (r w.2) (.int j)=rnS r (bh ks st w.2 (.int j));rw[Q3 (by omega),Q3 (by omega),vjv (ao _ (Xh _))]
end
end C
namespace B
open Q PySem C
abbrev Sn:=Option (Int×List Int)
def nms:Sn->List Int
 |none=>[]
 |some p=>p.2
def rmO:Sn->Int
 |none=>-1
 |some p=>p.1
noncomputable def held(o t:List Int):List Int:=o++t.filter λn=>!(o.any λw=>w==n)
noncomputable def ww5(t:List Int):Nat->List Int->List (Int×Int)
 |_,[]=>[]
 |k,n::o=>if(t.any λw=>w==n)=true then((k:Int),((t.findIdx λw=>w==n:Nat):Int))::ww5 t (k+1) o else ww5 t (k+1) o
abbrev prs(l:List (Int×Int)):List D:=l.map λp=>.tup [.int p.1,.int p.2]
noncomputable def WK(a b:Sn):D:=.tup [.int (rmO a),.int (rmO b),.tup (prs (ww5 (nms b) 0 (nms a)))]
end B
namespace B
open PySem Q
noncomputable def kwd:Fn:=fn 5
  (j5 (jk 2 (k8 .rt []))
  (j5 (sIf (tE (cF2 (pu2 fEq) (vE (cF2 (pu2 jY) (vV 0) (C9 2))) (C9 1))) (j5 (jk 0 (cF2 (pu2 wZ) (vV 0) (C9 2)))
  (j5 (qX (vz (vV 1)) (.n 3) (j5 (qK qJ 2 (cF2 (pu2 jY) (vV 0) (C9 2147483647)))
  (jk 0 (cF2 (pu2 wZ) (vV 0) (C9 2147483647)))))
  (jz (cMv 2)))) k9)
  (j5 (jk 4 (cF2 jx (vE (cF2 (pu2 jY) (vE (cF2 (pu2 wZ) (vV 0) (C9 2))) (C9 2147483647))) (C9 48271)))
  (j5 (qX (vz (vE (cF2 jx (vV 1) (C9 1)))) (.n 3) (j5 (jk 4 (cF2 (pu2 jY) (vE (cF2 jx (vE (cF2 jx (vE (cF2 jX (vV 4) (vV 4))) (vE (cF2 jX (C9 48271) (vV 4))))) (vV 3))) (C9 2147483647)))
  (qK qJ 2 (cF2 (pu2 jY) (vE (cF2 jx (vE (cF2 jX (vV 4) (C9 40692))) (vE (cF2 jX (C9 7) (vV 3))))) (C9 2147483399)))))
  (jz (cSl (vV 2) (some (C9 1)) none))))))
noncomputable def m__law_signs:Fn:=fn 7
  (j5 (jk 1 (cC (.str "abcdefghijklmnopqrstuvwxyz")))
  (j5 (jk 2 (jK kwd [(cV 0),(cC (.int 9))]))
  (j5 (jk 3 (wxg "" (vE (cLC .rt 1 [1] (itS (cSl (vV 2) none (some (vE (cF2 jx (C9 1) (vE (cF2 (pu2 jY) (vV 0) (C9 8)))))))) (.n 0) tYes (cH (j6 (vV 1) (vE (cF2 (pu2 jY) (vV 0) (C9 26)))))))))
  (j5 (jk 4 (cF2 (pu2 jY) (vE (cF2 (pu2 wZ) (vV 0) (C9 8))) (vE (cF1 (pu1 kY) (vV 3)))))
  (j5 (jk 5 (k8 .rt []))
  (j5 (qX (vz (j6 (vE (k8 .rt [(cC (.int 1)),(cC (.int 2)),(cC (.int 1)),(cC (.int 2)),(cC (.int 2)),(cC (.int 1)),(cC (.int 2)),(cC (.int 3))])) (vE (cF2 (pu2 jY) (vE (cF2 (pu2 wZ) (vV 0) (C9 64))) (C9 8))))) (.n 6) (qK qJ 5 (cF2 jx (vE (cF2 jx (vE (cSl (vV 3) none (some (vV 4)))) (j6 (vV 1) (vE (cF2 jx (vE (cF2 (pu2 jY) (j6 (vV 2) (C9 8)) (C9 24))) (vV 6)))))) (vE (cSl (vV 3) (some (vE (cF2 jx (vV 4) (C9 1)))) none)))))
  (jz (cMv 5))))))))
noncomputable def m__law_fills:Fn:=fn 6
  (j5 (jk 3 (W0 (vV 2)))
  (j5 (jk 4 (k8 .rt []))
  (j5 (qX (vz (vV 1)) (.n 5) (j5 (qK qJ 4 (cPop 3 (vE (cF2 (pu2 jY) (vV 0) (vE (cF1 (pu1 kY) (vV 3)))))))
  (jk 0 (cF2 jx (vE (cF2 (pu2 wZ) (vV 0) (C9 7))) (vE (cF2 jX (C9 5) (vV 5)))))))
  (jz (cF1 z3 (vV 4))))))
end B
namespace B
open Q PySem C
noncomputable def St(n:Int)(xs:List Int):Prop:=(xs.length:Int)=n/\∀x∈xs,0<=x/\x<2147483647
theorem VW:KZ (.int 1)=some (.int (-1)):=rfl
def nmV(k:Nat):Int:=(k:Int)*k - (10 ^ 60 - 1)
noncomputable def vK(S:Sn)(c:Int):D:=if c∈nms S then .int ((nms S).findIdx λw=>w==c:Nat)else .non
end B
namespace A
open PySem Q
noncomputable def kz1:Fn:=fn 3
  (j5 (sIf (tE (cF2 (pu2 fEq) (vE (cF2 (pu2 jY) (vV 0) (C9 2))) (C9 0))) (jz (cF2 (pu2 wZ) (vV 0) (vE (cF2 (pu2 fShl) (C9 2) (vE (cF2 jX (C9 8) (vV 1))))))) k9)
  (j5 (jk 2 (cF2 (pu2 jY) (vE (cF2 jX (vE (cF2 jx (vE (cF2 jx (vE (cF2 (pu2 jY) (vV 0) (C9 2147483647))) (vE (cF2 jX (C9 69621) (vV 1))))) (C9 7919))) (C9 48271))) (C9 2147483647)))
  (j5 (jk 2 (cF2 (pu2 jY) (vE (cF2 jX (vV 2) (vV 2))) (C9 2147483629)))
  (jz (cF2 (pu2 jY) (vE (cF2 jx (vE (cF2 jX (vV 2) (vV 2))) (vE (cF2 jX (C9 16807) (vV 1))))) (C9 2147483587))))))
noncomputable def kwe:Fn:=fn 1
  (j5 (sIf (tE (cF2 (pu2 fEq) (vE (cF2 (pu2 jY) (vV 0) (C9 3))) (C9 0))) (jz (cF2 (pu2 V5) (vE (cF2 (pu2 jY) (vE (cF2 (pu2 wZ) (vV 0) (C9 3))) (C9 19))) (C9 9))) k9)
  (jz (cF2 jx (vE (cF2 (pu2 V5) (vE (cF2 (pu2 jY) (vE (cF2 jX (vV 0) (vE (cF2 (pu2 zW) (C9 7919) (C9 15))))) (vE (cF2 (pu2 V5) (vE (cF2 jX (C9 2) (vE (cF2 (pu2 zW) (C9 10) (C9 60))))) (C9 1))))) (vE (cF2 (pu2 zW) (C9 10) (C9 60))))) (C9 1))))
noncomputable def XV:Fn:=fn 7
  (j5 (jk 3 (k8 .rt []))
  (j5 (qX (itS (cV 0)) (.n 4) (j5 (jk 5 (jK kz1 [(cV 4),(cC (.int 0))]))
  (j5 (jk 6 (cH (j6 (vV 1) (vE (cF2 (pu2 jY) (vE (cF2 (pu2 wZ) (vV 5) (C9 16))) (vE (cF1 (pu1 kY) (vV 1))))))))
  (j5 (sIf (tE (cF2 (pu2 fEq) (vE (cF2 (pu2 jY) (vE (cF2 (pu2 wZ) (vV 5) (C9 1024))) (C9 7))) (C9 1))) (jk 6 (jK kwe [(cV 4)])) k9)
  (qK qJ 3 (qw .no [(cH (j6 (vV 2) (vE (cF2 (pu2 jY) (vV 5) (vE (cF1 (pu1 kY) (vV 2))))))),(cV 6)]))))))
  (jz (cMv 3))))
end A
namespace F
open Q PySem C
noncomputable def m_names_held:Fn:=fn 3
  (j5 (jk 1 (k8 .rt []))
  (j5 (qX (itS (cV 0)) (.n 2) (sIf (tAnd (tE (cF2 (f2First fNotNon) (vV 2) (vE (cC .non)))) (tE (cF2 (pu2 wW) (vV 2) (vV 1)))) (qK qJ 1 (cV 2)) k9))
  (jz (cMv 1))))
noncomputable def m_places_among:Fn:=fn 2
  (jz (cF1 z3 (vE (cLC .rt 1 [0] (itS (cV 1)) (.n 0) tYes (cIf (tE (cF2 (f2First fIsNon) (vV 0) (vE (cC .non)))) (cC .non) (W5 (vV 1) (vV 0)))))))
noncomputable def m_plain_case:Fn:=fn 4
  (j5 (sIf (tE (cF2 (f2First fIsNon) (vV 0) (vE (cC .non)))) (jz (cC .non)) k9)
  (j5 (jk 2 (jK m_names_held [(cH (j6 (vV 0) (C9 1)))]))
  (j5 (jk 3 (qw .no [(cH (j6 (vV 0) (C9 0))),(jK m_places_among [(cV 2),(cH (j6 (vV 0) (C9 1)))])]))
  (jz (qw .no [(vjp 1 (vV 3) (vE (cF1 (pu1 Zx) (vV 1)))),(cF1 z3 (vV 2))])))))
noncomputable def m_only_behind(rz:Sm):Fn:=fn 5
  (j5 (jk 4 (jK C.m_fitting [(cV 0),(cV 1),(cV 2),(cV 3)]))
  (j5 (sIf (tE (cF2 (pu2 fGt) (vE (cF1 (pu1 kY) (vV 4))) (C9 1))) rz k9)
  (jz (cIf (tEQ (vV 4)) (jK C.m_behind [(cV 0),(cV 1),(cH (j6 (vV 4) (C9 0))),(cV 3)]) (cC .non)))))
noncomputable def m_plain_cases(rz:Sm):Fn:=fn 5
  (j5 (jk 4 (W0 (vE (cF2 jx (vE (cF1 (pu1 kY) (vE (jK m_names_held [(cH (j6 (vV 1) (C9 1)))])))) (C9 1)))))
  (jz (cLC .rt 1 [0,1,2,3] (itS (cV 4)) (.n 0) tYes (kzl m_plain_case 4 [(jK (m_only_behind rz) [(cV 1),(cV 2),(cV 3),(cV 0)])]))))
noncomputable def m_plain_of(rz:Sm):Fn:=fn 5
  (j5 (jk 1 (vjq (jK C.m_first_standing [(cV 0)]) (cC (.int 0))))
  (j5 (jk 2 (k8 .rt []))
  (j5 (sWhile (tE (cF2 (pu2 fLt) (vE (cF1 (pu1 kY) (vV 2))) (vE (cF1 (pu1 Zx) (vV 1))))) (j5 (jk 3 (cH (j6 (vE (cF1 XQ (vV 1))) (vE (cF1 (pu1 kY) (vV 2))))))
  (j5 (jk 4 (cLC .rt 1 [0,3,1] (itS (cH (j6 (vV 0) (C9 0)))) (.n 0) tYes (kzl (m_plain_cases rz) 3 [(cV 1),(cV 2),(cV 0)])))
  (qK qJ 2 (qw .no [(cF1 (pu1 kY) (vE (jK m_names_held [(cH (j6 (vV 3) (C9 1)))]))),(cH (j6 (j6 (j6 (vV 0) (C9 1)) (j6 (vV 3) (C9 0))) (C9 1))),(cV 4)])))))
  (jz (qw .no [(qw .no [(cF1 V8 (j6 (vV 0) (C9 0))),(cV 2)]),(cF1 XQ (vV 1))])))))
noncomputable def insI(acc:List Int):D->List Int
 |.int i=>if i∈acc then acc else acc++[i]
 |_=>acc
def j7(ks:List D):List Int:=ks.foldl insI []
theorem vxz(acc:List Int)(d:D):(insI acc d).length<=acc.length+1:=by
 unfold insI
 split
 ·split<;>simp
 ·omega
theorem qq7:∀(ks:List D) (acc:List Int),(ks.foldl insI acc).length<=acc.length+ks.length
 |[],_=>by simp
 |k::ks,acc=>by
  rw[Z2,Xr];have:=qq7 ks (insI acc k);have:=vxz acc k;omega
theorem KK(ks:List D):(j7 ks).length<=ks.length:=by
 have:=qq7 ks [];rw[List.length_nil,Nat.zero_add]at this;exact this
theorem vxy{acc:List Int}{d:D}{i:Int}(h:i∈acc):i∈insI acc d:=by
 unfold insI
 split
 ·split
  ·exact h
  ·exact ll9 _ h
 ·exact h
theorem qq6:∀{ks:List D} {acc:List Int} {i:Int},i∈acc->i∈ks.foldl insI acc
 |[],_,_,h=>h
 |k::ks,acc,i,h=>qq6 (ks:=ks) (vxy h)
theorem qzw:∀{ks:List D} {acc:List Int} {i:Int},D.int i∈ks->i∈ks.foldl insI acc
 | k::ks,acc,i,h=>by
  rw[Z2];rcases List.mem_cons.mp h with rfl|h
  ·refine qq6 ?_;unfold insI;dsimp only
   split
   ·assumption
   ·simp
  ·exact qzw h
theorem kv7{ks:List D}{i:Int}(h:D.int i∈ks):i∈j7 ks:=qzw h
theorem qzi{acc:List Int}(h:acc.Nodup)(d:D):(insI acc d).Nodup:=by
 unfold insI
 split
 ·split
  ·exact h
  ·rename_i i hi;rw[Xf];exact⟨h,by simp,λa ha b hb e=>by rw[List.mem_singleton.mp hb]at e;exact hi (e▸ha)⟩
 ·exact h
theorem qkv{p:Int}{ks:List Int}:wW (.int p) (iL ks)=some (.bl (!decide (p∈ks))):=by
 have h:=in_i (p:=p) (ks:=ks);rw[WY]at h;have h:fIn (.int p) (iL ks)=some (.bl (decide (p∈ks))):=h;show(fIn (.int p) (iL ks)).bind _=_;rw[h];rfl
theorem jze{ks:List D}(hk:∀k∈ks,At k)(hl:ks.length<=100):Oo m_names_held [(.no,.tup ks)] (λy=>∃_:Unit,y=(.rt,iL (j7 ks))/\True) noX:=by
 unfold m_names_held;refine kX ?_;simp![];refine vZ (λE jw=>∃(k1:List D) (l2:Option Sd),E=[some (.no,.tup ks),some (.rt,iL (j7 k1)),l2]/\ks=k1++jw) ?_ ?_ ?_
 ·simp![];exact⟨[],_,rfl,rfl⟩
 ·rintro E d ds ⟨k1,l2,rfl,he⟩;have ae:=congrArg List.length he;rw [Xi,Xr]at ae;have hb:=KK k1;have pw:j7 (k1++[d])=insI (j7 k1) d:=by unfold j7;rw[List.foldl_append];rfl
  rcases hk d (by rw[he];simp)with rfl|⟨i,rfl⟩
  ·simp![];exact⟨k1++[.non],_,by rw[pw];rfl,by rw[he];simp⟩
  ·by_cases hm:i∈j7 k1
   ·have hq:=qkv (p:=i) (ks:=j7 k1);rw[Xb hm]at hq;simp![hq];exact⟨k1++[.int i],_,by rw[pw];unfold insI;dsimp only;rw[X9 hm],by rw[he];simp⟩
   ·have hq:=qkv (p:=i) (ks:=j7 k1);rw[Xa hm]at hq;simp![hq];refine vY rfl ?_;simp![];have e4:(j7 k1).map D.int++[D.int i]=(j7 (k1++[.int i])).map D.int:=by
     rw[pw,show insI (j7 k1) (.int i)=j7 k1++[i]from Xd hm,Xp];rfl
    exact⟨_,rfl,by simp;omega,k1++[.int i],_,by rw[e4],by rw[he];simp⟩
 ·rintro E ⟨k1,l2,rfl,he⟩;rw[Xv]at he;subst he;simp![]
  first|trivial|exact⟨(),trivial⟩|exact⟨(),rfl,trivial⟩
noncomputable def plc(ns:List Int):D->D
 |.int i=>.int (ns.findIdx λw=>w==i:Nat)
 |d=>d
def pr(ks:List D):List D:=ks.map (plc (j7 ks))
theorem qzl{p:Int}{ks:List Int}(h:(ks.any λw=>w==p)=true):kve (iL ks) (.int p)=some (.int (ks.findIdx λw=>w==p:Nat)):=by
 show(if(D.int p).flat 30&&D.flats 30 (ks.map D.int)then((ks.map D.int).findIdx? λw=>peq w (.int p)).map λ(j:Nat)=>D.int (j:Int)else none)=_;rw[show(D.int p).flat 30=true from rfl,xZ (ks:=ks.map D.int) (λk hk=>by obtain⟨w,_,rfl⟩:=List.mem_map.mp hk;rfl),List.findIdx?_map];have:ks.findIdx? ((λw=>peq w (.int p))∘D.int)=ks.findIdx? λw=>w==p:=rfl
 rw[this,kwn h];rfl
theorem qx7{ks:List D}(hk:∀k∈ks,At k):Oo m_places_among [(.no,iL (j7 ks)),(.no,.tup ks)] (λy=>∃_:Unit,y=(.no,.tup (pr ks))/\True) noX:=by
 unfold m_places_among;refine kX ?_;simp![];refine Kj [some (.no,iL (j7 ks))] (λd y=>y.2=plc (j7 ks) d) ?_;simp![];refine⟨rfl,λd hd=>?_,λys hy=>?_⟩
 ·rcases hk d hd with rfl|⟨i,rfl⟩
  ·simp![];exact⟨⟨_,rfl⟩,rfl⟩
  ·have hm:((j7 ks).any λw=>w==i)=true:=by rw[WY];exact Xb (kv7 hd)
   simp![qzl hm];exact⟨⟨_,rfl⟩,rfl⟩
 ·rw[z7,Vz (h:=plc (j7 ks)) (λd y h=>h) hy];simp only[back,clr,at',List.map_cons,List.map_nil,List.set_cons_zero,List.set_cons_succ];simp![J5 (o:=.no) (xs:=ks.map (plc (j7 ks))) (by decide)]
  first|trivial|exact⟨(),trivial⟩|exact⟨(),rfl,trivial⟩
noncomputable def wQ:Nat->List D->List (D×D)
 |_,[]=>[]
 |n,d::K=>(d,.int n)::wQ (n+1) K
def vq(K:List D):List (D×D):=wQ 0 K
theorem qw3:∀(a b:List D) (n:Nat),wQ n (a++b)=wQ n a++wQ (n+a.length) b
 |[],b,n=>by simp[wQ]
 |d::a,b,n=>by
  rw[List.cons_append,wQ,wQ,qw3 a b (n+1),List.cons_append,Xr]
  congr 3
  omega
theorem qj0:∀(K:List D) (n:Nat),(wQ n K).length=K.length
 |[],_=>rfl
 |d::K,n=>by rw[wQ,Xr,qj0 K,Xr]
theorem kvo:∀(K:List D) (n:Nat),(wQ n K).map (·.1)=K
 |[],_=>rfl
 |d::K,n=>by rw[wQ,List.map_cons,kvo K]
theorem qk7:∀(K:List D) (n:Nat),D.pures ((wQ n K).map (·.2))=true
 |[],_=>rfl
 |d::K,n=>by
  rw[wQ,List.map_cons];show(D.pure (.int n)&&D.pures ((wQ (n+1) K).map (·.2)))=true;rw[qk7 K];rfl
theorem qw2:∀(K:List D) (n:Nat) (p:D),xx (wQ n K) p=if p∈K then some (.int (n+K.idxOf p:Nat))else none
 | [],_,p=>by simp[wQ,xx]
 | d::K,n,p=>by
  by_cases h:d=p
  ·subst h;unfold xx;rw[wQ,List.find?_cons_of_pos (by simp),X9 X3];simp
  ·have ih:=qw2 K (n+1) p;have e:xx (wQ n (d::K)) p=xx (wQ (n+1) K) p:=by
    unfold xx;rw[wQ,List.find?_cons_of_neg (by simpa using h)]
   rw[e,ih]
   by_cases hm:p∈K
   ·rw[X9 hm,X9 (lc9 _ hm),List.idxOf_cons,show(d==p)=false by simpa using h]
    congr 2
    simp;omega
   ·rw[Xd hm,Xd (λz=>by rcases List.mem_cons.mp z with z|z;exact h z.symm;exact hm z)]
theorem qw4(K:List D)(p:D):vq (K++[p])=vq K++[(p,.int K.length)]:=by
 unfold vq;rw[qw3,Nat.zero_add];rfl
theorem vz1(K:List D)(p:D):((kZ K p).idxOf p:Int)=if p∈K then(K.idxOf p:Int)else K.length:=by
 unfold kZ
 by_cases h:p∈K
 ·rw[X9 h,X9 h]
 ·rw[Xd h,Xd h,List.idxOf_append,Xd h];simp
noncomputable def wV(K:List D)(s:D):List D×D:=match s with
 |.tup [room,.tup ks]=>(kZ K (.tup [room,.tup (pr ks)]),.tup [.int ((kZ K (.tup [room,.tup (pr ks)])).idxOf (.tup [room,.tup (pr ks)]):Nat),iT (j7 ks)])
 |_=>(K,.non)
theorem vzn{ks K:List D}{room:Int}(hk:∀k∈ks,At k)(hl:ks.length<=6)(hK:K.length<9000)(da:vW (.tup [.int room,.tup (pr ks)])=true)(hu:unm (vq K)=true):
  Oom m_plain_case [(.no,.tup [.int room,.tup ks]),(.rt,.dct (vq K))] 1 (λy x'=>y=(.no,(wV K (.tup [.int room,.tup ks])).2)/\x'=(.rt,.dct (vq (wV K (.tup [.int room,.tup ks])).1))) noX:=by
 unfold m_plain_case;refine qxe ?_;refine kxq (wkz ?_);simp![];refine vq7 ?_;simp![];refine kxq (vq7 ?_);simp![p1];refine(jze hk (by omega)).use ?_;intro _ _;simp![];refine kxq (vq7 ?_);simp![p0,p1];refine(qx7 hk).use ?_;intro _ _;simp![];refine qxf ?_;simp![];refine vwc hu ?_;simp![qz1 hu];have hz:=qw2 K 0 (.tup [.int room,.tup (pr ks)]);have mo:(vq K).length=K.length:=qj0 K 0;refine⟨vq K,rfl,⟨da,by rw[mo];omega,hu,qk7 _ _⟩,λd hd=>?_,λhn=>?_⟩
 ·have hm:(D.tup [.int room,.tup (pr ks)])∈K:=by
   by_cases hm:(D.tup [.int room,.tup (pr ks)])∈K
   ·exact hm
   ·rw[Xd hm]at hz;unfold vq at hd;rw[hz]at hd;cases hd
  rw[X9 hm,Nat.zero_add]at hz;unfold vq at hd;rw[hz]at hd;cases oq9 hd;have e1:kZ K (.tup [.int room,.tup (pr ks)])=K:=by unfold kZ;rw[X9 hm]
  simp![J5 (o:=.no) (xs:=(j7 ks).map D.int) (by decide)];show _/\_;unfold wV;dsimp only;rw[e1];exact⟨rfl,rfl⟩
 ·have hm:(D.tup [.int room,.tup (pr ks)])∉K:=λhm=>by
   rw[X9 hm]at hz;unfold vq at hn;rw[hz]at hn;cases hn
  have e1:kZ K (.tup [.int room,.tup (pr ks)])=K++[.tup [.int room,.tup (pr ks)]]:=by unfold kZ;rw[Xd hm]
  have e2:=vz1 K (.tup [.int room,.tup (pr ks)]);rw[Xd hm]at e2;simp![J5 (o:=.no) (xs:=(j7 ks).map D.int) (by decide),mo];show _/\_;unfold wV;dsimp only;rw[e2,e1,qw4];exact⟨rfl,rfl⟩
theorem vjg{K:List D}:Oom m_plain_case [(.no,.non),(.rt,.dct (vq K))] 1 (λy x'=>y.2=.non/\x'=(.rt,.dct (vq K))) noX:=by
 unfold m_plain_case;refine qxe ?_;refine kxq (wkz ?_);simp![];refine qxf ?_;simp![]
 first|rfl|exact⟨rfl,rfl⟩
end F
namespace F
open Q PySem C
noncomputable def obD(rs:List D)(s:D)(z:Str)(p:Int):Option D:=match v6 rs (z,p) s with
 |[]=>some .non
 |[d]=>some d
 |_=>none
noncomputable def wvs(rz:Sm):Prop:=∀(e:Option Sd) (E:En) (N C:En->Prop) (R:Sd->Prop) (X:XP),X "NotSingle"->Po (rz (e::E)) N C R X
theorem vxf{rz:Sm}{ss:List Str}{rs V:List D}{kps:List Int}{s:D}{z:Str}{p:Int}{X:XP}(hR:Rmw rs)(hx:Rx ss kps rs)(hs:SokV kps V s)(hz:obD rs s z p=none->wvs rz/\X "NotSingle"):
  Oo (m_only_behind rz) [(.no,kz ss rs),(.no,s),(.no,.str z),(.no,.int p)] (λy=>obD rs s z p=some y.2) X:=by
 obtain⟨room,ks,st,gd,rfl,r0,er,ao,cu,fe,ic⟩:=V3 hR hx hs.ok;have iq:At (.int p):=.inr ⟨p,rfl⟩;have fk:v6 rs (z,p) (.tup [.int room,.tup ks])=(k6 (qQ z ks (.int p)) 0 st).map (bh ks st p):=by unfold v6;rw[Qq er,vX]
 unfold m_only_behind;refine kX ?_;simp![];refine(kvd r0 er ao cu iq).any.use ?_;intro _ _;unfold obD at hz ⊢;rw [fk]at hz ⊢;cases hf:k6 (qQ z ks (.int p)) 0 st with
 | nil=>
  have n8:fGt (.int (([]:List D).length:Nat)) (.int 1)=some (.bl false):=rfl;simp![n8]
  first|rfl|trivial
 | cons c r=>
  rw[hf]at hz;obtain⟨j,rfl,_,hj⟩:=Qw (show c∈k6 (qQ z ks (.int p)) 0 st by rw[hf];exact X3);have hj:j<st.length:=by omega
  cases r with
  | nil=>
   have mx:jV (.lst [.int j]) (.int 0)=some (.int j):=rfl;have n8:fGt (.int (([.int j]:List D).length:Nat)) (.int 1)=some (.bl false):=rfl;simp![n8,mx];rw[Xd (by decide),X9 (by rfl)];refine(kzr r0 er ao hj).any.use ?_;intro _ _;rw[Q3 hj]
  | cons c2 r2=>
   have n8:fGt (.int ((.int j::c2::r2:List D).length:Nat)) (.int 1)=some (.bl true):=by
    show some (D.bl (decide ((1:Int)<((.int j::c2::r2:List D).length:Nat))))=_;rw[Xb (by simp;omega)]
   simp![n8];rw[X9 (Xb (by omega))];obtain⟨h1,h2⟩:=hz rfl;exact h1 _ _ _ _ _ _ h2
def V4:List D:=[.non,.int 0,.int 1,.int 2,.int 3]
theorem v4I{p:Int}(h0:0<=p)(h1:p<4):D.int p∈V4:=by
 obtain⟨i,rfl⟩:=Yx h0;rcases vzb i (Int.ofNat_lt.mp h1)with rfl|rfl|rfl|rfl<;>simp[V4]
theorem vxj{ss:List Str}{rs:List D}{kps:List Int}{s d:D}{z:Str}{p:Int}(hR:Rmw rs)(hx:Rx ss kps rs)(hs:SokV kps V4 s)(hp:D.int p∈V4)(h:obD rs s z p=some d):d=.non\/SokV kps V4 d:=by
 have hn:=kjw (w:=(z,p)) hR hx (by simp[V4]) hp hs;unfold obD at h
 split at h
 ·cases h;exact .inl rfl
 ·rename_i d' e;cases h;exact .inr (hn d (by rw[e];exact List.mem_singleton.mpr rfl))
 ·cases h
theorem Wv{ns:List Int}{i:Int}(h:i∈ns):(ns.findIdx λw=>w==i)<ns.length:=vzf (by rw[WY];exact Xb h)
theorem wke{ks:List D}(hk:∀k∈ks,At k)(hl:ks.length<=3):(∀d∈pr ks,At d)/\∀d∈pr ks,d∈V4:=by
 have key:∀d∈pr ks,d=.non\/∃i:Nat,d=.int i/\i<3:=λd hd=>by
  unfold pr at hd;obtain⟨k,hk',rfl⟩:=List.mem_map.mp hd;rcases hk k hk' with rfl|⟨i,rfl⟩
  ·exact .inl rfl
  ·have:=Wv (kv7 hk');have:=KK ks;exact .inr ⟨_,rfl,by omega⟩
 refine⟨λd hd=>?_,λd hd=>?_⟩
 ·rcases key d hd with rfl|⟨i,rfl,_⟩
  ·exact .inl rfl
  ·exact .inr ⟨_,rfl⟩
 ·rcases key d hd with rfl|⟨i,rfl,hi⟩
  ·simp[V4]
  ·exact v4I (by omega) (by omega)
theorem vqg{kps:List Int}{room:Int}(h3:∀k∈kps,k<=3)(r0:0<=room)(r1:room<kps.length):kps.getD room.toNat 0<=3:=by
 have:room.toNat<kps.length:=by omega
 refine h3 _ ?_;rw[X2,X1 this];exact Xh _
theorem K8{kps:List Int}{room:Int}{ks:List D}(h3:∀k∈kps,k<=3)(h:SokV kps V4 (.tup [.int room,.tup ks])):SokV kps V4 (.tup [.int room,.tup (pr ks)])/\ks.length<=3:=by
 obtain⟨ac,av,e,r0,r1,hl,ha,hV⟩:=h;injection e with e;injection e with e1 e;injection e with e2 _;injection e1 with e1;injection e2 with e2;subst e1 e2;have:=vqg h3 r0 r1;have nl:ks.length<=3:=by omega
 obtain⟨q1,q2⟩:=wke ha nl;exact⟨⟨room,pr ks,rfl,r0,r1,by unfold pr;rw[X4];exact hl,q1,q2⟩,nl⟩
theorem qqg{kps:List Int}{K:List D}{d:D}(h3:∀k∈kps,k<=3)(hK:Kin kps V4 K)(hd:d=.non\/SokV kps V4 d):Kin kps V4 (wV K d).1:=by
 rcases hd with rfl|hd
 ·exact hK
 ·obtain⟨room,ks,rfl,_⟩:=id hd;exact kwj hK (K8 h3 hd).1
theorem qq0{kps:List Int}{K:List D}(hK:Kin kps V4 K):unm (vq K)=true:=kks (kps:=kps) (V:=V4) (by unfold vq;rw[kvo];exact hK)
noncomputable def x5(rs:List D)(s:D)(z:Str):List D->List D->Option (List D×List D)
 |[],K=>some (K,[])
 |.int p::ps,K=>match obD rs s z p with
  |none=>none
  |some d=>(x5 rs s z ps (wV K d).1).map λr=>(r.1,(wV K d).2::r.2)
 |_::_,_=>none
theorem kw1{kps:List Int}{K:List D}{d:D}(si:kps.length<=12)(h3:∀k∈kps,k<=3)(hK:Kin kps V4 K)(hd:d=.non\/SokV kps V4 d):
  Oom m_plain_case [(.no,d),(.rt,.dct (vq K))] 1 (λy x'=>y.2=(wV K d).2/\x'=(.rt,.dct (vq (wV K d).1))) noX:=by
 rcases hd with rfl|hd
 ·exact vjg
 ·obtain⟨room,ks,rfl,r0,r1,hl,ha,hV⟩:=id hd;obtain⟨q1,q2⟩:=K8 h3 hd;have:=qjv hK si h3 (by decide);exact(vzn ha (by omega) (by omega) (kwg q1.ok) (qq0 hK)).mono (λy x h=>⟨by rw[h.1],h.2⟩) λc h=>h.elim
theorem vqz{rz:Sm}{ss:List Str}{rs K:List D}{kps:List Int}{s:D}{z:Str}{X:XP}(hR:Rmw rs)(hx:Rx ss kps rs)(h3:∀k∈kps,k<=3)(hs:SokV kps V4 s)(hK:Kin kps V4 K)
  (hz:x5 rs s z (jQ 0 ((j7 (xj s)).length+1)) K=none->wvs rz/\X "NotSingle"):
  Oom (m_plain_cases rz) [(.no,kz ss rs),(.no,s),(.no,.str z),(.rt,.dct (vq K))] 3 (λy x'=>∃K' cs,x5 rs s z (jQ 0 ((j7 (xj s)).length+1)) K=some (K',cs)/\y=(.rt,.lst cs)/\x'=(.rt,.dct (vq K'))/\Kin kps V4 K') X:=by
 have si:kps.length<=12:=by have:=hx.1;have:=hR.2.1;omega
 obtain⟨room,ks,rfl,r0,r1,hl,ha,hV⟩:=id hs;have nl:=(K8 h3 hs).2;rw[vX]at hz ⊢;have qy:=KK ks;have nu:∀d∈jQ 0 (((j7 ks).length:Int)+1),∃p:Int,d=.int p/\d∈V4:=λd hd=>by
  unfold jQ at hd;obtain⟨i,hi,rfl⟩:=List.mem_map.mp hd;have hi:=List.mem_range.mp hi;refine⟨_,rfl,?_⟩;exact v4I (by omega) (by omega)
 generalize hps:jQ 0 (((j7 ks).length:Int)+1)=ps at hz nu;unfold m_plain_cases;refine qxe ?_;refine kxq (vq7 ?_);simp![p1];refine(jze ha (by omega)).any.use ?_;intro _ _;simp![];refine qxf ?_;rw[hps];refine ZV (λE1 B ds acc=>E1=[some (.no,kz ss rs),some (.no,.tup [.int room,.tup ks]),some (.no,.str z),some (.rt,.dct (vq K)),some (.no,.lst ps)]/\∃q K1,B=[q,some (.no,kz ss rs),some (.no,.tup [.int room,.tup ks]),some (.no,.str z),some (.rt,.dct (vq K1))]/\Kin kps V4 K1/\(∀d∈ds,∃p:Int,d=.int p/\d∈V4)/\x5 rs (.tup [.int room,.tup ks]) z ps K=(x5 rs (.tup [.int room,.tup ks]) z ds K1).map λr=>(r.1,acc.map (·.2)++r.2)) ?_ ?_ ?_
 ·simp![];exact⟨none,K,rfl,hK,nu,by simp⟩
 ·rintro E1 B d ds acc ⟨rfl,q,K1,rfl,hK1,cy,hc⟩;obtain⟨p,rfl,qi⟩:=cy d X3;simp![];refine qqh ?_;simp![];refine(vxf hR hx hs (λhn=>hz (by rw[hc,x5,hn];rfl))).via ?_;intro y hy;simp![];have hd:=vxj hR hx hs qi hy;refine⟨_,rfl,(kw1 si h3 hK1 hd).mono (λy' x' h=>?_) λc h=>h.elim⟩;obtain⟨h1,rfl⟩:=h;refine⟨_,(wV K1 y.2).1,rfl,qqg h3 hK1 hd,λd hd=>cy d (lc9 _ hd),?_⟩;rw[hc,x5,hy];simp[Option.map_map,Function.comp_def,h1]
 ·rintro E1 B acc ⟨rfl,q,K1,rfl,hK1,_,hc⟩;rw[z7];simp only[Q1,back,clr,at',List.drop,List.map_cons,List.map_nil,List.set_cons_zero,List.set_cons_succ];exact⟨K1,acc.map (·.2),by rw[hc];simp[x5],rfl,rfl,hK1⟩
end F
namespace F
open Q PySem C
noncomputable def qqf(rs:List D)(s:D)(z:Str)(K:List D):Option (List D×List D):=x5 rs s z (jQ 0 ((j7 (xj s)).length+1)) K
noncomputable def xz(rs:List D)(s:D):List Str->List D->Option (List D×List D)
 |[],K=>some (K,[])
 |z::zs,K=>match qqf rs s z K with
  |none=>none
  |some r=>(xz rs s zs r.1).map λq=>(q.1,.lst r.2::q.2)
noncomputable def goodD(rs:List D)(s:D):D:=match s with
 |.tup [.int room,_]=>(match rs[room.toNat]? with
  |some (.tup [_,g,_])=>g
  |_=>.non)
 |_=>.non
noncomputable def Qv(rs:List D)(s:D)(st:List D):D:=.tup [.int (j7 (xj s)).length,goodD rs s,.lst st]
noncomputable def YQ(ss:List Str)(rs K a7:List D):Option (List D×List D):=(xz rs (K.getD a7.length .non) ss K).map λr=>(r.1,a7++[Qv rs (K.getD a7.length .non) r.2])
inductive Run (ss:List Str)(rs:List D):List D->List D->Option (List D×List D)->Prop
 |stop {K a7:List D}:¬a7.length<K.length->Run ss rs K a7 (some (K,a7))
 |fail {K a7:List D}:a7.length<K.length->YQ ss rs K a7=none->Run ss rs K a7 none
 |go {K a7 K' fc:List D} {r:Option (List D×List D)}:a7.length<K.length->YQ ss rs K a7=some (K',fc)->Run ss rs K' fc r->Run ss rs K a7 r
theorem qvt{K:List D}{d:D}:K.length<=(wV K d).1.length:=by
 unfold wV
 split
 ·unfold kZ;split<;>simp
 ·exact X8 _
theorem kq8{rs:List D}{s:D}{z:Str}:∀{ps K:List D} {r:List D×List D},x5 rs s z ps K=some r->K.length<=r.1.length
 | [],K,r,h=>by rw[x5]at h;cases h;exact X8 _
 | .int p::ps,K,r,h=>by
  rw[x5]at h
  split at h
  ·cases h
  ·rename_i d _;obtain⟨q,hq,rfl⟩:=Option.map_eq_some_iff.mp h;have h1:=kq8 hq;have:=qvt (K:=K) (d:=d);exact Y3 this h1
 |.non::_,_,_,h=>by cases h
 |.bl _::_,_,_,h=>by cases h
 |.str _::_,_,_,h=>by cases h
 |.tup _::_,_,_,h=>by cases h
 |.lst _::_,_,_,h=>by cases h
 |.dct _::_,_,_,h=>by cases h
 |.obj _ _::_,_,_,h=>by cases h
theorem vz8{rs ks st:List D}{room:Int}{kp gd:D}(hr:rs[room.toNat]?=some (.tup [kp,gd,.lst st])):goodD rs (.tup [.int room,.tup ks])=gd:=by
 unfold goodD;dsimp only;rw[hr]
theorem kxl{rz:Sm}{ss:List Str}{rs:List D}{kps:List Int}{kp:Int}{gd st0:D}{X:XP}(hR:Rmw rs)(hx:Rx ss kps rs)(h3:∀k∈kps,k<=3)(ez:rs[0]?=some (.tup [.int kp,gd,st0]))(iy:0<=kp)(dl:kp<=3)
  (hX:Run ss rs [.tup [.int 0,.tup (List.replicate kp.toNat .non)]] [] none->wvs rz/\X "NotSingle"):
  Oo (m_plain_of rz) [(.no,kz ss rs)] (λy=>∃K a7,y=(.no,.tup [kz ss a7,.lst K])/\Run ss rs [.tup [.int 0,.tup (List.replicate kp.toNat .non)]] [] (some (K,a7))) X:=by
 have k4:kps.length<=12:=by have:=hx.1;have:=hR.2.1;omega
 have fi:Kin kps V4 [.tup [.int 0,.tup (List.replicate kp.toNat .non)]]:=jxk hR hx (by simp[V4]) ez iy;generalize lc:(D.tup [.int 0,.tup (List.replicate kp.toNat .non)])=s0 at *;unfold m_plain_of;refine kX ?_;simp![↓vv6];refine(qqa (gd:=gd) (st:=st0) ez iy (by omega)).any.use ?_;intro _ _;simp![];rw [lc];refine⟨kwg (fi.2 s0 X3).ok,?_⟩;refine qkr (λn E=>∃(K a7:List D) (l3 l4:Option Sd),E=[some (.no,kz ss rs),some (.rt,.dct (vq K)),some (.rt,.lst a7),l3,l4]/\Kin kps V4 K/\a7.length<=K.length/\n=4000 - a7.length/\∀r,Run ss rs K a7 r->Run ss rs [s0] [] r) ?_ 4000 _ ⟨[s0],[],_,_,rfl,fi,Y9 _,rfl,λr h=>h⟩;rintro n E ⟨K,a7,l3,l4,rfl,hK,dy,rfl,ff⟩;have m8:=qjv hK k4 h3 (by decide);have mo:(vq K).length=K.length:=qj0 K 0;have hu:=qq0 hK;have o6:∀o,XQ (o,.dct (vq K))=some (.rt,.lst K):=λo=>by
  rw [wq9 (by rw[mo];omega) hu];unfold vq;rw [kvo]
 by_cases b8:a7.length<K.length
 ·have hd:decide ((a7.length:Int)<(K.length:Int))=true:=Xb (by omega);have dk:jV (.lst K) (.int a7.length)=some (K.getD a7.length .non):=v9 (by omega) (by rw[Xs,X1 b8,X2,X1 b8];rfl);have hs:SokV kps V4 (K.getD a7.length .non):=hK.2 _ (by rw[X2,X1 b8];exact Xh _);have ft:YQ ss rs K a7=(xz rs (K.getD a7.length .non) ss K).map λr=>(r.1,a7++[Qv rs (K.getD a7.length .non) r.2]):=rfl
  generalize K.getD a7.length .non=s at dk hs ft;have ro:xz rs s ss K=none->wvs rz/\X "NotSingle":=λe=>hX (ff _ (.fail b8 (by rw[ft,e];rfl)))
  simp![qz1 hu,mo,hd,o6,dk];refine ZV (λE1 B ds acc=>E1=[some (.no,kz ss rs),some (.rt,.dct (vq K)),some (.rt,.lst a7),some (.no,s),l4]/\∃(q:Option Sd) (K1:List D) (zs:List Str),B=[q,some (.no,kz ss rs),some (.no,s),some (.rt,.dct (vq K1))]/\ds=zs.map D.str/\Kin kps V4 K1/\K.length<=K1.length/\xz rs s ss K=(xz rs s zs K1).map λr=>(r.1,acc.map (·.2)++r.2)) ?_ ?_ ?_
  ·simp![p0];exact⟨none,K,ss,rfl,rfl,hK,X8 _,by simp⟩
  ·rintro E1 B d ds acc ⟨rfl,q,K1,zs,rfl,cy,hK1,hg,hc⟩;cases zs with
   | nil=>cases cy
   | cons z zs=>
    rw[List.map_cons]at cy;injection cy with e1 e2;subst e1 e2;simp![];refine qqh ?_;simp![];refine⟨_,rfl,(vqz hR hx h3 hs hK1 (λhn=>ro (by rw[hc,xz,show qqf rs s z K1=none from hn];rfl))).mono (λy x' h=>?_) λc h=>h⟩;obtain⟨K2,cs,oj,rfl,rfl,lz⟩:=h;refine⟨_,K2,zs,rfl,rfl,lz,Y3 hg (kq8 oj),?_⟩;rw[hc,xz,show qqf rs s z K1=some (K2,cs)from oj];simp[Option.map_map,Function.comp_def]
  ·rintro E1 B acc ⟨rfl,q,K1,zs,rfl,cy,hK1,hg,hc⟩;cases zs with
   | cons=>cases cy
   | nil=>
    rw[z7];simp only[Q1,back,clr,at',List.drop,List.map_cons,List.map_nil,List.set_cons_zero,List.set_cons_succ];obtain⟨room,ks,st,mw,rfl,r0,er,ao,cu,fe,ic⟩:=V3 hR hx hs.ok;have nl:=(K8 h3 hs).2;have hir:jV (.lst rs) (.int room)=some (.tup [.int ks.length,mw,.lst st]):=v9 r0 er;refine vY rfl ?_;simp![p0,p1];refine(jze cu (by omega)).any.use ?_;intro _ _;simp![p0,p1,t1,hir];have qc:=qjv hK1 k4 h3 (by decide);refine⟨_,rfl,by omega,_,?_,K1,_,_,_,rfl,hK1,?_,rfl,λr h=>ff r (.go b8 ?_ h)⟩
    ·simp;omega
    ·simp;omega
    ·rw[ft,hc];simp[xz,Qv,vz8 er,xj]
 ·have hd:decide ((a7.length:Int)<(K.length:Int))=false:=Xa (by omega);simp![qz1 hu,mo,hd,o6,p0,kz2 (o:=.no) (xs:=ss.map D.str) (by decide)];exact⟨K,a7,rfl,ff _ (.stop b8)⟩
end F
namespace F
open Q PySem C
theorem qji{a b:D}(ha:At a)(hb:At b):peq a b=decide (a=b):=by
 rcases ha with rfl|⟨i,rfl⟩<;>rcases hb with rfl|⟨j,rfl⟩
 ·simp[peq]
 ·simp[peq]
 ·simp[peq]
 ·show(i==j)=_
  by_cases h:i=j
  ·subst h;simp
  ·rw[Xa (λz=>h (by injection z))];simpa using h
theorem vx2{as:List D}:∀{bs:List D},(∀k∈as,At k)->(∀k∈bs,At k)->peqs as bs=decide (as=bs):=by
 induction as with
 | nil=>intro bs _ _;cases bs<;>simp[peqs]
 | cons a as ih=>
  intro bs ha hb;cases bs with
  |nil=>simp[peqs]
  |cons b bs=>
   show(peq a b&&peqs as bs)=_;rw[qji (ha a X3) (hb b X3),ih (λk hk=>ha k (lc9 _ hk)) (λk hk=>hb k (lc9 _ hk))]
   by_cases h1:a=b<;>by_cases h2:as=bs<;>simp[h1,h2]
theorem vkz{kps:List Int}{V:List D}{a b:D}(ha:SokV kps V a)(hb:SokV kps V b):peq a b=decide (a=b):=by
 obtain⟨r,ks,rfl,_,_,_,h1,_⟩:=ha;obtain⟨r',av,rfl,_,_,_,h2,_⟩:=hb;show((r==r')&&(peqs ks av&&true))=_;rw[vx2 h1 h2]
 by_cases e1:r=r'<;>by_cases e2:ks=av<;>simp[e1,e2]
theorem kz9{kps:List Int}{V:List D}{a:D}{n:Nat}(ha:SokV kps V a):a.flat (n+2)=true:=by
 obtain⟨r,ks,rfl,_,_,_,h1,_⟩:=ha;show(true&&(D.flats n ks&&true))=true;rw[At.flats h1];rfl
theorem qjz{kps:List Int}{K:List D}{n:Nat}(hK:∀s∈K,SokV kps V4 s):D.flats (n+2) K=true:=xZ λk hk=>kz9 (hK k hk)
theorem qql{kps:List Int}{x:D}(hx:SokV kps V4 x):∀{K:List D},(∀s∈K,SokV kps V4 s)->(K.any λz=>peq z x)=decide (x∈K)
 | [],_=>by simp
 | k::K,h=>by
  rw[Z5,vkz (h k X3) hx,qql hx (λs hs=>h s (lc9 _ hs))]
  by_cases e1:k=x
  ·simp[e1]
  ·have e3:¬x=k:=λz=>e1 z.symm
   by_cases e2:x∈K<;>simp[e1,e2,e3]
theorem vq9{kps:List Int}{x:D}{K:List D}(hx:SokV kps V4 x)(hK:∀s∈K,SokV kps V4 s):wW x (.lst K)=some (.bl (!decide (x∈K))):=by
 have h:fIn x (.lst K)=some (.bl (decide (x∈K))):=by
  show(if x.flat 30&&D.flats 30 K then some (D.bl (K.any λz=>peq z x))else none)=_;rw[kz9 hx,qjz hK,qql hx hK];rfl
 show(fIn x (.lst K)).bind _=_;rw[h];rfl
end F
namespace F
open Q PySem C
noncomputable def ltr:List Nat:=("abcdefghijklmnopqrstuvwxyz":Str).cps.toList
theorem qzt:∀{ks:List D} {acc:List Int} {i:Int},i∈ks.foldl insI acc->i∈acc\/D.int i∈ks
 | [],_,_,h=>.inl h
 | k :: ks,acc,i,h=>by
  rw [Z2]at h;rcases qzt h with z|z
  ·unfold insI at z
   split at z
   ·split at z
    ·exact .inl z
    ·rcases List.mem_append.mp z with y|y
     ·exact .inl y
     ·rw[List.mem_singleton.mp y];exact .inr X3
   ·exact .inl z
  ·exact .inr (lc9 _ z)
theorem wq3{ks:List D}{i:Int}(h:i∈j7 ks):D.int i∈ks:=by
 rcases qzt h with z|z
 ·cases z
 ·exact z
end F
namespace F
open Q PySem C
section
variable {rs:List D}{ss:List Str}{I:D->Prop}
noncomputable def vk1(rs:List D)(ss:List Str)(I:D->Prop):Prop:=∀s,I s->∀z∈ss,∀p:Int,D.int p∈jQ 0 ((j7 (xj s)).length+1)->∃d,obD rs s z p=some d/\(d=.non\/∃room ks,d=.tup [room,.tup ks]/\I (.tup [room,.tup (pr ks)]))
theorem kwi{K:List D}{p:D}(hK:∀k∈K,I k)(hp:I p):∀k∈kZ K p,I k:=λk hk=>by
 unfold kZ at hk
 split at hk
 ·exact hK k hk
 ·rcases List.mem_append.mp hk with z|z
  ·exact hK k z
  ·rw[List.mem_singleton.mp z];exact hp
theorem kvj(hI:vk1 rs ss I){s:D}{z:Str}(hs:I s)(hz:z∈ss):∀{ps K:List D},(∀d∈ps,∃p:Int,d=.int p/\d∈jQ 0 ((j7 (xj s)).length+1))->(∀k∈K,I k)->∃r,x5 rs s z ps K=some r/\∀k∈r.1,I k
 | [],K,_,hK=>⟨(K,[]),rfl,hK⟩
 | d::ps,K,hp,hK=>by
  obtain⟨p,rfl,oq⟩:=hp d X3;obtain⟨d,hd,fq⟩:=hI s hs z hz p oq;have lz:∀k∈(wV K d).1,I k:=by
   rcases fq with rfl|⟨room,ks,rfl,hi⟩
   ·exact hK
   ·exact kwi hK hi
  obtain⟨r,hr,hk⟩:=kvj hI hs hz (λd hd=>hp d (lc9 _ hd)) lz;exact⟨(r.1,(wV K d).2::r.2),by rw[x5,hd];dsimp only;rw[hr];rfl,hk⟩
theorem jzx(hI:vk1 rs ss I){s:D}(hs:I s):∀{zs:List Str} {K:List D},(∀z∈zs,z∈ss)->(∀k∈K,I k)->∃r,xz rs s zs K=some r/\∀k∈r.1,I k
 | [],K,_,hK=>⟨(K,[]),rfl,hK⟩
 | z::zs,K,hz,hK=>by
  obtain⟨r,hr,hk⟩:=kvj hI hs (hz z X3) (ps:=jQ 0 ((j7 (xj s)).length+1)) (λd hd=>by
   obtain⟨i,_,_,rfl⟩:=Kq hd;exact⟨i,rfl,hd⟩) hK
  obtain⟨q,hq,ij⟩:=jzx hI hs (zs:=zs) (λz h=>hz z (lc9 _ h)) hk;exact⟨(q.1,.lst r.2::q.2),by rw[xz,show qqf rs s z K=some r from hr];dsimp only;rw[hq];rfl,ij⟩
theorem vkn(hI:vk1 rs ss I){K a7:List D}{r:Option (List D×List D)}(h:Run ss rs K a7 r):(∀k∈K,I k)->∃q,r=some q/\∀k∈q.1,I k:=by
 induction h with
 |stop h=>intro hK;exact⟨_,rfl,hK⟩
 |@fail K a7 b8 e=>
  intro hK;have hs:=hK (K.getD a7.length .non) (by rw[X2,X1 b8];exact Xh _);obtain⟨r,hr,_⟩:=jzx hI hs (λz h=>h) hK;unfold YQ at e;rw[hr]at e;cases e
 |@go K a7 K' fc r b8 e _ ih=>
  intro hK;have hs:=hK (K.getD a7.length .non) (by rw[X2,X1 b8];exact Xh _);obtain⟨r,hr,hk⟩:=jzx hI hs (λz h=>h) hK;unfold YQ at e;rw[hr]at e;cases e;exact ih hk
end
end F
namespace F
open Q PySem C
theorem qjh{i:Int}{d:D}(h:At d):peq d (.int i)=decide (d=.int i):=qji h (.inr ⟨i,rfl⟩)
theorem kky{ks:List D}{p i:Int}(hk:∀k∈ks,At k)(h0:0<=i)(h1:i<ks.length)(hf:vJ ks (.int p) (.str "fresh")=true)(hi:vJ ks (.int p) (.int i)=true):False:=by
 have hf:(!ks.any λz=>peq z (.int p))=true:=by
  unfold vJ at hf;dsimp only at hf
  rwa [X9 rfl]at hf
 have hi:peq (ks.getD i.toNat .non) (.int p)=true:=hi;rw[Bool.not_eq_true']at hf;have hm:=J7 ks i h0 h1;rw[List.any_eq_false]at hf;exact hf _ hm hi
theorem vka{ks:List D}{p i j:Int}(hk:∀k∈ks,At k)(h0:0<=i)(h1:i<ks.length)(h2:0<=j)(h3:j<ks.length)(hi:vJ ks (.int p) (.int i)=true)(hj:vJ ks (.int p) (.int j)=true):ks.getD i.toNat .non=.int p/\ks.getD j.toNat .non=.int p:=by
 have hi:peq (ks.getD i.toNat .non) (.int p)=true:=hi;have hj:peq (ks.getD j.toNat .non) (.int p)=true:=hj;rw[qjh (hk _ (J7 ks i h0 h1))]at hi;rw[qjh (hk _ (J7 ks j h2 h3))]at hj;exact⟨Z3 hi,Z3 hj⟩
noncomputable def Ww(ks:List D):Prop:=∀i j:Nat,∀p:Int,ks[i]?=some (.int p)->ks[j]?=some (.int p)->i=j
theorem vxg{ks:List D}(h:Ww ks):Ww (pr ks):=λi j p hi hj=>by
 unfold pr at hi hj;rw[Xg]at hi hj;obtain⟨a,ha,ea⟩:=Option.map_eq_some_iff.mp hi;obtain⟨b,hb,eb⟩:=Option.map_eq_some_iff.mp hj;have key:∀{d:D} {q:Int},d∈ks->plc (j7 ks) d=.int q->∃x:Int,d=.int x/\x∈j7 ks/\((j7 ks).findIdx (λw=>w==x):Int)=q:=fun {d q} hd e=>by
  unfold plc at e
  split at e
  ·rename_i x;injection e with e;exact⟨x,rfl,kv7 hd,e⟩
  ·rename_i c9;exact absurd e (c9 q)
 obtain⟨x,rfl,hx,ex⟩:=key (Xm ha) ea;obtain⟨y,rfl,hy,ey⟩:=key (Xm hb) eb;have e:(j7 ks).findIdx (λw=>w==x)=(j7 ks).findIdx (λw=>w==y):=by omega
 have gx:=Wv hx;have gy:=Wv hy;have h1:(j7 ks)[(j7 ks).findIdx (λw=>w==x)]'gx=x:=by simpa using List.findIdx_getElem (p:=λw=>w==x) (w:=gx)
 have h2:(j7 ks)[(j7 ks).findIdx (λw=>w==y)]'gy=y:=by simpa using List.findIdx_getElem (p:=λw=>w==y) (w:=gy)
 have hxy:x=y:=by
  rw[<-h1,<-h2]
  congr 1
 subst hxy;exact h i j x ha hb
noncomputable def FA(g:D)(fs:List D):Prop:=(∀(i j:Nat) (f:D),f≠.non->fs[i]?=some f->fs[j]?=some f->i=j)/\(D.str "new"∈fs->g≠.str "any"/\g∉fs)
theorem qjn{ks fs:List D}{p:Int}{g:D}(hk:∀k∈ks,At k)(ho:Ww ks)(hg:Gd ks.length g)(d8:vJ ks (.int p) g=true)(hf:∀f∈fs,Fd ks.length f)(ha:FA g fs):Ww (fs.map (vK ks (.int p))):=λi j q hi hj=>by
 rw[Xg]at hi hj;obtain⟨a,h1,ea⟩:=Option.map_eq_some_iff.mp hi;obtain⟨b,h2,eb⟩:=Option.map_eq_some_iff.mp hj;have at_:∀{n:Int},0<=n->n<ks.length->∀{x:D},ks.getD n.toNat .non=x->ks[n.toNat]?=some x:=fun {n} n0 n1 {x} e=>by
  have:n.toNat<ks.length:=by omega
  rw[X1 this,<-e,X2,X1 this];rfl
 have mix:∀{n:Int},0<=n->n<ks.length->D.str "new"∈fs->D.int n∈fs->ks.getD n.toNat .non=.int p->False:=fun {n} n0 n1 hn hm e=>by
  obtain⟨c1,c2⟩:=ha.2 hn;rcases hg with rfl|rfl|⟨c,c0,c3,rfl⟩
  ·exact kky hk n0 n1 d8 (by show peq (ks.getD n.toNat .non) (.int p)=true;rw[e];simp[peq])
  ·exact c1 rfl
  ·have hc:peq (ks.getD c.toNat .non) (.int p)=true:=d8;rw[qjh (hk _ (J7 ks c c0 c3))]at hc;have:=ho _ _ p (at_ c0 c3 (Z3 hc)) (at_ n0 n1 e);have:c=n:=by omega
   subst this;exact c2 hm
 have jg:=hf a (Xm h1);have hfb:=hf b (Xm h2);rcases jg with rfl|rfl|⟨x,x0,x1,rfl⟩
 ·have ea:D.int p=.int q:=ea;injection ea with ea;subst ea;rcases hfb with rfl|rfl|⟨y,y0,y1,rfl⟩
  ·exact ha.1 i j (.str "new") (λz=>nomatch z) h1 h2
  ·cases(show D.non=.int p from eb)
  ·exact(mix y0 y1 (Xm h1) (Xm h2) eb).elim
 ·cases(show D.non=.int q from ea)
 ·rcases hfb with rfl|rfl|⟨y,y0,y1,rfl⟩
  ·have eb:D.int p=.int q:=eb;injection eb with eb;subst eb;exact(mix x0 x1 (Xm h2) (Xm h1) ea).elim
  ·cases(show D.non=.int q from eb)
  ·have:=ho _ _ q (at_ x0 x1 ea) (at_ y0 y1 eb);have:x=y:=by omega
   subst this;exact ha.1 i j (.int x) (λz=>nomatch z) h1 h2
end F
namespace F
open Q PySem C
theorem qzz{p:D->Bool}:∀{st:List D} {k:Nat} {c:D},c∈k6 p k st->∃(j:Nat) (a:D),st[j]?=some a/\p a=true
 | [],_,_,h=>by cases h
 | d::st,k,c,h=>by
  unfold k6 at h
  split at h
  ·rename_i hp;exact⟨0,d,rfl,hp⟩
  ·obtain⟨j,a,h1,h2⟩:=qzz h;exact⟨j+1,a,by simpa using h1,h2⟩
theorem qzy{p:D->Bool}:∀{st:List D} {k:Nat} {c1 c2:D} {r:List D},k6 p k st=c1::c2::r->∃(i j:Nat) (a b:D),i<j/\st[i]?=some a/\st[j]?=some b/\p a=true/\p b=true
 | [],_,_,_,_,h=>by cases h
 | d::st,k,c1,c2,r,h=>by
  unfold k6 at h
  split at h
  ·rename_i hp;injection h with _ h;obtain⟨j,b,h1,h2⟩:=qzz (show c2∈k6 p (k+1) st by rw[h];exact X3);exact⟨0,j+1,d,b,by omega,rfl,by simpa using h1,hp,h2⟩
  ·obtain⟨i,j,a,b,h1,h2,h3,h4⟩:=qzy h;exact⟨i+1,j+1,a,b,by omega,by simpa using h2,by simpa using h3,h4⟩
theorem vvt{p:D->Bool}:∀{st:List D} {k j:Nat},D.int j∈k6 p k st->k<=j/\∃a,st[j - k]?=some a/\p a=true
 | [],_,_,h=>by cases h
 | d::st,k,j,h=>by
  have jw:D.int j∈k6 p (k+1) st->k<=j/\∃a,(d::st)[j - k]?=some a/\p a=true:=λh=>by
   obtain⟨h1,a,h2,h3⟩:=vvt h;exact⟨by omega,a,by rw[show j - k=(j - (k+1))+1 by omega,List.getElem?_cons_succ];exact h2,h3⟩
  unfold k6 at h
  split at h
  ·rename_i hp;rcases List.mem_cons.mp h with e|h
   ·injection e with e;have:j=k:=by omega
    subst this;exact⟨X8 _,d,by simp,hp⟩
   ·exact jw h
  ·exact jw h
noncomputable def Cpt(ap:Bool)(g g':D):Prop:=(g=.str "fresh"/\∃i,g'=.int i)\/(g'=.str "fresh"/\∃i,g=.int i)\/(ap=true/\∃i j:Int,g=.int i/\g'=.int j/\i≠j)
noncomputable def wvd(ap:Bool)(st:List D):Prop:=(∀(i j:Nat) (z:Str) (g g' t t' f f':D),i<j->st[i]?=some (.tup [.str z,g,t,f])->st[j]?=some (.tup [.str z,g',t',f'])->Cpt ap g g')/\(ap=true->∀(z:Str) (g t:D) (fs:List D),D.tup [.str z,g,t,.tup fs]∈st->FA g fs)
noncomputable def Sgl(ap:Bool)(rs:List D):Prop:=∀(k g:D) (st:List D),D.tup [k,g,.lst st]∈rs->wvd ap st
theorem wv1{ap:Bool}{ks:List D}{p:Int}{g g':D}(hk:∀k∈ks,At k)(ho:ap=true->Ww ks)(hg:Gd ks.length g)(kg:Gd ks.length g')(h:Cpt ap g g')(h1:vJ ks (.int p) g=true)(h2:vJ ks (.int p) g'=true):False:=by
 have rng:∀{i:Int},Gd ks.length (.int i)->0<=i/\i<ks.length:=fun {i} h=>by
  rcases h with h|h|⟨j,a,b,e⟩
  ·cases h
  ·cases h
  ·injection e with e;subst e;exact⟨a,b⟩
 rcases h with⟨rfl,i,rfl⟩|⟨rfl,i,rfl⟩|⟨ha,i,j,rfl,rfl,c9⟩
 ·exact kky hk (rng kg).1 (rng kg).2 h1 h2
 ·exact kky hk (rng hg).1 (rng hg).2 h2 h1
 ·obtain⟨a0,a1⟩:=rng hg;obtain⟨b0,b1⟩:=rng kg;obtain⟨e1,e2⟩:=vka hk a0 a1 b0 b1 h1 h2;have at_:∀{n:Int},0<=n->n<ks.length->∀{x:D},ks.getD n.toNat .non=x->ks[n.toNat]?=some x:=fun {n} n0 n1 {x} e=>by
   have:n.toNat<ks.length:=by omega
   rw[X1 this,<-e,X2,X1 this];rfl
  have:=ho ha _ _ p (at_ a0 a1 e1) (at_ b0 b1 e2);omega
theorem vqh{ap:Bool}{ss:List Str}{rs:List D}{kps:List Int}(hR:Rms rs)(hx:Rx ss kps rs)(h3:∀k∈kps,k<=3)(hS:Sgl ap rs):vk1 rs ss (λs=>SokV kps V4 s/\(ap=true->Ww (xj s))):=by
 rintro s ⟨hs,ho⟩ z hz p hp;obtain⟨room,ks,st,gd,rfl,r0,er,ao,cu,fe,ic⟩:=V3 hR hx hs.ok;rw [vX]at ho hp;have nl:=(K8 h3 hs).2;have qy:=KK ks;have qi:D.int p∈V4:=by
  obtain⟨i,i0,i1,e⟩:=Kq hp;injection e with e;subst e;exact v4I (by omega) (by omega)
 have fk:v6 rs (z,p) (.tup [.int room,.tup ks])=(k6 (qQ z ks (.int p)) 0 st).map (bh ks st p):=by unfold v6;rw[Qq er,vX]
 have hSr:=hS _ _ _ (Xm er);have i5:∀{a:D},a∈st->qQ z ks (.int p) a=true->∃(g:D) (to:Int) (fs:List D),a=.tup [.str z,g,.int to,.tup fs]/\Gd ks.length g/\vJ ks (.int p) g=true/\∀f∈fs,Fd ks.length f:=fun {a} ha hc=>by
  obtain⟨w,g,to,fs,rfl,hg,hf,_⟩:=ao a ha;have hc:((w==z)&&vJ ks (.int p) g)=true:=hc;rw[Bool.and_eq_true]at hc;have hw:w=z:=by simpa using hc.1
  subst hw;exact⟨g,to,fs,rfl,hg,hc.2,hf⟩
 unfold obD;rw [fk];cases hf:k6 (qQ z ks (.int p)) 0 st with
 | nil=>exact⟨.non,rfl,.inl rfl⟩
 | cons c r=>
  cases r with
  | cons c2 r2=>
   obtain⟨i,j,a,b,p9,ha,hb,ca,cb⟩:=qzy hf;obtain⟨g,to,fs,rfl,hg,hfg,_⟩:=i5 (Xm ha) ca;obtain⟨g',to',fs',rfl,kg,hfg',_⟩:=i5 (Xm hb) cb;exact(wv1 cu ho hg kg (hSr.1 i j z g g' _ _ _ _ p9 ha hb) hfg hfg').elim
  | nil=>
   obtain⟨j,rfl,_,hj⟩:=Qw (show c∈k6 (qQ z ks (.int p)) 0 st by rw[hf];exact X3);have hj:j<st.length:=by omega
   have hb:=jw5 (p:=p) (V:=V4) ao cu (by
    obtain⟨ac,av,e,_,_,_,_,hV⟩:=hs;injection e with e;injection e with e1 e;injection e with e2 _;injection e2 with e2;subst e2;exact hV) (by simp[V4]) qi fe hj
   refine⟨wK ks (.int p) st[j],by rw[List.map_cons,List.map_nil,Q3 hj],.inr ?_⟩;obtain⟨_,a,ha,hpa⟩:=vvt (show D.int j∈k6 (qQ z ks (.int p)) 0 st by rw[hf];exact X3);rw[Nat.sub_zero,X1 hj]at ha;cases oq9 ha;obtain⟨g,to,fs,e,hg,hfg,hff⟩:=i5 (Xh hj) hpa;rw[e]at hb ⊢;have hb:SokV kps V4 (.tup [.int to,.tup (fs.map (vK ks (.int p)))]):=hb;refine⟨.int to,fs.map (vK ks (.int p)),rfl,(K8 h3 hb).1,λnh=>?_⟩;rw[vX];exact vxg (qjn cu (ho nh) hg hfg hff (hSr.2 nh z g (.int to) fs (by rw[<-e];exact Xh hj)))
end F
namespace F
open Q PySem C
noncomputable def m__law_asks:Fn:=fn 4
  (j5 (sIf (tE (cF2 (pu2 fEq) (j6 (vV 0) (C9 0)) (C9 1))) (jz (k8 .rt [(cC (.str "any"))])) k9)
  (j5 (jk 3 (k8 .rt []))
  (j5 (sIf (tOr (tE (cF2 (pu2 fGt) (j6 (vV 0) (C9 0)) (C9 2))) (tAnd (tE (cF2 (pu2 fEq) (vV 1) (C9 0))) (tE (cF2 (pu2 fGt) (j6 (vV 0) (C9 0)) (C9 0))))) (qK qJ 3 (cC (.str "fresh"))) k9)
  (j5 (sIf (tAnd (tE (cF2 (pu2 fGt) (vV 1) (C9 0))) (tE (cF2 (pu2 fGt) (j6 (vV 0) (C9 0)) (C9 1)))) (j5 (qK qJ 3 (cF2 (pu2 jY) (j6 (vV 0) (C9 1)) (vV 1)))
  (sIf (tEQ (vV 2)) (jk 3 (cF2 jx (vV 3) (vE (cLC .rt 1 [3,0] (vz (vV 1)) (.n 0) (tAnd (tE (cF2 (pu2 wW) (vV 0) (vV 1))) (tE (cF2 (pu2 fEq) (j6 (vV 2) (vE (cF2 jx (C9 2) (vV 0)))) (C9 1)))) (cV 0))))) k9)) k9)
  (j5 (sIf (tE (cF2 (pu2 fEq) (j6 (vV 0) (C9 5)) (C9 1))) (WV 3) k9)
  (jz (cMv 3)))))))
theorem vqy{ap:Bool}{g g':D}(h:Cpt ap g g'):Cpt ap g' g:=by
 rcases h with⟨a,b⟩|⟨a,b⟩|⟨a,i,j,b,c,d⟩
 ·exact .inr (.inl ⟨a,b⟩)
 ·exact .inl ⟨a,b⟩
 ·exact .inr (.inr ⟨a,j,i,c,b,λz=>d z.symm⟩)
noncomputable def Jj(ap:Bool)(here:Int)(as:List D):Prop:=as.Pairwise (Cpt ap)/\(∀a∈as,Gd here a)/\as.length<=4
theorem vv3{ap:Bool}{here:Int}{as:List D}(h:Jj ap here as):Jj ap here as.reverse:=⟨by rw[List.pairwise_reverse];exact h.1.imp vqy,λa ha=>h.2.1 a (List.mem_reverse.mp ha),by rw[List.length_reverse];exact h.2.2⟩
theorem vwy{u:Ts}{a b:Sm}{E:En}{N C:En->Prop}{R:Sd->Prop}{X:XP}(h:Eo (u E) (λE' k=>E'=E/\k=false) X)(h2:Po (b E) N C R X):Po (j5 (sIf u a k9) b E) N C R X:=by
 rw[vvg];unfold sIf;rw[Q9];refine h.mono ?_;rintro E' k ⟨rfl,rfl⟩;show Po (k9 E') _ _ _ _;unfold k9;rw[vkw];exact h2
theorem wqz{N C:En->Prop}{ap:Bool}{here y5:Int}{ys:List Int}{as:List D}{o0 o1 o2:Own}(f5:jV (iL ys) (.int 5)=some (.int y5))(h:Jj ap here as):
  Po ((j5 (sIf (tE (cF2 (pu2 fEq) (j6 (vV 0) (C9 5)) (C9 1))) (WV 3) k9) (jz (cMv 3))) [some (o0,iL ys),some (o1,.int here),some (o2,.bl ap),some (.rt,.lst as)]) N C (λy=>∃as,y=(.rt,.lst as)/\Jj ap here as) noX:=by
 cases hq:(y5==1)with
 |true=>
  simp![f5,xv,hq];refine wjl rfl ?_;simp![];exact⟨_,rfl,vv3 h⟩
 |false=>
  simp![f5,xv,hq];exact⟨_,rfl,h⟩
theorem qxm{fs:List D}{a k:Int}(hf:fs=[]\/fs=[.str "fresh"]):wW (.int k) (.lst (fs++[.int a]))=some (.bl (!(a==k))):=by
 rcases hf with rfl|rfl
 ·show some (D.bl (!((a==k)||false)))=_;rw[Bool.or_false]
 ·show some (D.bl (!(false||((a==k)||false))))=_;rw[Bool.false_or,Bool.or_false]
noncomputable def Ups(a n:Int)(xs:List D):Prop:=xs.Pairwise (λx y=>∃i j:Int,x=.int i/\y=.int j/\i<j)/\∀x∈xs,∃i:Int,x=.int i/\0<=i/\i<n/\i≠a
theorem vk9{here a:Int}{fs xs:List D}(hf:fs=[]\/fs=[.str "fresh"])(ha0:0<=a)(ha1:a<here)(hx:Ups a here xs)(hl:xs.length<=2):Jj true here (fs++[.int a]++xs):=by
 have hxs:∀x∈xs,∃i:Int,x=.int i/\0<=i/\i<here/\i≠a:=hx.2;have ln:([D.int a]++xs).Pairwise (Cpt true):=by
  rw[Ye,List.pairwise_cons];refine⟨λx jh=>?_,hx.1.imp fun {x y} ⟨i,j,e1,e2,h⟩=>.inr (.inr ⟨rfl,i,j,e1,e2,by omega⟩)⟩;obtain⟨i,rfl,_,_,h⟩:=hxs x jh;exact .inr (.inr ⟨rfl,a,i,rfl,rfl,λz=>h z.symm⟩)
 have gds:∀x∈[D.int a]++xs,Gd here x:=λx jh=>by
  rcases List.mem_append.mp jh with z|z
  ·rw[List.mem_singleton.mp z];exact .inr (.inr ⟨a,ha0,ha1,rfl⟩)
  ·obtain⟨i,rfl,h0,h1,_⟩:=hxs x z;exact .inr (.inr ⟨i,h0,h1,rfl⟩)
 rw [Xz];rcases hf with rfl|rfl
 ·exact⟨ln,gds,by simp;omega⟩
 ·refine⟨?_,λx jh=>?_,by simp;omega⟩
  ·rw[Ye,List.pairwise_cons];refine⟨λx jh=>.inl ⟨rfl,?_⟩,ln⟩;rcases List.mem_append.mp jh with z|z
   ·exact⟨a,List.mem_singleton.mp z⟩
   ·obtain⟨i,e,_⟩:=hxs x z;exact⟨i,e⟩
  ·rcases List.mem_append.mp jh with z|z
   ·rw[List.mem_singleton.mp z];exact .inl rfl
   ·exact gds x z
theorem vq5{here a:Int}{fs:List D}{ap:Bool}(hf:fs=[]\/fs=[.str "fresh"])(ha0:0<=a)(ha1:a<here):Jj ap here (fs++[.int a]):=by
 rcases hf with rfl|rfl
 ·exact⟨by simp,λx hx=>by rw[List.mem_singleton.mp hx];exact .inr (.inr ⟨a,ha0,ha1,rfl⟩),by simp⟩
 ·refine⟨?_,λx hx=>?_,by simp⟩
  ·simp only[Ye,List.pairwise_cons,List.mem_singleton,Xw];exact⟨λx hx=>.inl ⟨rfl,a,hx⟩,λ_ h=>h.elim,.nil⟩
  ·rcases List.mem_append.mp hx with z|z
   ·rw[List.mem_singleton.mp z];exact .inl rfl
   ·rw[List.mem_singleton.mp z];exact .inr (.inr ⟨a,ha0,ha1,rfl⟩)
theorem kxz{here:Int}{fs:List D}{ap:Bool}(hf:fs=[]\/fs=[.str "fresh"]):Jj ap here fs:=by
 rcases hf with rfl|rfl
 ·exact⟨.nil,(λ_ h=>nomatch h),by simp⟩
 ·exact⟨by simp,λx hx=>by rw[List.mem_singleton.mp hx];exact .inl rfl,by simp⟩
theorem wq6{en:Sm}{ap:Bool}{here y0 y1:Int}{ys:List Int}{fs:List D}{o0 o1 o2:Own}{N C:En->Prop}{R:Sd->Prop}(nt:0<=here)(hh3:here<=3)(f0:jV (iL ys) (.int 0)=some (.int y0))(f1:jV (iL ys) (.int 1)=some (.int y1))(f2:∀k:Int,0<=k->k<3->∃v,jV (iL ys) (.int (2+k))=some (.int v))(hf:fs=[]\/fs=[.str "fresh"])
  (la:∀as,Jj ap here as->Po (en [some (o0,iL ys),some (o1,.int here),some (o2,.bl ap),some (.rt,.lst as)]) N C R noX):
  Po ((j5 (sIf (tAnd (tE (cF2 (pu2 fGt) (vV 1) (C9 0))) (tE (cF2 (pu2 fGt) (j6 (vV 0) (C9 0)) (C9 1)))) (j5 (qK qJ 3 (cF2 (pu2 jY) (j6 (vV 0) (C9 1)) (vV 1)))
  (sIf (tEQ (vV 2)) (jk 3 (cF2 jx (vV 3) (vE (cLC .rt 1 [3,0] (vz (vV 1)) (.n 0) (tAnd (tE (cF2 (pu2 wW) (vV 0) (vV 1))) (tE (cF2 (pu2 fEq) (j6 (vV 2) (vE (cF2 jx (C9 2) (vV 0)))) (C9 1)))) (cV 0))))) k9)) k9) en) [some (o0,iL ys),some (o1,.int here),some (o2,.bl ap),some (.rt,.lst fs)]) N C R noX:=by
 have pe:fs.length<=1:=by rcases hf with rfl|rfl<;>simp
 by_cases hc:0<here/\1<y0
 ·have e1:decide (0<here)=true:=Xb hc.1;have e2:decide (1<y0)=true:=Xb hc.2;have q0:=Xq y1 (show here≠0 by omega);have q1:=Xk y1 (show 0<here by omega);simp![e1,f0,e2];refine vY rfl ?_;simp![f1,mod_i (a:=y1) (b:=here) (by omega)];refine⟨_,rfl,by omega,?_⟩;cases ap with
  | false=>
   simp![];exact la _ (vq5 hf q0 q1)
  | true=>
   simp![];refine ZV (λE1 B ds acc=>E1=[some (o0,iL ys),some (o1,.int here),some (o2,.bl true),some (.rt,.lst (fs++[.int (y1 % here)]))]/\(∃q,B=[q,some (.rt,.lst (fs++[.int (y1 % here)])),some (o0,iL ys)])/\∃k:Int,0<=k/\k<=here/\ds=jQ k here/\Ups (y1 % here) k (acc.map (·.2))/\(acc.length:Int)<=k/\(y1 % here<k->(acc.length:Int)<=k - 1)) ?_ ?_ ?_
   ·refine JV ?_;simp![];exact⟨here,rfl,by omega,by omega,⟨none,rfl⟩,0,by omega,nt,rfl,⟨.nil,(λ_ h=>nomatch h)⟩,by simp,λh=>by omega⟩
   ·rintro E1 B d ds acc ⟨rfl,⟨q,rfl⟩,k,k0,k1,hr,hu,hl,tq⟩;obtain⟨b8,rfl,rfl⟩:=J3 k1 hr;obtain⟨v,fv⟩:=f2 k k0 (by omega);have up:Ups (y1 % here) (k+1) (acc.map (·.2)):=⟨hu.1,λx hx=>by obtain⟨i,e,a,b,c⟩:=hu.2 x hx;exact⟨i,e,a,by omega,c⟩⟩;cases hq:(y1 % here==k)with
    | true=>
     have hk:y1 % here=k:=by simpa using hq
     simp![qxm hf,hq];exact⟨⟨_,rfl⟩,k+1,by omega,by omega,rfl,up,by omega,λ_=>by omega⟩
    | false=>
     have hk:y1 % here≠k:=by simpa using hq
     cases hv:(v==1)with
     | false=>
      simp![qxm hf,hq,fv,xv,hv];exact⟨⟨_,rfl⟩,k+1,by omega,by omega,rfl,up,by omega,λh=>by have:=tq (by omega);omega⟩
     | true=>
      simp![qxm hf,hq,fv,xv,hv];refine⟨⟨_,rfl⟩,k+1,by omega,by omega,rfl,⟨?_,λx hx=>?_⟩,by simp;omega,λh=>by have:=tq (by omega);simp;omega⟩
      ·rw[Xp,List.pairwise_append];refine⟨hu.1,by simp,λx hx y hy=>?_⟩;obtain⟨i,e,a,b,c⟩:=hu.2 x hx;exact⟨i,k,e,by simpa using hy,b⟩
      ·rw[Xp]at hx;rcases List.mem_append.mp hx with z|z
       ·exact up.2 x z
       ·exact⟨k,by simpa using z,k0,by omega,λz=>hk z.symm⟩
   ·rintro E1 B acc ⟨rfl,⟨q,rfl⟩,k,k0,k1,hr,hu,hl,tq⟩;have:=W6 k1 hr;subst this;rw[z7];simp only[Q1,back,clr,at',List.drop,List.map_cons,List.map_nil,List.set_cons_zero,List.set_cons_succ];have:=tq q1;have on:(acc.map (·.2)).length<=2:=by rw[X4];omega
    simp![kzt (o1:=.rt) (o2:=.no) (a:=fs++[.int (y1 % k)]) (b:=acc.map (·.2)) (by decide) (by decide) (by simp;omega)];exact la _ (vk9 hf q0 q1 hu on)
 ·by_cases h1:0<here
  ·have e1:decide (0<here)=true:=Xb h1;have e2:decide (1<y0)=false:=Xa (λz=>hc ⟨h1,z⟩);simp![e1,f0,e2];exact la _ (kxz hf)
  ·have e1:decide (0<here)=false:=Xa h1;simp![e1];exact la _ (kxz hf)
theorem vqr{en:Sm}{ap:Bool}{here y0:Int}{ys:List Int}{o0 o1 o2:Own}{N C:En->Prop}{R:Sd->Prop}(f0:jV (iL ys) (.int 0)=some (.int y0))
  (la:∀fs,(fs=[]\/fs=[.str "fresh"])->Po (en [some (o0,iL ys),some (o1,.int here),some (o2,.bl ap),some (.rt,.lst fs)]) N C R noX):
  Po ((j5 (sIf (tOr (tE (cF2 (pu2 fGt) (j6 (vV 0) (C9 0)) (C9 2))) (tAnd (tE (cF2 (pu2 fEq) (vV 1) (C9 0))) (tE (cF2 (pu2 fGt) (j6 (vV 0) (C9 0)) (C9 0))))) (qK qJ 3 (cC (.str "fresh"))) k9) en) [some (o0,iL ys),some (o1,.int here),some (o2,.bl ap),some (.rt,.lst [])]) N C R noX:=by
 have yes:Po ((qK qJ 3 (cC (.str "fresh"))) [some (o0,iL ys),some (o1,.int here),some (o2,.bl ap),some (.rt,.lst [])]) (λE=>Po (en E) N C R noX) C R noX:=by
  refine vY rfl ?_;simp![];exact⟨_,rfl,by simp,la _ (.inr rfl)⟩
 by_cases c1:2<y0
 ·have e1:decide (2<y0)=true:=Xb c1;simp![f0,e1];exact yes
 ·have e1:decide (2<y0)=false:=Xa c1;cases c2:(here==0)with
  | false=>
   simp![f0,e1,xv,c2];exact la _ (.inl rfl)
  | true=>
   by_cases c3:0<y0
   ·have e3:decide (0<y0)=true:=Xb c3;simp![f0,e1,xv,c2,e3];exact yes
   ·have e3:decide (0<y0)=false:=Xa c3;simp![f0,e1,xv,c2,e3];exact la _ (.inl rfl)
theorem vzt{ap:Bool}{here y0 y1 y5:Int}{ys:List Int}(nt:0<=here)(hh3:here<=3)(f0:jV (iL ys) (.int 0)=some (.int y0))(f1:jV (iL ys) (.int 1)=some (.int y1))(f5:jV (iL ys) (.int 5)=some (.int y5))(f2:∀k:Int,0<=k->k<3->∃v,jV (iL ys) (.int (2+k))=some (.int v)):
  Oo m__law_asks [(.no,iL ys),(.no,.int here),(.no,.bl ap)] (λy=>∃as,y=(.rt,.lst as)/\Jj ap here as) noX:=by
 have tail:∀(N C:En->Prop) fs,(fs=[]\/fs=[.str "fresh"])->Po ((j5 (sIf (tAnd (tE (cF2 (pu2 fGt) (vV 1) (C9 0))) (tE (cF2 (pu2 fGt) (j6 (vV 0) (C9 0)) (C9 1)))) (j5 (qK qJ 3 (cF2 (pu2 jY) (j6 (vV 0) (C9 1)) (vV 1)))
  (sIf (tEQ (vV 2)) (jk 3 (cF2 jx (vV 3) (vE (cLC .rt 1 [3,0] (vz (vV 1)) (.n 0) (tAnd (tE (cF2 (pu2 wW) (vV 0) (vV 1))) (tE (cF2 (pu2 fEq) (j6 (vV 2) (vE (cF2 jx (C9 2) (vV 0)))) (C9 1)))) (cV 0))))) k9)) k9)
  (j5 (sIf (tE (cF2 (pu2 fEq) (j6 (vV 0) (C9 5)) (C9 1))) (WV 3) k9)
  (jz (cMv 3)))) [some (.no,iL ys),some (.no,.int here),some (.no,.bl ap),some (.rt,.lst fs)]) N C (λy=>∃as,y=(.rt,.lst as)/\Jj ap here as) noX:=λN C fs hf=>wq6 nt hh3 f0 f1 f2 hf λas h=>wqz f5 h
 have all:=vqr (en:=_) (ap:=ap) (here:=here) (o0:=.no) (o1:=.no) (o2:=.no) f0 (tail (λ_=>∃as,((Own.dp,D.non):Sd)=(.rt,.lst as)/\Jj ap here as) (λ_=>False));unfold m__law_asks;refine kX ?_;cases h1:(y0==1)with
 | true=>
  simp![f0,xv,h1];exact⟨_,rfl,by simp,λa ha=>by rw[List.mem_singleton.mp ha];exact .inr (.inl rfl),by simp⟩
 | false=>
  refine vwy (E:=[some (.no,iL ys),some (.no,.int here),some (.no,.bl ap),none]) ?_ ?_
  ·simp![f0,xv,h1]
  ·rw[w_seq,w_asg,eo_lst,args_nil];exact all
end F
namespace F
open Q PySem C
noncomputable def m__law_fills:Fn:=fn 9
  (j5 (jk 5 (cF2 jx (vE (k8 .rt [(cC (.str "new")),(cC .non)])) (vE (W0 (vV 2)))))
  (j5 (jk 6 (k8 .rt []))
  (j5 (qX (itS (cSl (vV 0) none (some (vV 3)))) (.n 7) (j5 (jk 8 (cH (j6 (vV 5) (vE (cF2 (pu2 jY) (vV 7) (vE (cF1 (pu1 kY) (vV 5))))))))
  (j5 (sIf (tAnd (tEQ (vV 4)) (tE (cF2 (f2First fNotNon) (vV 8) (vE (cC .non))))) (sIf (tOr (tE (cF2 (pu2 JZ) (vV 8) (vV 6))) (tOr (tAnd (tE (cF2 (pu2 fEq) (vV 8) (vE (cC (.str "new"))))) (tOr (tE (cF2 (pu2 fEq) (vV 1) (vE (cC (.str "any"))))) (tE (cF2 (pu2 JZ) (vV 1) (vV 6))))) (tAnd (tE (cF2 (pu2 fEq) (vV 8) (vV 1))) (tE (cF2 (pu2 JZ) (vE (cC (.str "new"))) (vV 6)))))) (jk 8 (cC .non)) k9) k9)
  (qK qJ 6 (cV 8)))))
  (jz (cF1 z3 (vV 6))))))
def Ak(d:D):Prop:=At d\/∃z,d=.str z
theorem vvj{a b:D}(ha:Ak a)(hb:Ak b):peq a b=decide (a=b):=by
 rcases ha with ha|⟨z,rfl⟩
 ·rcases hb with hb|⟨w,rfl⟩
  ·exact qji ha hb
  ·rcases ha with rfl|⟨i,rfl⟩<;>simp[peq]
 ·rcases hb with hb|⟨w,rfl⟩
  ·rcases hb with rfl|⟨i,rfl⟩<;>simp[peq]
  ·show(z==w)=_
   by_cases h:z=w
   ·subst h;simp
   ·rw[Xa (λe=>h (by injection e))];simpa using h
theorem kwx{d:D}{n:Nat}(h:Ak d):d.flat n=true:=by
 rcases h with h|⟨z,rfl⟩
 ·exact h.flat
 ·cases n<;>rfl
theorem vw0{x:D}(hx:Ak x):∀{K:List D},(∀s∈K,Ak s)->(K.any λz=>peq z x)=decide (x∈K)
 | [],_=>by simp
 | k::K,h=>by
  rw[Z5,vvj (h k X3) hx,vw0 hx (λs hs=>h s (lc9 _ hs))]
  by_cases e1:k=x
  ·simp[e1]
  ·have e3:¬x=k:=λz=>e1 z.symm
   by_cases e2:x∈K<;>simp[e1,e2,e3]
theorem Jw{x:D}{K:List D}(hx:Ak x)(hK:∀s∈K,Ak s):JZ x (.lst K)=some (.bl (decide (x∈K))):=by
 show(if x.flat 30&&D.flats 30 K then some (D.bl (K.any λz=>peq z x))else none)=_;rw[kwx hx,xZ (λk hk=>kwx (hK k hk)),vw0 hx hK];rfl
theorem zx{a b:D}(ha:Ak a)(hb:Ak b):fEq a b=some (.bl (decide (a=b))):=by
 unfold fEq;rw[kwx ha,kwx hb,vvj ha hb];rfl
theorem wx7{n:Int}{g:D}(h:Gd n g):Ak g:=by
 rcases h with rfl|rfl|⟨i,_,_,rfl⟩
 ·exact .inr ⟨_,rfl⟩
 ·exact .inr ⟨_,rfl⟩
 ·exact .inl (.inr ⟨i,rfl⟩)
theorem wqx{n:Int}{g:D}(h:Fd n g):Ak g:=by
 rcases h with rfl|rfl|⟨i,_,_,rfl⟩
 ·exact .inr ⟨_,rfl⟩
 ·exact .inl (.inl rfl)
 ·exact .inl (.inr ⟨i,rfl⟩)
theorem kwo{n:Int}{g f:D}{fs:List D}(hg:Gd n g)(h:FA g fs)(h1:f=.non\/f∉fs)(h2:f=.str "new"->g≠.str "any"/\g∉fs)(h3:f=g->D.str "new"∉fs):FA g (fs++[f]):=by
 have gn:g≠.non/\g≠.str "new":=by
  rcases hg with rfl|rfl|⟨i,_,_,rfl⟩
  ·exact⟨(λz=>nomatch z),by intro z;injection z with z;exact absurd z (by decide)⟩
  ·exact⟨(λz=>nomatch z),by intro z;injection z with z;exact absurd z (by decide)⟩
  ·exact⟨(λz=>nomatch z),(λz=>nomatch z)⟩
 refine⟨λi j d hd hi hj=>?_,λhn=>?_⟩
 ·have key:∀{i:Nat},(fs++[f])[i]?=some d->fs[i]?=some d\/(i=fs.length/\d=f):=fun {i} hi=>by
   rw[List.getElem?_append]at hi
   split at hi
   ·exact .inl hi
   ·rename_i b8
    by_cases e:i - fs.length=0
    ·rw[e]at hi;exact .inr ⟨by omega,by simpa using hi.symm⟩
    ·rw[Yo (by simp;omega)]at hi;cases hi
  rcases key hi with a|⟨a,rfl⟩
  ·rcases key hj with b|⟨b,rfl⟩
   ·exact h.1 i j d hd a b
   ·rcases h1 with z|z
    ·exact absurd z hd
    ·exact absurd (Xm a) z
  ·rcases key hj with b|⟨b,_⟩
   ·rcases h1 with z|z
    ·exact absurd z hd
    ·exact absurd (Xm b) z
   ·omega
 ·rcases List.mem_append.mp hn with a|a
  ·obtain⟨c1,c2⟩:=h.2 a;refine⟨c1,λz=>?_⟩;rcases List.mem_append.mp z with z|z
   ·exact c2 z
   ·exact h3 (List.mem_singleton.mp z).symm a
  ·have a:=(List.mem_singleton.mp a).symm;obtain⟨c1,c2⟩:=h2 a;refine⟨c1,λz=>?_⟩;rcases List.mem_append.mp z with z|z
   ·exact c2 z
   ·exact gn.2 ((List.mem_singleton.mp z).trans a)
theorem wqy{g:D}:FA g []:=⟨(λi j f _ h=>by simp at h),(λh=>nomatch h)⟩
noncomputable def FAb(ap:Bool)(g:D)(fs:List D):Prop:=ap=true->FA g fs
inductive FJ1 (zs:List Int)(g:D)(here there:Int)(ap:Bool)(LL:List D):En->List D->Prop
 |mk (fs:List D) (ws:List Int) {l7:Option Sd} {l8:Option Sd} {jw:List D} (h0:jw=ws.map D.int) (h1:(fs.length+ws.length:Int)=there) (h2:(∀f∈fs,Fd here f)) (h3:FAb ap g fs):FJ1 zs g here there ap LL [some (.no,iL zs),some (.no,g),some (.no,.int here),some (.no,.int there),some (.no,.bl ap),some (.rt,.lst LL),some (.rt,.lst fs),l7,l8] jw
theorem vqs {ap:Bool} {zs:List Int} {g:D} {here there:Int} (h0:0<=here) (h3:here<=3) (t0:0<=there) (t3:there<=3) (hz:zs.length=3) (hg:Gd here g):
  Oo m__law_fills [(.no,iL zs),(.no,g),(.no,.int here),(.no,.int there),(.no,.bl ap)] (λy=>∃fs,y=(.no,.tup fs)/\(∀f∈fs,Fd here f)/\(fs.length:Int)=there/\FAb ap g fs) noX:=by
 have m6:=kkr (k:=0) (n:=here) h0;have bd:jx (.no,.lst [.str "new",.non]) (.no,.lst (jQ 0 here))=some (.rt,.lst ([.str "new",.non]++jQ 0 here)):=kzt (by decide) (by decide) (by simp;omega);have lb:((([.str "new",.non]++jQ 0 here:List D).length:Nat):Int)=2+here:=by simp;omega
 have hLm:∀d∈([.str "new",.non]++jQ 0 here:List D),Fd here d:=λd hd=>by
  rcases List.mem_append.mp hd with z|z
  ·rcases List.mem_cons.mp z with rfl|z
   ·exact .inl rfl
   ·rw [List.mem_singleton.mp z];exact .inr (.inl rfl)
  ·obtain⟨i,i0,i1,rfl⟩:=Kq z;exact .inr (.inr ⟨i,i0,i1,rfl⟩)
 generalize ([.str "new",.non]++jQ 0 here:List D)=LL at bd lb hLm;have c8:Ak (.str "new"):=.inr ⟨_,rfl⟩;have m4:Ak (.str "any"):=.inr ⟨_,rfl⟩;have nk:=wx7 hg;unfold m__law_fills;refine kX ?_;simp![bd];refine vZ (FJ1 zs g here there ap LL) ?_ ?_ ?_
 ·simp![vkk (o:=.no) (xs:=zs.map D.int) (lo:=none) (hi:=some there) (by decide)];refine ⟨[],zs.take there.toNat,?_,?_,(λf hf=>nomatch hf),λ_=>wqy⟩
  ·rw [vvv t0 (by simp;omega),List.map_take]
  ·simp;omega
 ·rintro E d ds ⟨fs,ws,hr,hl,im,jg⟩;cases ws with
  | nil=>cases hr
  | cons w ws=>
   rw [List.map_cons]at hr;injection hr with e1 e2;subst e1 e2;rw [Xr]at hl;have q0:=Xq w (show 2+here≠0 by omega);have q1:=Xk w (show 0<2+here by omega);have dk:=vxv LL (w % (2+here)) q0 (by omega);have io:=hLm _ (J7 LL (w % (2+here)) q0 (by omega));generalize LL.getD (w % (2+here)).toNat .non=one at dk io;have ku:∀s∈fs,Ak s:=λs hs=>wqx (im s hs)
   have hok:=wqx io;have fin:∀(o8:Own) (o:D),Fd here o->FAb ap g (fs++[o])->Po (qK qJ 6 (cV 8) [some (.no,iL zs),some (.no,g),some (.no,.int here),some (.no,.int there),some (.no,.bl ap),some (.rt,.lst LL),some (.rt,.lst fs),some (.no,.int w),some (o8,o)]) (λE=>FJ1 zs g here there ap LL E (ws.map D.int)) (λE=>FJ1 zs g here there ap LL E (ws.map D.int)) (λy=>∃fs,y=(.no,.tup fs)/\(∀f∈fs,Fd here f)/\(fs.length:Int)=there/\FAb ap g fs) noX:=λo8 o ho ha=>by
    refine vY rfl ?_;simp![];refine⟨_,rfl,by omega,_,ws,rfl,by simp;omega,λf hf=>?_,ha⟩;rcases List.mem_append.mp hf with z|z
    ·exact im f z
    ·rw [List.mem_singleton.mp z];exact ho
   have ka:ap=true->∀o8,Po (qK qJ 6 (cV 8) [some (.no,iL zs),some (.no,g),some (.no,.int here),some (.no,.int there),some (.no,.bl ap),some (.rt,.lst LL),some (.rt,.lst fs),some (.no,.int w),some (o8,.non)]) _ _ _ noX:=λnh o8=>fin o8 .non (.inr (.inl rfl)) λh=>kwo hg (jg h) (.inl rfl) (λz=>nomatch z) (λz=>by rw[<-z]at hg;rcases hg with z|z|⟨_,_,_,z⟩<;>cases z)
   cases ap with
   | false=>
    simp![lb,mod_i (a:=w) (b:=2+here) (by omega),dk];exact fin _ one io (λh=>nomatch h)
   | true=>
    rcases io with rfl|rfl|⟨i,i0,i1,rfl⟩
    ·by_cases c1:D.str "new"∈fs
     ·simp![lb,mod_i (a:=w) (b:=2+here) (by omega),dk,Jw hok ku,Xb c1];exact ka rfl _
     ·by_cases c2:g=.str "any"
      ·simp![lb,mod_i (a:=w) (b:=2+here) (by omega),dk,Jw hok ku,Xa c1,zx nk m4,Xb c2,zx c8 c8];exact ka rfl _
      ·by_cases c3:g∈fs
       ·simp![lb,mod_i (a:=w) (b:=2+here) (by omega),dk,Jw hok ku,Xa c1,zx nk m4,Xa c2,Jw nk ku,Xb c3,zx c8 c8];exact ka rfl _
       ·have c4:¬(D.str "new"=g):=λz=>by
         rw[<-z]at hg;rcases hg with z|z|⟨_,_,_,z⟩
         ·injection z with z;exact absurd z (by decide)
         ·injection z with z;exact absurd z (by decide)
         ·cases z
        simp![lb,mod_i (a:=w) (b:=2+here) (by omega),dk,Jw hok ku,Xa c1,zx nk m4,Xa c2,Jw nk ku,Xa c3,zx c8 c8,zx c8 nk,Xa c4];exact fin _ _ (.inl rfl) λ_=>kwo hg (jg rfl) (.inr c1) (λ_=>⟨c2,c3⟩) (λz=>absurd z c4)
    ·simp![lb,mod_i (a:=w) (b:=2+here) (by omega),dk];exact ka rfl _
    ·have io:Fd here (.int i):=.inr (.inr ⟨i,i0,i1,rfl⟩);have c0:¬(D.int i=.str "new"):=λz=>nomatch z
     by_cases c1:D.int i∈fs
     ·simp![lb,mod_i (a:=w) (b:=2+here) (by omega),dk,Jw hok ku,Xb c1];exact ka rfl _
     ·by_cases c2:D.int i=g
      ·by_cases c3:D.str "new"∈fs
       ·simp![lb,mod_i (a:=w) (b:=2+here) (by omega),dk,Jw hok ku,Xa c1,zx hok c8,Xa c0,zx hok nk,Xb c2,Jw c8 ku,Xb c3];exact ka rfl _
       ·simp![lb,mod_i (a:=w) (b:=2+here) (by omega),dk,Jw hok ku,Xa c1,zx hok c8,Xa c0,zx hok nk,Xb c2,Jw c8 ku,Xa c3];exact fin _ _ io λ_=>kwo hg (jg rfl) (.inr c1) (λz=>absurd z c0) (λ_=>c3)
      ·simp![lb,mod_i (a:=w) (b:=2+here) (by omega),dk,Jw hok ku,Xa c1,zx hok c8,Xa c0,zx hok nk,Xa c2];exact fin _ _ io λ_=>kwo hg (jg rfl) (.inr c1) (λz=>absurd z c0) (λz=>absurd z c2)
 ·rintro E ⟨fs,ws,hr,hl,im,jg⟩;cases ws with
  |cons=>cases hr
  |nil=>
   simp![J5 (o:=.rt) (xs:=fs) (by decide)];exact⟨fs,rfl,im,by simpa using hl,jg⟩
theorem vxu(i:Int)(h0:0<=i)(h1:i<26):jV (.str "abcdefghijklmnopqrstuvwxyz") (.int i)=some (.str ⟨#[ltr.getD i.toNat 0]⟩):=by
 obtain⟨n,rfl⟩:=Yx h0;have h26:ltr.length=26:=by decide +kernel
 have hn:n<ltr.length:=by omega
 have hs:(("abcdefghijklmnopqrstuvwxyz":Str).cps.size:Int)=26:=by decide +kernel
 show((Q.ixN ("abcdefghijklmnopqrstuvwxyz":Str).cps.size n).bind λj=>(ltr[j]?).map λc=>D.str ⟨#[c]⟩)=_;unfold Q.ixN;rw[X9 h0,X9 (by omega)];show((ltr[n]?).map λc=>D.str ⟨#[c]⟩)=_;rw[X1 hn,X2,Xs,X1 hn];rfl
theorem vxl:∀i<26,∀j<26,ltr.getD i 0=ltr.getD j 0->i=j:=by decide +kernel
noncomputable def Ltr(b st:Int)(at_:Nat)(i:Nat)(z:Str):Prop:=z.cps.toList[at_]?=some (ltr.getD ((b+i*(st+1)) % 26).toNat 0)
inductive FJ2 (x n sz am st b:Int):En->List D->Prop
 |mk (k:Int) (ss:List Str) {l7:Option Sd} {l8:Option Sd} {l9:Option Sd} {i9:Option Sd} {jw:List D} (h0:0<=k) (h1:k<=n) (h2:jw=jQ k n) (h3:(ss.length:Int)=k) (h4:∀i:Nat,i<ss.length->Ltr b st am.toNat i (ss.getD i "")):FJ2 x n sz am st b [some (.no,.int x),some (.no,.int n),some (.dp,.str "abcdefghijklmnopqrstuvwxyz"),some (.no,.int sz),some (.dp,.int am),some (.no,.int st),some (.rt,sL ss),l7,l8,l9,i9] jw
inductive FJ3 (x n sz am st b k:Int)(ss:List Str):En->List D->Prop
 |mk (j:Int) (z:Str) {l9:Option Sd} {i9:Option Sd} {o8:Own} {jw:List D} (h0:0<=j) (h1:j<=sz+1) (h2:jw=jQ j (sz+1)) (h3:(z.cps.size:Int)=j) (h4:(am<j->Ltr b st am.toNat ss.length z)):FJ3 x n sz am st b k ss [some (.no,.int x),some (.no,.int n),some (.dp,.str "abcdefghijklmnopqrstuvwxyz"),some (.no,.int sz),some (.dp,.int am),some (.no,.int st),some (.rt,sL ss),some (.no,.int k),some (o8,.str z),l9,i9] jw
theorem qxs{a d:Int}(h0:0<d)(h1:d<26)(h:(a+d) % 26=a % 26):False:=by omega
theorem qwg(x n:Int)(hx:0<=x)(h0:0<=n)(h1:n<=3):Oo C.m__law_signs [(.no,.int x),(.no,.int n)] (λy=>∃ss,y=(.rt,sL ss)/\(ss.length:Int)=n/\ss.Nodup) noX:=by
 unfold C.m__law_signs;refine kX ?_;simp![];refine(Zz x [8,840,8] (by decide) (by decide)).via ?_;rintro _ ⟨ds,rfl,hd⟩;obtain⟨sz,at_,st,rfl,a1,a2,a3,a4,a5,a6⟩:=wv0 hd;simp![];have b1:=Xq at_ (show sz+1≠0 by omega);have b2:=Xk at_ (show 0<sz+1 by omega);generalize at_ % (sz+1)=am at b1 b2;obtain⟨b,hb⟩:∃b,b=x / (53761+26*am*am):=⟨_,rfl⟩;refine vZ (FJ2 x n sz am st b) ?_ ?_ ?_
 ·refine JV ?_;simp![];exact⟨n,rfl,by omega,by omega,0,[],by omega,h0,rfl,rfl,λi hi=>absurd hi (Nat.not_lt_zero _)⟩
 ·rintro E d ds ⟨k,ss,k0,k1,hr,hl,hS⟩;obtain⟨hk,rfl,rfl⟩:=J3 k1 hr;simp![];refine vZ (FJ3 x n sz am st b k ss) ?_ ?_ ?_
  ·refine JV ?_;simp![];exact⟨sz+1,rfl,by omega,by omega,0,"",by omega,by omega,rfl,rfl,λh=>by omega⟩
  ·rintro E d ds ⟨j,z,j0,j1,hr,hz,mo⟩;obtain⟨hj,rfl,rfl⟩:=J3 j1 hr;have jj0:0<=j*j:=Z8 j0 j0;have jj1:j*j<=8*8:=Z7 (by omega) (by omega) j0 (by decide);have kk0:0<=k*(st+1):=Z8 k0 (by omega);have kk1:k*(st+1)<=3*9:=Z7 (by omega) (by omega) (by omega) (by decide);have e1:26*j*j=26*(j*j):=Int.mul_assoc _ _ _;have hdv:wZ (.int x) (.int (53761+26*j*j))=some (.int (x / (53761+26*j*j))):=div_i (by omega) (by omega);have key:∃w:Int,J0 (.bl (j==am))=some (.int w)/\0<=w/\w<=1/\(j=am->w=1):=by
    by_cases h:j=am
    ·rw[show(j==am)=true by simpa using h];exact⟨1,rfl,by decide,by decide,λ_=>rfl⟩
    ·rw[show(j==am)=false by simpa using h];exact⟨0,rfl,by decide,by decide,λz=>absurd z h⟩
   simp![xv,hdv];obtain⟨w,hw,w0,w1,hw1⟩:=key;simp![hw];have hte:j=am->x / (53761+26*j*j)+k*(st+1)*w=b+ss.length*(st+1):=λh=>by rw[hw1 h,hb,h,hl,Int.mul_one]
   generalize x / (53761+26*j*j)+k*(st+1)*w=t at hte;have t0:=Xq t (show(26:Int)≠0 by decide);have t1:=Xk t (show(0:Int)<26 by decide);simp![vxu (t % 26) t0 t1];have hs:((⟨#[ltr.getD (t % 26).toNat 0]⟩:Str).cps.size)=1:=rfl;simp![wv7 (a:=z) (b:=⟨#[ltr.getD (t % 26).toNat 0]⟩) (by rw[hs];omega)];refine FJ3.mk (sz:=sz) (am:=am) (st:=st) (b:=b) (ss:=ss) (j+1) (z++⟨#[ltr.getD (t % 26).toNat 0]⟩) (by omega) (by omega) rfl (by rw[vkl,hs];omega) (λh=>?_);have hcp:(z++⟨#[ltr.getD (t % 26).toNat 0]⟩:Str).cps.toList=z.cps.toList++[ltr.getD (t % 26).toNat 0]:=by
    show(z.cps++#[ltr.getD (t % 26).toNat 0]).toList=_;rw[Array.toList_append]
   have hzs:z.cps.toList.length=z.cps.size:=Yb;unfold Ltr;rw[hcp]
   by_cases hja:j=am
   ·have ht:=hte hja;rw[Xy (by omega),show am.toNat - z.cps.toList.length=0 by omega,<-ht];rfl
   ·rw[Xu (by omega)];exact mo (by omega)
  ·rintro E ⟨j,z,j0,j1,hr,hz,mo⟩;have:=W6 j1 hr;refine vY rfl ?_;simp![];refine⟨_,rfl,by rw[X4];omega,?_⟩;rw[show ss.map D.str++[D.str z]=(ss++[z]).map D.str by simp];refine⟨k+1,ss++[z],by omega,by omega,rfl,by simp;omega,λi hi=>?_⟩;rw[Xi,Yd]at hi;rw[X2]
   by_cases kt:i<ss.length
   ·rw[Xu kt,<-X2];exact hS i kt
   ·have:i=ss.length:=by omega
    subst this;rw[Xy (X8 _),Nat.sub_self];exact mo (by omega)
 ·rintro E ⟨k,ss,k0,k1,hr,hl,hS⟩;have:=W6 k1 hr;subst this;simp![vke (o:=.rt) (ss:=ss) (by omega)];refine⟨K0 ss,rfl,by rw[kx7];exact hl,(jvw ss).nodup_iff.mpr ?_⟩;rw[List.nodup_iff_pairwise_ne,List.pairwise_iff_getElem];intro i j hi hj p9 e;have p1:=hS i hi;have p2:=hS j hj;rw[X2,X1 hi]at p1;rw[X2,X1 hj]at p2;have p1:Ltr b st am.toNat i ss[i]:=p1;have p2:Ltr b st am.toNat j ss[j]:=p2;unfold Ltr at p1 p2;rw[e,p2]at p1;have p1:=oq9 p1;have m0:=Xq (b+i*(st+1)) (show(26:Int)≠0 by decide);have m1:=Xk (b+i*(st+1)) (show(0:Int)<26 by decide);have m2:=Xq (b+j*(st+1)) (show(26:Int)≠0 by decide);have m3:=Xk (b+j*(st+1)) (show(0:Int)<26 by decide);have:=vxl _ (by omega) _ (by omega) p1;have hij3:=wkt j (by omega) i p9;have hq:(b+j*(st+1)) % 26=(b+i*(st+1)) % 26:=by
   have:=congrArg (λn:Nat=>(n:Int)) this;simp only[Int.toNat_of_nonneg m0,Int.toNat_of_nonneg m2]at this
   first|exact this|exact this.symm
  clear this p1 m0 m1 m2 m3 p2 hS;rcases hij3 with⟨rfl,rfl⟩|⟨rfl,rfl⟩|⟨rfl,rfl⟩
  ·exact qxs (a:=b) (d:=st+1) (by omega) (by omega) (by rw[show((1:Nat):Int)*(st+1)=st+1 from Int.one_mul _,show((0:Nat):Int)*(st+1)=0 from Int.zero_mul _,Int.add_zero]at hq;exact hq)
  ·exact qxs (a:=b) (d:=2*(st+1)) (by omega) (by omega) (by rw[show((0:Nat):Int)*(st+1)=0 from Int.zero_mul _,Int.add_zero]at hq;exact hq)
  ·exact qxs (a:=b+(st+1)) (d:=st+1) (by omega) (by omega) (by rw[show((1:Nat):Int)*(st+1)=st+1 from Int.one_mul _]at hq;rw[<-hq,Int.add_assoc];congr 2;show _=(2:Int)*(st+1);rw[Int.two_mul])
end F
namespace F
open Q PySem C
noncomputable def m__law_single(dr:Fn):Fn:=fn 15
  (j5 (jk 3 (jK C.m__law_digits [(jK dr [(cV 0),(cV 1)]),(cF2 jx (vE (cF2 jx (vE (k8 .rt [(cC (.int 4)),(cC (.int 8)),(cC (.int 2))])) (vE (cF2 jX (vE (k8 .rt [(cC (.int 12))])) (C9 4))))) (vE (cF2 jX (vE (k8 .rt [(cC (.int 2))])) (C9 4))))]))
  (j5 (jk 4 (cF2 jx (C9 1) (j6 (vV 3) (C9 0))))
  (j5 (jk 5 (cLC .rt 1 [3] (vz (vV 4)) (.n 0) tYes (cF2 (pu2 jY) (j6 (vV 1) (vE (cF2 jx (C9 3) (vV 0)))) (vE (cF2 jx (C9 3) (vE (cF1 (pu1 J0) (vE (cF2 (pu2 fEq) (j6 (vV 1) (C9 1)) (C9 3))))))))))
  (j5 (jk 6 (k8 .rt []))
  (j5 (qX (vz (vV 4)) (.n 7) (j5 (jk 8 (k8 .rt []))
  (j5 (qX (vz (vE (cF1 (pu1 kY) (vV 2)))) (.n 9) (j5 (jk 10 (jK dr [(cV 0),(cF2 jx (vE (cF2 jx (vE (cF2 jx (vV 1) (C9 1))) (vE (cF2 jX (vV 7) (vE (cF1 (pu1 kY) (vV 2))))))) (vV 9))]))
  (j5 (jk 10 (jK C.m__law_digits [(cV 10),(cF2 jx (vE (k8 .rt [(cC (.int 8)),(cC (.int 12)),(cC (.int 2)),(cC (.int 2)),(cC (.int 2)),(cC (.int 2))])) (vE (cF2 jX (vE (k8 .rt [(cC (.int 12)),(cC (.int 60)),(cC (.int 60)),(cC (.int 60))])) (C9 4))))]))
  (qX (wqn (jK m__law_asks [(cV 10),(cH (j6 (vV 5) (vV 7))),(cF2 (pu2 fEq) (j6 (vV 3) (C9 2)) (C9 1))])) (.t [11,12]) (j5 (jk 13 (cF2 (pu2 jY) (j6 (vV 10) (vE (cF2 jx (C9 6) (vE (cF2 jX (C9 4) (vV 11)))))) (vV 4)))
  (j5 (jk 14 (jK m__law_fills [(cSl (vV 10) (some (vE (cF2 jx (C9 7) (vE (cF2 jX (C9 4) (vV 11)))))) (some (vE (cF2 jx (C9 10) (vE (cF2 jX (C9 4) (vV 11))))))),(cV 12),(cH (j6 (vV 5) (vV 7))),(cH (j6 (vV 5) (vV 13))),(cF2 (pu2 fEq) (j6 (vV 3) (C9 2)) (C9 1))]))
  (qK qJ 8 (qw .no [(cH (j6 (vV 2) (vV 9))),(cV 12),(cV 13),(cV 14)]))))))))
  (qK qJ 6 (qw .no [(cH (j6 (vV 5) (vV 7))),(cF2 (pu2 fEq) (j6 (vV 3) (vE (cF2 jx (C9 7) (vV 7)))) (C9 1)),(cV 8)])))))
  (jz (qw .no [(qw .no [(cF1 V8 (vV 2)),(cV 6)]),(cF2 jx (vE (cF2 jx (vV 1) (C9 1))) (vE (cF2 jX (vV 4) (vE (cF1 (pu1 kY) (vV 2))))))])))))))
theorem vjb{ys:List Int}{lo n:Int}(h0:0<=lo)(h1:0<=n)(h2:lo+n<=ys.length):∃ws:List Int,K4 (ys.map D.int) (some lo) (some (lo+n))=ws.map D.int/\(ws.length:Int)=n:=by
 obtain⟨a,rfl⟩:=Yx h0;obtain⟨b,rfl⟩:=Yx h1;have h2:a+b<=ys.length:=by omega
 have ha:a<=ys.length:=Y3 (Nat.le_add_right a b) h2;refine⟨(ys.drop a).take b,?_,?_⟩
 ·unfold K4 JK;dsimp only;rw[Xd (Int.not_lt.mpr (Int.natCast_nonneg a)),Xd (Int.not_lt.mpr (Int.add_nonneg h0 h1)),X4,List.map_take,List.map_drop];show List.take (min (a+b) ys.length - min a ys.length) (List.drop (min a ys.length) _)=_;rw[Nat.min_eq_left h2,Nat.min_eq_left ha,Nat.add_sub_cancel_left]
 ·rw[List.length_take,List.length_drop,Nat.min_eq_left (Nat.le_sub_of_add_le (by rw[Nat.add_comm];exact h2))]
theorem vwb{ap:Bool}{ss:List Str}{j:Nat}(hj:j<ss.length)(ma:ss.Nodup){st jl as:List D}(h:wvd ap st)(t4:∀s∈st,∃i,i<j/\∃(hi:i<ss.length) (g t f:D),s=.tup [.str ss[i],g,t,f])(has:as.Pairwise (Cpt ap))(bd:∀(i:Nat) (d:D),jl[i]?=some d->∃(g t:D) (fs:List D),as[i]?=some g/\d=.tup [.str ss[j],g,t,.tup fs]/\(ap=true->FA g fs)):wvd ap (st++jl):=by
 have dif:∀{i:Nat} (hi:i<ss.length),i<j->ss[i]≠ss[j]:=fun {i} hi p9 e=>by
  exact List.pairwise_iff_getElem.mp ma i j hi hj p9 e
 refine⟨λi k z g g' t t' f f' hik hi hk=>?_,λnh z g t fs hm=>?_⟩
 ·rw[List.getElem?_append]at hi hk
  split at hk
  ·rw[X9 (by omega)]at hi;exact h.1 i k z g g' t t' f f' hik hi hk
  ·split at hi
   ·obtain⟨i',h1,h2,_,_,_,e⟩:=t4 _ (Xm hi);obtain⟨_,_,_,_,e2,_⟩:=bd _ _ hk;injection e with e;injection e with e _;injection e with e;injection e2 with e2;injection e2 with e2 _;injection e2 with e2;exact absurd (e.symm.trans e2) (dif h2 h1)
   ·obtain⟨ga,_,_,a1,e1,_⟩:=bd _ _ hi;obtain⟨gb,_,_,a2,e2,_⟩:=bd _ _ hk;injection e1 with e1;injection e1 with _ e1;injection e1 with e1 _;injection e2 with e2;injection e2 with _ e2;injection e2 with e2 _;subst e1 e2;obtain⟨b1,c1⟩:=List.getElem?_eq_some_iff.mp a1;obtain⟨b2,c2⟩:=List.getElem?_eq_some_iff.mp a2;have:=(List.pairwise_iff_getElem.mp has) _ _ b1 b2 (by omega);rw[c1,c2]at this;exact this
 ·rcases List.mem_append.mp hm with q|q
  ·exact h.2 nh z g t fs q
  ·obtain⟨i,hi⟩:=List.mem_iff_getElem?.mp q;obtain⟨_,_,_,_,e,ha⟩:=bd _ _ hi;injection e with e;injection e with _ e;injection e with e1 e;injection e with _ e;injection e with e _;injection e with e;subst e1 e;exact ha nh
inductive SJ1 (ns:List Int)(a:Int)(ss:List Str)(hs ks:List Int)(v0:Int)(ap:Bool):En->List D->Prop
 |mk (r:Nat) (rs:List D) {l7 l8 l9 i9 je jr i7 ia:Option Sd} {jw:List D} (h1:jw=jQ r (1+v0)) (h2:(r:Int)<=1+v0) (h3:rs.length=r) (h4:∀i:Nat,i<r->∃(gd:Bool) (st:List D),rs[i]?=some (.tup [.int (ks.getD i 0),.bl gd,.lst st])/\(∀s∈st,St (ks.getD i 0) s/\Sx ss ks s)/\st.length<=12/\wvd ap st):SJ1 ns a ss hs ks v0 ap [some (.no,iL ns),some (.no,.int a),some (.no,sL ss),some (.rt,iL hs),some (.dp,.int (1+v0)),some (.rt,iL ks),some (.rt,.lst rs),l7,l8,l9,i9,je,jr,i7,ia] jw
noncomputable def Sgn(ss:List Str)(j:Nat)(st:List D):Prop:=∀s∈st,∃i,i<j/\∃(hi:i<ss.length) (g t f:D),s=.tup [.str ss[i],g,t,f]
inductive SJ2 (ns:List Int)(a:Int)(ss:List Str)(hs ks:List Int)(v0:Int)(ap:Bool)(rs:List D)(r:Nat)(here:Int):En->List D->Prop
 |mk (j:Nat) (st:List D) {l9 i9 je jr i7 ia:Option Sd} {jw:List D} (h1:jw=jQ j ss.length) (h2:j<=ss.length) (h3:∀s∈st,St here s/\Sx ss ks s) (h4:st.length<=4*j) (h5:wvd ap st) (h6:Sgn ss j st):SJ2 ns a ss hs ks v0 ap rs r here [some (.no,iL ns),some (.no,.int a),some (.no,sL ss),some (.rt,iL hs),some (.dp,.int (1+v0)),some (.rt,iL ks),some (.rt,.lst rs),some (.no,.int r),some (.rt,.lst st),l9,i9,je,jr,i7,ia] jw
noncomputable def Ads(ss:List Str)(j:Nat)(hj:j<ss.length)(ap:Bool)(as jl:List D):Prop:=∀(i:Nat) (d:D),jl[i]?=some d->∃(g t:D) (fs:List D),as[i]?=some g/\d=.tup [.str ss[j],g,t,.tup fs]/\(ap=true->FA g fs)
inductive SJ3 (ns:List Int)(a:Int)(ss:List Str)(hs ks:List Int)(v0:Int)(ap:Bool)(rs:List D)(r:Nat)(here:Int)(st:List D)(j:Nat)(hj:j<ss.length)(ys:List Int):En->List D->Prop
 |mk (k:Nat) (as jl b7:List D) {je jr i7 ia:Option Sd} {jw:List D} (h0:b7=st++jl) (h1:Jj ap here as) (h2:k<=as.length) (h3:jw=zq k (as.drop k)) (h4:jl.length=k) (h5:∀s∈jl,St here s/\Sx ss ks s) (h6:Ads ss j hj ap as jl):SJ3 ns a ss hs ks v0 ap rs r here st j hj ys [some (.no,iL ns),some (.no,.int a),some (.no,sL ss),some (.rt,iL hs),some (.dp,.int (1+v0)),some (.rt,iL ks),some (.rt,.lst rs),some (.no,.int r),some (.rt,.lst b7),some (.no,.int j),some (.no,iL ys),je,jr,i7,ia] jw
theorem qj4 {dr:Fn} (qr:Dr dr) (ns:List Int) (a:Int) (ss:List Str) (ha:0<=a) (o9:a<=100) (hs:1<=ss.length) (gl:ss.length<=3) (ma:ss.Nodup):Oo (m__law_single dr) [(.no,iL ns),(.no,.int a),(.no,sL ss)] (λy=>∃rs at_,y=(.no,.tup [kz ss rs,.int at_])/\Rms rs/\a<=at_/\at_<=a+13/\∃kps:List Int,Rx ss kps rs/\(∀k∈kps,0<=k/\k<=3)/\∃ap,Sgl ap rs/\∀k g st,D.tup [k,g,.lst st]∈rs->st.length<=12) noX:=by
 have m1:zY (.no,.lst [.int 12]) (.no,.int 4)=some (.rt,.lst [.int 12,.int 12,.int 12,.int 12]):=rfl;have m2:zY (.no,.lst [.int 2]) (.no,.int 4)=some (.rt,.lst [.int 2,.int 2,.int 2,.int 2]):=rfl;have m3:zY (.no,.lst [.int 12,.int 60,.int 60,.int 60]) (.no,.int 4)=some (.rt,.lst [.int 12,.int 60,.int 60,.int 60,.int 12,.int 60,.int 60,.int 60,.int 12,.int 60,.int 60,.int 60,.int 12,.int 60,.int 60,.int 60]):=rfl;have p1':jx (.no,.lst [.int 4,.int 8,.int 2]) (.no,.lst [.int 12,.int 12,.int 12,.int 12])=some (.rt,.lst [.int 4,.int 8,.int 2,.int 12,.int 12,.int 12,.int 12]):=rfl;have p2':jx (.no,.lst [.int 4,.int 8,.int 2,.int 12,.int 12,.int 12,.int 12]) (.no,.lst [.int 2,.int 2,.int 2,.int 2])=some (.rt,.lst [.int 4,.int 8,.int 2,.int 12,.int 12,.int 12,.int 12,.int 2,.int 2,.int 2,.int 2]):=rfl;have p3':jx (.no,.lst [.int 8,.int 12,.int 2,.int 2,.int 2,.int 2]) (.no,.lst [.int 12,.int 60,.int 60,.int 60,.int 12,.int 60,.int 60,.int 60,.int 12,.int 60,.int 60,.int 60,.int 12,.int 60,.int 60,.int 60])=some (.rt,.lst [.int 8,.int 12,.int 2,.int 2,.int 2,.int 2,.int 12,.int 60,.int 60,.int 60,.int 12,.int 60,.int 60,.int 60,.int 12,.int 60,.int 60,.int 60,.int 12,.int 60,.int 60,.int 60]):=rfl;unfold m__law_single;refine kX ?_;simp![];refine (qr ns a ha (by omega)).use ?_;intro x _;simp![m1,m2,p1',p2'];refine (Zz x [4,8,2,12,12,12,12,2,2,2,2] (by decide) (by decide)).use ?_;intro gv hd;obtain ⟨v0,e0,a0,b0⟩:=dg hd 0 (by decide) (by decide);obtain ⟨v1,e1,a1,b1⟩:=dg hd 1 (by decide) (by decide);obtain ⟨v2,e2,a2,b2⟩:=dg hd 2 (by decide) (by decide);have b0:v0<4:=b0;have b1:v1<8:=b1;simp![e0];refine Kj [some (.rt,iL gv)] (λ_ y=>∃i,y=(.dp,.int i)/\0<=i/\i<=3) ?_;refine JV ?_;simp![];refine ⟨_,rfl,by omega,by omega,rfl,λd ik=>?_,λys hy=>?_⟩
 ·obtain⟨i,i0,i1,rfl⟩:=Kq ik;obtain⟨w,ew,aw,bw⟩:=dg hd (3+i) (by omega) (by simp;omega);obtain⟨q,hq,q0,q1⟩:=fint (v1==3);have r0:=Xq w (show 3+q≠0 by omega);have r1:=Xk w (show 0<3+q by omega);simp![ew,e1,xv,hq,mod_i (a:=w) (b:=3+q) (by omega)];exact ⟨⟨_,rfl⟩,_,rfl,by omega,by omega⟩
 obtain ⟨ks,h1,h2,dl⟩:=kq6 (S:=λi=>0<=i/\i<=3) (λd y ⟨i,h,s⟩=>⟨i,by rw[h],s⟩) hy;have m8:(ks.length:Int)=1+v0:=by rw[h2,kkr (by omega)];omega
 rw [z7,h1];simp only[back,clr,at',List.map_cons,List.map_nil,List.set_cons_zero,List.set_cons_succ];generalize nh:(v2==1)=ap;simp![];refine vZ (SJ1 ns a ss gv ks v0 ap) ?_ ?_ ?_
 ·refine JV ?_;simp![];exact ⟨_,rfl,by omega,by omega,.mk 0 [] rfl (by omega) rfl λi hi=>absurd hi (Nat.not_lt_zero _)⟩
 ·rintro E d ds ⟨r,rs,hr,mi,m6,hrs⟩;obtain⟨b8,rfl,rfl⟩:=J3 mi hr;obtain⟨here,eh,⟨nt,hh1⟩,oz⟩:=ixI ks _ dl r (by omega) (by omega);have oz:ks[r]?=some here:=by simpa using oz
  have u4:ks.getD r 0=here:=by rw[X2,oz];rfl
  obtain⟨g7,e7,_,_⟩:=dg hd (7+r) (by omega) (by simp;omega);simp![];refine vZ (SJ2 ns a ss gv ks v0 ap rs r here) ?_ ?_ ?_
  ·refine JV ?_;simp![];exact⟨ss.length,by simp,by omega,by omega,.mk 0 [] rfl (by omega) (λs hs=>nomatch hs) (by simp) ⟨(λi k z g g' t t' f f' _ h=>by simp at h),(λ_ _ _ _ _ h=>nomatch h)⟩ (λs hs=>nomatch hs)⟩
  ·rintro E d t5 ⟨j,st,hr2,hj,ao,hstl,hsgl,t4⟩;obtain⟨hjlt,rfl,rfl⟩:=J3 (by omega) hr2;have r6:j<ss.length:=by omega
   have fe:jV (sL ss) (.int j)=some (.str ss[j]):=v9 (by omega) (by simp[r6]);have hrj:(r:Int)*(ss.length:Int)<=3*3:=Z7 (by omega) (by omega) (by omega) (by decide);have hrj0:0<=(r:Int)*(ss.length:Int):=Z8 (by omega) (by omega);simp![];refine(qr ns (a+1+r*ss.length+j) (by omega) (by omega)).use ?_;intro x2 _;simp![m3,p3'];refine(Zz x2 [8,12,2,2,2,2,12,60,60,60,12,60,60,60,12,60,60,60,12,60,60,60] (by decide) (by decide)).use ?_;intro ld kh;obtain⟨y0,f0,g0,g0'⟩:=dg kh 0 (by decide) (by decide);obtain⟨y1,f1,g1,_⟩:=dg kh 1 (by decide) (by decide);obtain⟨y5,f5,g5,_⟩:=dg kh 5 (by decide) (by decide);simp![];refine vZ (SJ3 ns a ss gv ks v0 ap rs r here st j r6 ld) ?_ ?_ ?_
   ·simp![eh,e2,xv,nh];refine(vzt nt hh1 f0 f1 f5 (λk k0 k1=>by obtain⟨v,hv,_⟩:=dg kh (2+k) (by omega) (by simp;omega);exact⟨v,hv⟩)).use ?_;intro as has;simp![];exact .mk 0 as [] st (Xv _).symm has (Y9 _) rfl rfl (λs hs=>nomatch hs) (λi d h=>by simp at h)
   ·rintro E d ds3 ⟨k,as,jl,b7,gl,has,cu,hr3,on,bd,qo⟩
    by_cases qg:k<as.length
    ·rw [Ym qg,zq]at hr3;injection hr3 with e5 e6;subst e5 e6;have si:=has.2.2;have hag:Gd here as[k]:=has.2.1 _ (Xh _);obtain⟨y6,f6,g6,_⟩:=dg kh (6+4*k) (by omega) (by simp;omega);have r0:=Xq y6 (show 1+v0≠0 by omega);have r1:=Xk y6 (show 0<1+v0 by omega);obtain⟨qt,et,⟨qs,ht1⟩,hkto⟩:=ixI ks _ dl (y6 % (1+v0)) r0 (by omega);obtain⟨ws,hws,lx⟩:∃ws:List Int,K4 (ld.map D.int) (some (7+4*k)) (some (10+4*k))=ws.map D.int/\ws.length=3:=by
      have hyl:ld.length=22:=kh.len;obtain⟨ws,e1,e2⟩:=vjb (ys:=ld) (lo:=7+4*k) (n:=3) (by omega) (by decide) (by rw[hyl];omega);exact⟨ws,by rw[show(10:Int)+4*k=7+4*k+3 by omega];exact e1,Int.ofNat.inj e2⟩
     simp![f6,mod_i (a:=y6) (b:=1+v0) (by omega),vkk (o:=.no) (xs:=ld.map D.int) (lo:=some (7+4*k)) (hi:=some (10+4*k)) (by decide),hws,eh,et,e2,xv,nh];refine(vqs (ap:=ap) (g:=as[k]) (here:=here) (there:=qt) nt hh1 qs ht1 lx hag).use ?_;rintro fs ⟨im,pe,jg⟩;simp![];refine vY rfl ?_;simp![fe];refine⟨_,rfl,by rw[gl,Xi];omega,.mk (k+1) as (jl++[.tup [.str ss[j],as[k],.int (y6 % (1+v0)),.tup fs]]) _ (by rw[gl,Xz]) has (by omega) rfl (by simp[on]) (λs hs=>?_) (λi d hi=>?_)⟩
     ·rcases List.mem_append.mp hs with z|z
      ·exact bd s z
      ·rw[List.mem_singleton.mp z];refine⟨⟨_,as[k],_,fs,rfl,hag,im,by omega⟩,_,as[k],_,fs,rfl,Xh _,r0,by omega,?_⟩;rw[pe,X2,hkto];rfl
     ·rw[List.getElem?_append]at hi
      split at hi
      ·exact qo i d hi
      ·by_cases e:i - jl.length=0
       ·rw[e]at hi;have hik:i=k:=by omega
        subst hik;exact⟨as[i],_,fs,X1 qg,by simpa using hi.symm,jg⟩
       ·rw[Yo (by simp;omega)]at hi;cases hi
    ·rw[List.drop_eq_nil_of_le (by omega)]at hr3;cases hr3
   ·rintro E ⟨k,as,jl,b7,gl,has,cu,hr3,on,bd,qo⟩;subst gl;have si:=has.2.2;refine .mk (j+1) (st++jl) (by rw[show((j+1:Nat):Int)=(j:Int)+1 by omega]) (by omega) (λs hs=>?_) (by rw[Xi];omega) (vwb r6 ma hsgl t4 has.1 qo) (λs hs=>?_)
    ·rcases List.mem_append.mp hs with z|z
     ·exact ao s z
     ·exact bd s z
    ·rcases List.mem_append.mp hs with z|z
     ·obtain⟨i,q1,q2,g,t,f,e⟩:=t4 s z;exact⟨i,by omega,q2,g,t,f,e⟩
     ·obtain⟨i,hi⟩:=List.mem_iff_getElem?.mp z;obtain⟨g,t,fs,_,e,_⟩:=qo i s hi;exact⟨j,by omega,r6,g,t,_,e⟩
  ·rintro E ⟨j,st,hr2,hj,ao,hstl,hsgl,t4⟩;refine vY rfl ?_;simp![eh,e7,xv];refine⟨_,rfl,by omega,.mk (r+1) _ (by rw[show((r+1:Nat):Int)=(r:Int)+1 by omega]) (by omega) (by simp[m6]) λi hi=>?_⟩
   by_cases he:i<r
   ·obtain⟨gd,cz,q1,q2,q3⟩:=hrs i he;exact⟨gd,cz,by rw[Xu (by omega)];exact q1,q2,q3⟩
   ·have:i=r:=by omega
    subst this;refine⟨_,st,by rw[Xy (by omega),m6,Nat.sub_self,u4];rfl,by rw[u4];exact ao,by omega,hsgl⟩
 ·rintro E ⟨r,rs,hr,mi,m6,hrs⟩;have:=W6 mi hr;have mf:0<=(1+v0)*(ss.length:Int):=Z8 (by omega) (by omega);have hm1:(1+v0)*(ss.length:Int)<=4*3:=Z7 (by omega) (by omega) (by omega) (by decide);simp![kz2 (o:=.no) (xs:=ss.map D.str) (by decide)];refine⟨rs,_,rfl,⟨by omega,by omega,λr' mq=>?_⟩,by omega,by omega,ks,⟨by omega,λi hi=>?_⟩,dl,ap,(λk g st hm=>?_),λk g st hm=>?_⟩
  ·obtain⟨i,hi,e⟩:=List.mem_iff_getElem.mp mq;obtain⟨gd,st,q1,q2,q3,_⟩:=hrs i (by omega);rw[X1 hi,e]at q1;have hk:=dl (ks.getD i 0) (by rw[X2,X1 (by omega)];exact Xh _);exact⟨_,gd,st,oq9 q1,hk.1,hk.2,λs hs=>(q2 s hs).1,by omega⟩
  ·obtain⟨gd,st,q1,q2,q3⟩:=hrs i (by omega);exact⟨gd,st,q1,λs hs=>(q2 s hs).2⟩
  ·obtain⟨i,hi,e⟩:=List.mem_iff_getElem.mp hm;obtain⟨gd,cz,q1,q2,q3,q4⟩:=hrs i (by omega);rw[X1 hi,e]at q1;have q1:=oq9 q1;injection q1 with q1;injection q1 with _ q1;injection q1 with _ q1;injection q1 with q1 _;injection q1 with q1;subst q1;exact q4
  ·obtain⟨i,hi,e⟩:=List.mem_iff_getElem.mp hm;obtain⟨gd,cz,q1,q2,q3,q4⟩:=hrs i (by omega);rw[X1 hi,e]at q1;have q1:=oq9 q1;injection q1 with q1;injection q1 with _ q1;injection q1 with _ q1;injection q1 with q1 _;injection q1 with q1;rw[q1];exact q3
theorem single_ok{dr:Fn}(qr:Dr dr)(ns:List Int)(a:Int)(ss:List Str)(ha:0<=a)(o9:a<=100)(hs:1<=ss.length)(gl:ss.length<=3)(ma:ss.Nodup):Oo (m__law_single dr) [(.no,iL ns),(.no,.int a),(.no,sL ss)] (λy=>∃rs at_,y=(.no,.tup [kz ss rs,.int at_])/\Rms rs/\a<=at_/\at_<=a+13/\∃kps:List Int,Rx ss kps rs/\(∀k∈kps,0<=k/\k<=3)/\∃ap,Sgl ap rs) noX:=
 (qj4 qr ns a ss ha o9 hs gl ma).mono λy ⟨rs,at_,e,h1,h2,h3,kps,h4,h5,ap,h6,_⟩=>⟨rs,at_,e,h1,h2,h3,kps,h4,h5,ap,h6⟩
end F
namespace F
open Q PySem C
noncomputable def ww(K:List D)(d:D):D:=match d with
 |.tup [room,.tup ks]=>.tup [.int (K.idxOf (.tup [room,.tup (pr ks)]):Nat),iT (j7 ks)]
 |_=>.non
noncomputable def W3(rs:List D)(s:D)(z:Str)(L:List D)(d:D):D:=match d with
 |.int p=>(match obD rs s z p with
  |some d=>ww L d
  |none=>.non)
 |_=>.non
def K7(s:D):List D:=jQ 0 ((j7 (xj s)).length+1)
noncomputable def XZ(ss:List Str)(rs L:List D)(s:D):List D:=ss.map λz=>.lst ((K7 s).map (W3 rs s z L))
noncomputable def Leads(L:List D)(e:D):Prop:=∀room ks,e=.tup [room,.tup ks]->D.tup [room,.tup (pr ks)]∈L
noncomputable def Clo(zs:List Str)(rs L:List D)(s:D):Prop:=∀z∈zs,∀p:Int,D.int p∈K7 s->∃e,obD rs s z p=some e/\Leads L e
noncomputable def Nrm(t:D):Prop:=∃room ks,t=.tup [room,.tup (pr ks)]
theorem qjf{A B:List D}{x:D}(h:A <+: B)(hx:x∈A):x∈B:=h.subset hx
theorem qx4{A B:List D}{x:D}(h:A <+: B)(hx:x∈A):B.idxOf x=A.idxOf x:=by
 obtain⟨t,rfl⟩:=h;rw[List.idxOf_append,X9 hx]
theorem qx5{A B:List D}{i:Nat}(h:A <+: B)(hi:i<A.length):B.getD i .non=A.getD i .non:=by
 obtain⟨t,rfl⟩:=h;rw[X2,X2,Xu hi]
theorem qzh(K:List D)(p:D):K <+: kZ K p/\p∈kZ K p/\∀t∈kZ K p,t∈K\/t=p:=by
 unfold kZ
 split
 ·rename_i h;exact⟨Ya,h,λt ht=>.inl ht⟩
 ·exact⟨List.prefix_append _ _,by simp,λt ht=>by
   rcases List.mem_append.mp ht with z|z
   ·exact .inl z
   ·exact .inr (List.mem_singleton.mp z)⟩
theorem vv0(K:List D)(d:D):K <+: (wV K d).1/\(∀L,(wV K d).1 <+: L->(wV K d).2=ww L d)/\Leads (wV K d).1 d/\((∀t∈K,Nrm t)->∀t∈(wV K d).1,Nrm t):=by
 unfold wV
 split
 ·rename_i room ks;obtain⟨h1,h2,h3⟩:=qzh K (.tup [room,.tup (pr ks)]);refine⟨h1,λL hL=>?_,λac av e=>?_,λhK t ht=>?_⟩
  ·unfold ww;dsimp only;rw[qx4 hL h2]
  ·cases e;exact h2
  ·rcases h3 t ht with z|rfl
   ·exact hK t z
   ·exact⟨_,_,rfl⟩
 ·rename_i c9;refine⟨Ya,λL _=>?_,λac av e=>absurd e (c9 _ _),λhK=>hK⟩;unfold ww
  split
  ·rename_i room ks;exact absurd rfl (c9 room ks)
  ·rfl
theorem Leads.mono{A B:List D}{e:D}(h:A <+: B)(hl:Leads A e):Leads B e:=λroom ks he=>qjf h (hl room ks he)
theorem kzh{rs:List D}{s:D}{z:Str}:∀{ps K:List D} {r:List D×List D},x5 rs s z ps K=some r->K <+: r.1/\(∀L,r.1 <+: L->r.2=ps.map (W3 rs s z L))/\(∀p:Int,D.int p∈ps->∃e,obD rs s z p=some e/\Leads r.1 e)/\((∀t∈K,Nrm t)->∀t∈r.1,Nrm t)
 | [],K,r,h=>by
  rw [x5]at h;cases h;exact⟨Ya,λ_ _=>rfl,(λ_ h=>nomatch h),λh=>h⟩
 | .int p::ps,K,r,h=>by
  rw [x5]at h
  split at h
  ·cases h
  ·rename_i d hd;obtain⟨q,hq,rfl⟩:=Option.map_eq_some_iff.mp h;obtain⟨a1,a2,a3,a4⟩:=kzh hq;obtain⟨b1,b2,b3,b4⟩:=vv0 K d;refine⟨b1.trans a1,λL hL=>?_,λp' og=>?_,λhK=>a4 (b4 hK)⟩
   ·show(wV K d).2::q.2=_;rw[List.map_cons,a2 L hL,b2 L (a1.trans hL)]
    congr 1
    show _=(match obD rs s z p with
     |some d=>ww L d
     |none=>.non)
    rw[hd]
   ·rcases List.mem_cons.mp og with e|e
    ·injection e with e;subst e;exact⟨d,hd,b3.mono a1⟩
    ·exact a3 p' e
 |.non::_,_,_,h=>by cases h
 |.bl _::_,_,_,h=>by cases h
 |.str _::_,_,_,h=>by cases h
 |.tup _::_,_,_,h=>by cases h
 |.lst _::_,_,_,h=>by cases h
 |.dct _::_,_,_,h=>by cases h
 |.obj _ _::_,_,_,h=>by cases h
theorem Clo.mono{zs:List Str}{rs A B:List D}{s:D}(h:A <+: B)(hc:Clo zs rs A s):Clo zs rs B s:=λz hz p hp=>by
 obtain⟨e,h1,h2⟩:=hc z hz p hp;exact⟨e,h1,h2.mono h⟩
theorem kx9{rs:List D}{s:D}:∀{zs:List Str} {K:List D} {r:List D×List D},xz rs s zs K=some r->K <+: r.1/\(∀L,r.1 <+: L->r.2=XZ zs rs L s)/\Clo zs rs r.1 s/\((∀t∈K,Nrm t)->∀t∈r.1,Nrm t)
 | [],K,r,h=>by
  rw [xz]at h;cases h;exact⟨Ya,λ_ _=>rfl,(λ_ h=>nomatch h),λh=>h⟩
 | z :: zs,K,r,h=>by
  rw [xz]at h
  split at h
  ·cases h
  ·rename_i q hq;obtain⟨q2,uf,rfl⟩:=Option.map_eq_some_iff.mp h;obtain⟨a1,a2,a3,a4⟩:=kzh hq;obtain⟨b1,b2,b3,b4⟩:=kx9 uf;refine⟨a1.trans b1,λL hL=>?_,λz' hz' p hp=>?_,λhK=>b4 (a4 hK)⟩
   ·show D.lst q.2::q2.2=_;rw[b2 L hL,a2 L (b1.trans hL)];rfl
   ·rcases List.mem_cons.mp hz' with rfl|hz'
    ·obtain⟨e,h1,h2⟩:=a3 p hp;exact⟨e,h1,h2.mono b1⟩
    ·exact b3 z' hz' p hp
noncomputable def Inv(ss:List Str)(rs K a7:List D):Prop:=a7.length<=K.length/\(∀i,i<a7.length->Clo ss rs K (K.getD i .non)/\∀L,K <+: L->a7[i]?=some (Qv rs (K.getD i .non) (XZ ss rs L (K.getD i .non))))/\∀t∈K,Nrm t
theorem wjh{ss:List Str}{rs K a7:List D}{r:Option (List D×List D)}(h:Run ss rs K a7 r):Inv ss rs K a7->∀q,r=some q->K <+: q.1/\Inv ss rs q.1 q.2/\q.2.length=q.1.length:=by
 induction h with
 | stop h=>
  intro hi q e;cases e;have:=hi.1;exact⟨Ya,hi,Nat.le_antisymm hi.1 (Nat.le_of_not_lt h)⟩
 | fail=>intro _ q e;cases e
 | @go K a7 K' fc r b8 e _ ih=>
  intro hi q hq;unfold YQ at e;obtain⟨q1,e1,e2⟩:=Option.map_eq_some_iff.mp e;cases e2;obtain⟨a1,a2,a3,a4⟩:=kx9 e1;have ae:K.length<=q1.1.length:=a1.length_le;have ip:∀i,i<K.length->q1.1.getD i .non=K.getD i .non:=λi hi=>qx5 a1 hi
  have hinv:Inv ss rs q1.1 (a7++[Qv rs (K.getD a7.length .non) q1.2]):=by
   refine⟨by rw[Xi,Yd];omega,λi kt=>?_,a4 hi.2.2⟩;rw[Xi,Yd]at kt
   by_cases h1:i<a7.length
   ·obtain⟨c1,c2⟩:=hi.2.1 i h1;rw[ip i (by omega)];refine⟨c1.mono a1,λL hL=>?_⟩;rw[Xu h1];exact c2 L (a1.trans hL)
   ·have:i=a7.length:=by omega
    subst this;rw[ip _ b8];refine⟨a3,λL hL=>?_⟩;rw[Xy (X8 _),Nat.sub_self,<-a2 L hL];rfl
  obtain⟨b1,b2,b3⟩:=ih hinv q hq;exact⟨a1.trans b1,b2,b3⟩
section
variable {r:Int->Int}{N:List Int}
theorem wqp(hr:Inj r N){acc:List Int}{d:D}(ha:∀i∈acc,i∈N)(hd:d∈nmV N):insI (acc.map r) (rnD r d)=(insI acc d).map r/\∀i∈insI acc d,i∈N:=by
 rcases wqq hd with rfl|⟨i,hi,rfl⟩
 ·exact⟨rfl,ha⟩
 ·by_cases hm:i∈acc
  ·have:r i∈acc.map r:=Xe hm;show(if r i∈acc.map r then _ else _)=List.map r (if i∈acc then _ else _)/\∀j∈(if i∈acc then _ else _),j∈N;rw[X9 this,X9 hm];exact⟨rfl,ha⟩
  ·have:r i∉acc.map r:=λh=>by
    obtain⟨j,hj,e⟩:=List.mem_map.mp h;rw[hr j (ha j hj) i hi e]at hj;exact hm hj
   show(if r i∈acc.map r then _ else _)=List.map r (if i∈acc then _ else _)/\∀j∈(if i∈acc then _ else _),j∈N;rw[Xd this,Xd hm];refine⟨by rw[Xp];rfl,λj hj=>?_⟩;rcases List.mem_append.mp hj with z|z
   ·exact ha j z
   ·rw[List.mem_singleton.mp z];exact hi
theorem qzu(hr:Inj r N):∀{ks:List D} {acc:List Int},(∀k∈ks,k∈nmV N)->(∀i∈acc,i∈N)->(ks.map (rnD r)).foldl insI (acc.map r)=(ks.foldl insI acc).map r/\∀i∈ks.foldl insI acc,i∈N
 |[],acc,_,ha=>⟨rfl,ha⟩
 |k::ks,acc,hk,ha=>by
  obtain⟨h1,h2⟩:=wqp hr ha (hk k X3);rw[List.map_cons,Z2,Z2,h1];exact qzu hr (λk h=>hk k (lc9 _ h)) h2
theorem qxk(hr:Inj r N){ks:List D}(hk:∀k∈ks,k∈nmV N):j7 (ks.map (rnD r))=(j7 ks).map r/\∀i∈j7 ks,i∈N:=qzu (acc:=[]) hr hk (λ_ h=>nomatch h)
theorem vj0(hr:Inj r N){i:Int}(hi:i∈N):∀{l:List Int},(∀j∈l,j∈N)->(l.map r).findIdx (λw=>w==r i)=l.findIdx (λw=>w==i)
 |[],_=>rfl
 |a::l,h=>by
  rw[List.map_cons,List.findIdx_cons,List.findIdx_cons,vj0 hr hi (λj hj=>h j (lc9 _ hj))]
  by_cases e:a=i
  ·subst e;simp
  ·rw[beq_false_of_ne e,beq_false_of_ne λz=>e (hr a (h a X3) i hi z)]
theorem wwh(hr:Inj r N){ks:List D}(hk:∀k∈ks,k∈nmV N):pr (ks.map (rnD r))=pr ks:=by
 obtain⟨h1,h2⟩:=qxk hr hk;unfold pr;rw[h1,Y2];refine Y5 λd hd=>?_
 rcases wqq (hk d hd)with rfl|⟨i,hi,rfl⟩
 ·rfl
 ·show D.int _=D.int _;rw[vj0 hr hi h2]
end
noncomputable def plI(ns:List Int)(i:Int):Int:=(ns.findIdx λw=>w==i:Nat)
theorem kjz{ns:List Int}{p:Int}:Inj (plI ns) (ns++[p]):=λa ha b hb e=>by
 have e:ns.findIdx (λw=>w==a)=ns.findIdx (λw=>w==b):=by unfold plI at e;omega
 have g:∀{x:Int},x∈ns->∃h:ns.findIdx (λw=>w==x)<ns.length,ns[ns.findIdx (λw=>w==x)]'h=x:=fun {x} hx=>⟨Wv hx,by simpa using List.findIdx_getElem (p:=λw=>w==x) (w:=Wv hx)⟩
 have nf:∀{x:Int},x∉ns->ns.findIdx (λw=>w==x)=ns.length:=fun {x} hx=>vze (by rw[WY];exact Xa hx)
 by_cases h1:a∈ns
 ·obtain⟨l1,q1⟩:=g h1
  by_cases h2:b∈ns
  ·obtain⟨l2,q2⟩:=g h2;rw[<-q1,<-q2]
   congr 1
  ·rw[nf h2]at e;omega
 ·by_cases h2:b∈ns
  ·obtain⟨l2,q2⟩:=g h2;rw[nf h1]at e;omega
  ·have ha':a=p:=by rcases List.mem_append.mp ha with z|z;exact absurd z h1;exact List.mem_singleton.mp z
   have f7:b=p:=by rcases List.mem_append.mp hb with z|z;exact absurd z h2;exact List.mem_singleton.mp z
   rw[ha',f7]
theorem wkd(ks:List D):pr ks=ks.map (rnD (plI (j7 ks))):=by
 unfold pr;refine Y5 λd _=>?_
 cases d<;>rfl
theorem vxr{ks:List D}{p:Int}(hk:∀k∈ks,At k):∀k∈ks,k∈nmV (j7 ks++[p]):=λk hm=>by
 rcases hk k hm with rfl|⟨i,rfl⟩
 ·exact X3
 ·exact lc9 _ (Xe (ll9 _ (kv7 hm)))
theorem vvm{ks:List D}(hk:∀k∈ks,At k):j7 (pr ks)=(j7 ks).map (plI (j7 ks)):=by
 rw[wkd];exact(qxk (kjz (p:=0)) (vxr hk)).1
theorem jqv{ks:List D}(hk:∀k∈ks,At k):(j7 (pr ks)).length=(j7 ks).length:=by rw[vvm hk,X4]
theorem qzv:∀{ks:List D} {acc:List Int},acc.Nodup->(ks.foldl insI acc).Nodup
 |[],_,h=>h
 |k::ks,acc,h=>qzv (ks:=ks) (qzi h k)
theorem wq4(ks:List D):(j7 ks).Nodup:=qzv Xx
theorem qxn{ns:List Int}{p i:Int}(h:i∈ns++[p]):C.nameAt ns p (plI ns i)=i:=by
 unfold C.nameAt plI;rw[Xs,X2]
 by_cases h1:i∈ns
 ·have hl:=Wv h1;rw[Xu hl,X1 hl]
  simpa using List.findIdx_getElem (p:=λw=>w==i) (w:=hl)
 ·have e:ns.findIdx (λw=>w==i)=ns.length:=vze (by rw[WY];exact Xa h1);rw[e,Xy (X8 _),Nat.sub_self];rcases List.mem_append.mp h with z|z
  ·exact absurd z h1
  ·rw[List.mem_singleton.mp z];rfl
noncomputable def WK(s:D):D:=match s with
 |.tup [room,.tup ks]=>.tup [room,.tup (pr ks)]
 |d=>d
theorem walk{ss:List Str}{rs K:List D}{kps:List Int}{room:Int}{ks:List D}{z:Str}{p:Int}(hR:Rms rs)(hx:Rx ss kps rs)(hs:Sok kps (.tup [.int room,.tup ks]))(hc:Clo ss rs K (.tup [.int room,.tup (pr ks)]))(hz:z∈ss):
  (v6 rs (z,p) (.tup [.int room,.tup ks])=[]/\obD rs (.tup [.int room,.tup (pr ks)]) z (plI (j7 ks) p)=some .non) \/
  ∃(ac:Int) (av:List D),v6 rs (z,p) (.tup [.int room,.tup ks])=[.tup [.int ac,.tup av]]/\Sok kps (.tup [.int ac,.tup av])/\obD rs (.tup [.int room,.tup (pr ks)]) z (plI (j7 ks) p)=some (.tup [.int ac,.tup (av.map (rnD (plI (j7 ks))))])/\pr (av.map (rnD (plI (j7 ks))))=pr av/\j7 (av.map (rnD (plI (j7 ks))))=(j7 av).map (plI (j7 ks))/\(∀i∈j7 av,i∈j7 ks++[p])/\D.tup [.int ac,.tup (pr av)]∈K:=by
 obtain⟨_,_,e,r0,r1,hl,ha⟩:=id hs;injection e with e;injection e with e1 e;injection e with e2 _;injection e1 with e1;injection e2 with e2;subst e1 e2;have fi:SokV kps (nmV (j7 ks++[p])) (.tup [.int room,.tup ks]):=⟨room,ks,rfl,r0,r1,hl,ha,vxr ha⟩;have mi:=vqa (w:=(z,p)) (kjz (ns:=j7 ks) (p:=p)) hR hx (by simp) fi;have hn:=kjw (w:=(z,p)) hR hx X3 (lc9 _ (Xe (by simp))) fi;have mi:v6 rs (z,plI (j7 ks) p) (.tup [.int room,.tup (ks.map (rnD (plI (j7 ks))))])=_:=mi;rw[<-wkd]at mi;have cg:plI (j7 ks) p<=(j7 ks).length:=by unfold plI;have:=vzg (ks:=j7 ks) (p:=p);omega
 have hpl0:0<=plI (j7 ks) p:=by unfold plI;omega
 obtain⟨e,he,dy⟩:=hc z hz (plI (j7 ks) p) (by
  unfold K7;rw[vX,jqv ha];unfold jQ;exact List.mem_map.mpr ⟨(plI (j7 ks) p).toNat,List.mem_range.mpr (by omega),by show D.int _=D.int _;congr 1;omega⟩)
 have jd:=he;unfold obD at he;rw[mi]at he;cases fk:v6 rs (z,p) (.tup [.int room,.tup ks])with
 | nil=>
  rw[fk]at he;left;have he:some D.non=some e:=he;cases he;exact⟨rfl,jd⟩
 | cons s' t=>
  cases t with
  |cons s2 t=>
   rw[fk]at he;have he:(none:Option D)=some e:=he;cases he
  |nil=>
   rw[fk]at he;have he:some (rnS (plI (j7 ks)) s')=some e:=he;cases he;obtain⟨ac,av,rfl,q0,q1,q2,q3,q4⟩:=hn s' (by rw[fk];exact List.mem_singleton.mpr rfl);right;have j':=qxk (kjz (ns:=j7 ks) (p:=p)) q4;have ov:=wwh (kjz (ns:=j7 ks) (p:=p)) q4;refine⟨ac,av,rfl,⟨ac,av,rfl,q0,q1,q2,q3⟩,jd,ov,j'.1,j'.2,?_⟩;have:=dy (.int ac) (av.map (rnD (plI (j7 ks)))) rfl;rw[ov]at this;exact this
end F
namespace F
open Q PySem C
theorem vxs{ss:List Str}{rs:List D}{kps:List Int}(hR:Rms rs)(hx:Rx ss kps rs)(h3:∀k∈kps,k<=3){K a7:List D}{r:Option (List D×List D)}(h:Run ss rs K a7 r):Kin kps V4 K->∀q,r=some q->Kin kps V4 q.1:=by
 have cs:∀{s:D} {z:Str},SokV kps V4 s->∀{ps K:List D} {r:List D×List D},(∀d∈ps,d∈V4)->Kin kps V4 K->x5 rs s z ps K=some r->Kin kps V4 r.1:=fun {s z} hs {ps}=>by
  induction ps with
  | nil=>intro K r _ hK h;rw[x5]at h;cases h;exact hK
  | cons d ps ih=>
   intro K r hp hK h;cases d with
   | int p=>
    rw[x5]at h
    split at h
    ·cases h
    ·rename_i d hd;obtain⟨q,hq,rfl⟩:=Option.map_eq_some_iff.mp h;exact ih (r:=q) (λd hd=>hp d (lc9 _ hd)) (qqg h3 hK (vxj hR hx hs (hp _ X3) hd)) hq
   |non=>cases h
   |bl=>cases h
   |str=>cases h
   |tup=>cases h
   |lst=>cases h
   |dct=>cases h
   |obj=>cases h
 have sg:∀{s:D},SokV kps V4 s->∀{zs:List Str} {K:List D} {r:List D×List D},Kin kps V4 K->xz rs s zs K=some r->Kin kps V4 r.1:=fun {s} hs {zs}=>by
  induction zs with
  | nil=>intro K r hK h;rw[xz]at h;cases h;exact hK
  | cons z zs ih=>
   intro K r hK h;rw[xz]at h
   split at h
   ·cases h
   ·rename_i q hq;obtain⟨q2,uf,rfl⟩:=Option.map_eq_some_iff.mp h;refine ih (r:=q2) (cs hs (λd hd=>?_) hK hq) uf;obtain⟨room,ks,rfl,_,_,_,_,_⟩:=id hs;have nl:=(K8 h3 hs).2;have qy:=KK ks;rw[vX]at hd;obtain⟨i,i0,i1,rfl⟩:=Kq hd;exact v4I (by omega) (by omega)
 induction h with
 |stop h=>intro hK q e;cases e;exact hK
 |fail=>intro _ q e;cases e
 |@go K a7 K' fc r b8 e _ ih=>
  intro hK q eq;unfold YQ at e;obtain⟨p,hp,e2⟩:=Option.map_eq_some_iff.mp e;cases e2;exact ih (sg (hK.2 _ (by rw[X2,X1 b8];exact Xh _)) hK hp) q eq
theorem wxj{ks:List D}(h:∀k∈pr ks,At k):∀k∈ks,At k:=λk hk=>by
 have:=h (plc (j7 ks) k) (by unfold pr;exact Xe hk);cases k with
 |int i=>exact .inr ⟨i,rfl⟩
 |non=>exact .inl rfl
 |bl=>exact this
 |str=>exact this
 |tup=>exact this
 |lst=>exact this
 |dct=>exact this
 |obj=>exact this
structure Pf (ss:List Str)(rs:List D)(kps:List Int)(K a7:List D):Prop where
 ms:Rms rs
 rx:Rx ss kps rs
 le:∀k∈kps,k<=3
 kin:Kin kps V4 K
 inv:Inv ss rs K a7
 len:a7.length=K.length
noncomputable def xW(K:List D):List Int:=K.map λs=>((j7 (xj s)).length:Int)
section
variable {ss:List Str}{rs:List D}{kps:List Int}{K a7:List D}
theorem zz{t:D}(h:t∈K):K.idxOf t<K.length:=List.idxOf_lt_length_iff.mpr h
theorem vz9{t:D}(h:t∈K):K.getD (K.idxOf t) .non=t:=by
 rw[X2,X1 (zz h)];exact List.getElem_idxOf (zz h)
theorem Pf.at_(h:Pf ss rs kps K a7){t:D}(ht:t∈K):Clo ss rs K t/\a7[K.idxOf t]?=some (Qv rs t (XZ ss rs K t)):=by
 obtain⟨h1,h2⟩:=h.inv.2.1 (K.idxOf t) (by rw[h.len];exact zz ht);rw[vz9 ht]at h1 h2;exact⟨h1,h2 K Ya⟩
theorem Pf.is(h:Pf ss rs kps K a7){t:D}(ht:t∈K):∃(room:Int) (ks:List D) (gd:Bool),t=.tup [.int room,.tup (pr ks)]/\SokV kps V4 t/\(∀k∈ks,At k)/\(j7 (pr ks)).length<=3/\goodD rs t=.bl gd/\xK rs t=gd:=by
 obtain⟨room,ks,e⟩:=h.inv.2.2 t ht;have hs:=h.kin.2 t ht;obtain⟨ac,av,e',r0,r1,hl,ha,hV⟩:=id hs;rw[e]at e';injection e' with e';injection e' with e1 e';injection e' with e2 _;injection e2 with e2;subst e1 e2;obtain⟨gd,st,hg,_⟩:=h.rx.2 ac.toNat (by omega);have:=vqg h.le r0 r1;have:=KK (pr ks);refine⟨ac,ks,gd,e,hs,wxj ha,by omega,by rw[e];unfold goodD;dsimp only;rw[hg],by rw[e];unfold xK;dsimp only;rw[X2,hg];rfl⟩
theorem Pf.prs(h:Pf ss rs kps K a7):Prs (xW K) ss.length a7:=by
 refine⟨by unfold xW;rw[X4];exact h.len,λi hi=>?_⟩;unfold xW at hi;rw [X4]at hi;obtain⟨pj,pc⟩:=h.inv.2.1 i (by rw[h.len];exact hi);have pc:=pc K Ya;have htm:K.getD i .non∈K:=by rw[X2,X1 hi];exact Xh _
 have dj:(xW K).getD i 0=((j7 (xj (K.getD i .non))).length:Int):=by
  unfold xW;rw [X2,Xg,X2,X1 hi];rfl
 rw [dj];generalize K.getD i .non=t at *;obtain⟨room,ks,gd,rfl,hs,ha,hn3,hgd,_⟩:=h.is htm;refine⟨_,pc,gd,_,by unfold Qv;rw[hgd],by unfold XZ;rw[X4],λc hc=>?_⟩;unfold XZ at hc;obtain⟨z,hz,rfl⟩:=List.mem_map.mp hc;have hnn:=vvm ha;have qy:=jqv ha;rw [vX];have m6:((K7 (.tup [.int room,.tup (pr ks)])).length:Int)=(j7 (pr ks)).length+1:=by unfold K7;rw[vX,kkr (by omega)];omega
 refine⟨_,rfl,by rw[X4];exact m6,λk hk=>?_⟩;rw [X4]at hk;have ie:(k:Int)<(j7 (pr ks)).length+1:=by omega
 have ip:(K7 (.tup [.int room,.tup (pr ks)]))[k]?=some (.int k):=by unfold K7;rw[vX];exact qwl ie
 refine⟨W3 rs (.tup [.int room,.tup (pr ks)]) z K (.int k),by rw[Xg,ip];rfl,?_⟩;obtain⟨e,he,dy⟩:=pj z hz k (Xm ip);have f9:W3 rs (.tup [.int room,.tup (pr ks)]) z K (.int k)=ww K e:=by unfold W3;dsimp only;rw[he]
 rw [f9];obtain⟨room1,ks1,e1,r0,r1,hl,iq,hV⟩:=id hs;injection e1 with e1;injection e1 with e1 e2;injection e2 with e2 _;injection e1 with e1;injection e2 with e2;subst e1 e2;have fi:SokV kps (nmV (j7 (pr ks)++[(k:Int)])) (.tup [.int room,.tup (pr ks)]):=⟨room,pr ks,rfl,r0,r1,hl,iq,vxr iq⟩;have fk:=kjw (w:=(z,(k:Int))) h.ms h.rx X3 (lc9 _ (Xe (by simp))) fi;have u6:e=.non\/SokV kps (nmV (j7 (pr ks)++[(k:Int)])) e:=by
  unfold obD at he
  split at he
  ·cases he;exact .inl rfl
  ·rename_i d' e';cases he;exact .inr (fk e (by rw[e'];exact List.mem_singleton.mpr rfl))
  ·cases he
 rcases u6 with rfl|⟨ac,av,rfl,q0,q1,q2,q3,q4⟩
 ·exact .inl rfl
 ·have hpm:=dy (.int ac) av rfl;refine .inr ⟨_,j7 av,rfl,by omega,by unfold xW;rw[X4];have:=zz hpm;omega,λf hf=>?_,wq4 _,?_⟩
  ·have hfm:=q4 _ (wq3 hf);rcases wqq hfm with z'|⟨j,hj,e'⟩
   ·cases z'
   ·injection e' with e';subst e';have m8:(k:Int)<=(j7 (pr ks)).length:=by omega
    unfold Wq;rcases List.mem_append.mp hj with y|y
    ·rw[hnn]at y;obtain⟨x,hx,rfl⟩:=List.mem_map.mp y;have:=Wv hx;unfold plI
     split<;>omega
    ·rw[List.mem_singleton.mp y]
     split<;>omega
  ·rw[Xs];unfold xW;rw[X2,Xg,X1 (zz hpm),List.getElem_idxOf (zz hpm)];show _=((j7 (xj (.tup [.int ac,.tup (pr av)]))).length:Int);rw[vX,jqv q3]
noncomputable def wq(rs:List D)(w:Str×Int)(s:D):D:=(v6 rs w s).headD .non
noncomputable def vk(rs:List D):List (Str×Int)->D->D
 |[],s=>s
 |w::ws,s=>vk rs ws (wq rs w s)
theorem kx4{w:Str×Int}:∀{ws:List (Str×Int)} {s:D},vk rs (ws++[w]) s=wq rs w (vk rs ws s)
 |[],s=>rfl
 |v::ws,s=>by rw[List.cons_append,vk,vk,kx4]
noncomputable def QY(kps:List Int)(K:List D)(s:D):Prop:=s=.non\/(Sok kps s/\WK s∈K)
theorem Pf.step(h:Pf ss rs kps K a7){s:D}{z:Str}{p:Int}(hs:QY kps K s)(hz:z∈ss):QY kps K (wq rs (z,p) s)/\Rd (xW K) ss a7 (ww K s) (z,p) (ww K (wq rs (z,p) s))/\((v6 rs (z,p) s=[]/\wq rs (z,p) s=.non)\/(v6 rs (z,p) s=[wq rs (z,p) s]/\Sok kps (wq rs (z,p) s))):=by
 rcases hs with rfl|⟨hs,hm⟩
 ·exact⟨.inl rfl,.inl ⟨rfl,rfl⟩,.inl ⟨rfl,rfl⟩⟩
 ·obtain⟨room,ks,rfl,r0,r1,hl,ha⟩:=id hs;have hm:D.tup [.int room,.tup (pr ks)]∈K:=hm;obtain⟨pj,pc⟩:=h.at_ hm;have hza:(ss.any λw=>w==z)=true:=List.any_eq_true.mpr ⟨z,hz,by simp⟩;have hzi:=vzf hza;have hzg:ss[ss.findIdx λw=>w==z]=z:=by simpa using List.findIdx_getElem (p:=λw=>w==z) (w:=hzi)
  have oq:=h.prs;obtain⟨_,er,gd,st,e,ic,ao⟩:=oq.2 (K.idxOf (.tup [.int room,.tup (pr ks)])) (by unfold xW;rw[X4];exact zz hm);subst e;have dj:(xW K).getD (K.idxOf (.tup [.int room,.tup (pr ks)])) 0=((j7 ks).length:Int):=by
   unfold xW;rw[X2,Xg,X1 (zz hm),List.getElem_idxOf (zz hm)];show((j7 (xj (.tup [.int room,.tup (pr ks)]))).length:Int)=_;rw[vX,jqv ha]
  rw[dj]at er ao;have hste:st=XZ ss rs K (.tup [.int room,.tup (pr ks)]):=by
   rw[pc]at er;have er:=oq9 er;unfold Qv at er;injection er with er;injection er with _ er;injection er with _ er;injection er with er _;injection er with er;exact er.symm
  have hn3:(j7 ks).length<=3:=by
   have:=KK ks;have:=vqg h.le r0 r1;omega
  have hrd:∀s',s'=Z9 ss st (j7 ks) z p->Rd (xW K) ss a7 (ww K (.tup [.int room,.tup ks])) (z,p) s':=λs' e=>.inr ⟨_,j7 ks,st,_,_,rfl,by omega,by rw[Xs];exact er,⟨ic,ao⟩,hn3,e⟩
  have nv:Z9 ss st (j7 ks) z p=vjh (j7 ks) p (W3 rs (.tup [.int room,.tup (pr ks)]) z K (.int (plI (j7 ks) p))):=by
   unfold Z9;rw[X9 hza];unfold VY;rw[hste];unfold XZ;rw[Xg,X1 hzi,hzg];dsimp only[Option.map];have cg:=vzg (ks:=j7 ks) (p:=p);have ip:(K7 (.tup [.int room,.tup (pr ks)]))[(j7 ks).findIdx λw=>w==p]?=some (.int (plI (j7 ks) p)):=by unfold K7;rw[vX,jqv ha];exact qwl (by omega)
   rw[X2,Xg,ip];rfl
  rcases walk (p:=p) h.ms h.rx hs pj hz with⟨hn,ho⟩|⟨ac,av,hn,gv,ho,ov,j',mz,lh⟩
  ·have he:wq rs (z,p) (.tup [.int room,.tup ks])=.non:=by unfold wq;rw[hn];rfl
   rw[he];refine⟨.inl rfl,hrd _ ?_,.inl ⟨hn,rfl⟩⟩;rw[nv];unfold W3;dsimp only;rw[ho];rfl
  ·have he:wq rs (z,p) (.tup [.int room,.tup ks])=.tup [.int ac,.tup av]:=by unfold wq;rw[hn];rfl
   rw[he];refine⟨.inr ⟨gv,lh⟩,hrd _ ?_,.inr ⟨hn,gv⟩⟩;rw[nv];unfold W3;dsimp only;rw[ho];show D.tup [.int (K.idxOf (.tup [.int ac,.tup (pr av)]):Nat),iT (j7 av)]=vjh (j7 ks) p (.tup [.int (K.idxOf (.tup [.int ac,.tup (pr (av.map (rnD (plI (j7 ks)))))]):Nat),iT (j7 (av.map (rnD (plI (j7 ks)))))]);rw[caseD_is,ov,j',Y2]
   congr 3
   have:(j7 av).map (C.nameAt (j7 ks) p∘plI (j7 ks))=j7 av:=by
    conv=>rhs;rw[<-List.map_id (j7 av)]
    exact Y5 λi hi=>qxn (mz i hi)
   rw[this]
theorem Pf.walk(h : Pf ss rs kps K a7): ∀{ws : List (Str × Int)} {s : D}, QY kps K s -> (∀w ∈ ws, w.1 ∈ ss) -> QY kps K (vk rs ws s) /\ Ch2 (xW K) ss a7 (ww K s) ws (ww K (vk rs ws s))
  | [], s, hs, _=>⟨hs, rfl⟩
  | (z, p)::ws, s, hs, hw=>by
    obtain⟨h1, h2, _⟩:= h.step (p:= p) hs (hw (z, p) X3);obtain⟨h3, h4⟩:= h.walk h1 (λw hw'=>hw w (lc9 _ hw'));exact⟨h3, _, h2, h4⟩
theorem Pf.run (h : Pf ss rs kps K a7): ∀{ws : List (Str × Int)} {s : D}, Sok kps s -> WK s ∈ K -> (∀w ∈ ws, w.1 ∈ ss) -> zj rs ws [s] = (if vk rs ws s = .non then[]else[vk rs ws s])
  | [], s, hs, _, _=>by
    obtain⟨room, ks, rfl, _⟩:= hs;show[_] = _;rw [Xd (λh=>nomatch h)];rfl
  | (z, p)::ws, s, hs, hm, hw=>by
    obtain⟨h1, _, h3⟩:= h.step (p:= p) (.inr ⟨hs, hm⟩) (hw (z, p) X3);rw [zj, vk];have ft : C.stepK rs (z, p) [s] = (v6 rs (z, p) s).foldl kZ []:= by unfold C.stepK; rw[Yw, List.flatMap_nil, Xv]
    have fw : ∀{ws : List (Str × Int)}, zj rs ws [] = [] /\ vk rs ws .non = .non:= fun {ws}=>by
      induction ws with
      | nil=>exact⟨rfl, rfl⟩
      | cons w ws ih=>exact⟨by rw[zj]; exact ih.1, by rw[vk]; exact ih.2⟩
    rcases h3 with⟨hn, he⟩|⟨hn, gv⟩
    · rw[ft, hn, he]
      show zj rs ws [] = _;rw[fw.1, fw.2, X9 rfl]
    · rw[ft, hn]
      show zj rs ws (kZ [] (wq rs (z, p) s)) = _;have : kZ [] (wq rs (z, p) s) = [wq rs (z, p) s]:= by unfold kZ; rw[Xd Xw]; rfl
      rw[this];rcases h1 with e|⟨_, lh⟩
      · obtain⟨_, _, e', _⟩:= gv
        rw[e]at e';cases e'
      · exact h.run gv lh (λw hw'=>hw w (lc9 _ hw'))
end
end F
namespace G
open Q PySem C F
noncomputable def fl(own:Int):D->D
 |.int f=>if f=own then .str "new" else .int f
 |d=>d
end G
namespace G
open Q PySem C F
def nN(t:D):Nat:=(j7 (xj t)).length
end G
namespace Nk34
open PySem Q
def m_fits : Fn:= C.m_fits
def m_held_by : Fn:= C.m_held_by
def m_filled : Fn:= C.m_filled
def m_first_standing : Fn:= C.m_first_standing
def m_steps_at : Fn:= C.m_steps_at
def m_fitting : Fn:= C.m_fitting
def m_behind : Fn:= C.m_behind
def m_ways_on : Fn:= C.m_ways_on
def m_is_good_at : Fn:= C.m_is_good_at
def m_way_by : Fn:= C.m_way_by
def m_lets_by : Fn:= C.m_lets_by
def m_read_by : Fn:= C.m_read_by
noncomputable def ZY:Fn:=fn 5
  (j5 (jk 2 (qw .no [(cC (.int 0)),(qw .no [])]))
  (j5 (qX (itS (cV 1)) (.t [3,4]) (jk 2 (jK m_read_by [(cV 0),(cV 2),(cV 3),(cV 4)])))
  (jz (cMv 2))))
noncomputable def jve:Fn:=fn 3
  (j5 (jk 2 (jK ZY [(cV 0),(cV 1)]))
  (jz (Kw (vE (cF2 (f2First fNotNon) (vV 2) (vE (cC .non)))) (cH (j6 (j6 (j6 (vV 0) (C9 1)) (j6 (vV 2) (C9 0))) (C9 1))))))
def m_names_held : Fn:= F.m_names_held
def m_places_among : Fn:= F.m_places_among
def m_plain_case : Fn:= F.m_plain_case
def m_only_behind : Fn:= F.m_only_behind qwj
def m_plain_cases : Fn:= F.m_plain_cases qwj
def m_plain_of : Fn:= F.m_plain_of qwj
def J6 : Fn:= C.m__law_draw2
def m__law_digits : Fn:= C.m__law_digits
def m__law_signs : Fn:= C.m__law_signs
def m__law_name : Fn:= C.m__law_name
def m__law_pool : Fn:= C.m__law_pool C.m__law_draw2
def m__law_asks : Fn:= F.m__law_asks
def m__law_fills : Fn:= F.m__law_fills
noncomputable def m__law_single : Fn:= F.m__law_single C.m__law_draw2
def m__law_copy : Fn:= C.m__law_copy
def m__law_fits : Fn:= C.m__law_fits
def m__law_filled : Fn:= C.m__law_filled
def m__law_fitting : Fn:= C.m__law_fitting
def m__law_behind : Fn:= C.m__law_behind
noncomputable def XV:Fn:=fn 15
  (j5 (jk 6 (k8 .rt []))
  (j5 (jk 7 (k8 .rt []))
  (j5 (jk 8 (k8 .rt [(qw .no [(cC (.int 0)),(cF2 jX (vE (qw .no [(cC .non)])) (j6 (j6 (j6 (vV 3) (C9 1)) (C9 0)) (C9 0)))])]))
  (j5 (qX (wvn (vV 1) (vE (cF2 jx (vV 1) (vV 2)))) (.n 9) (j5 (zJ [10,11] (jK m__law_digits [(jK J6 [(cV 0),(cV 9)]),(k8 .rt [(cC (.int 6)),(cC (.int 60))])]))
  (j5 (jk 10 (cH (j6 (j6 (vV 3) (C9 0)) (vE (cF2 (pu2 jY) (vV 10) (vE (cF1 (pu1 kY) (j6 (vV 3) (C9 0)))))))))
  (j5 (jk 12 (cH (j6 (vV 4) (vE (cF2 (pu2 jY) (vV 11) (vE (cF1 (pu1 kY) (vV 4))))))))
  (j5 (jk 13 (k8 .rt []))
  (j5 (sIf (tE (cF2 (f2First fNotNon) (j6 (vV 8) (vE (cF1 (pu1 KZ) (C9 1)))) (vE (cC .non)))) (jk 13 (jK m__law_fitting [(cV 3),(cH (j6 (vV 8) (vE (cF1 (pu1 KZ) (C9 1))))),(cV 10),(cV 12)])) k9)
  (sIf (tOr (tE (cF2 (pu2 fNe) (vV 13) (vE (k8 .rt [])))) (tNot (tEQ (vV 5)))) (j5 (qK qJ 6 (qw .no [(cV 10),(cV 12)]))
  (j5 (jk 14 (cC .non))
  (j5 (sIf (tE (cF2 (pu2 fNe) (vV 13) (vE (k8 .rt [])))) (j5 (qK qJ 7 (cH (j6 (vV 13) (C9 0))))
  (jk 14 (jK m__law_behind [(cV 3),(cH (j6 (vV 8) (vE (cF1 (pu1 KZ) (C9 1))))),(cH (j6 (vV 13) (C9 0))),(cV 12)]))) k9)
  (qK qJ 8 (cV 14))))) k9)))))))
  (jz (qw .no [(cV 6),(cV 8),(cV 7)]))))))
noncomputable def VZ:Fn:=fn 6
  (j5 (sIf (tE (cF2 (f2First fIsNon) (vV 2) (vE (cC .non)))) (jz (cF2 (f2First fIsNon) (vV 0) (vE (cC .non)))) k9)
  (j5 (sIf (tOr (tNot (tEQ (vE (cF1 (pu1 (Qk "tuple")) (vV 0))))) (tOr (tE (cF2 (pu2 fNe) (vE (cF1 (pu1 kY) (vV 0))) (C9 2))) (tNot (tEQ (vE (cF1 (pu1 (Qk "tuple")) (j6 (vV 0) (C9 1)))))))) (jz (cC (.bl false))) k9)
  (j5 (jk 3 (k8 .rt []))
  (j5 (qX (itS (cH (j6 (vV 2) (C9 1)))) (.n 4) (sIf (tAnd (tE (cF2 (f2First fNotNon) (vV 4) (vE (cC .non)))) (tE (cF2 (pu2 wW) (vV 4) (vV 3)))) (qK qJ 3 (cV 4)) k9))
  (j5 (jk 5 (cF1 z3 (vE (cLC .rt 1 [3] (itS (cH (j6 (vV 2) (C9 1)))) (.n 0) tYes (cIf (tE (cF2 (f2First fIsNon) (vV 0) (vE (cC .non)))) (cC .non) (W5 (vV 1) (vV 0)))))))
  (jz (Kw (vE (cF2 (pu2 fEq) (j6 (vV 1) (j6 (vV 0) (C9 0))) (vE (qw .no [(cH (j6 (vV 2) (C9 0))),(cV 5)])))) (cF2 (pu2 fEq) (j6 (vV 0) (C9 1)) (vE (cF1 z3 (vV 3)))))))))))
noncomputable def jv2:Fn:=fn 16
  (j5 (zJ [3,4] (cV 2))
  (j5 (jk 5 (cLC .rt 1 [] (itS (cV 4)) (.n 0) tYes (cH (j6 (vV 0) (C9 0)))))
  (j5 (jk 6 (k8 .rt []))
  (j5 (qX (vz (vE (cF1 (pu1 kY) (vV 4)))) (.n 7) (j5 (jk 8 (k8 .rt []))
  (j5 (qX (vz (vE (cF1 (pu1 kY) (vV 3)))) (.n 9) (j5 (jk 10 (jK m__law_digits [(jK J6 [(cV 0),(cF2 jx (vE (cF2 jx (vE (cF2 jx (vV 1) (C9 1))) (vE (cF2 jX (vV 7) (vE (cF1 (pu1 kY) (vV 3))))))) (vV 9))]),(cF2 jx (vE (k8 .rt [(cC (.int 4))])) (vE (cF2 jX (vE (k8 .rt [(cC (.int 60))])) (C9 10))))]))
  (j5 (jk 11 (cF2 jx (vE (W0 (j6 (vV 5) (vV 7)))) (vE (k8 .rt [(cC (.str "any")),(cC (.str "fresh"))]))))
  (j5 (jk 12 (cF2 jx (vE (W0 (j6 (vV 5) (vV 7)))) (vE (k8 .rt [(cC (.str "new")),(cC .non)]))))
  (qX (vz (j6 (vE (k8 .rt [(cC (.int 0)),(cC (.int 1)),(cC (.int 1)),(cC (.int 2))])) (j6 (vV 10) (C9 0)))) (.n 13) (j5 (jk 14 (cF2 (pu2 jY) (j6 (vV 10) (vE (cF2 jx (C9 2) (vE (cF2 jX (C9 5) (vV 13)))))) (vE (cF1 (pu1 kY) (vV 4)))))
  (j5 (jk 15 (cF1 z3 (vE (cLC .rt 1 [12] (itS (cSl (vV 10) (some (vE (cF2 jx (C9 3) (vE (cF2 jX (C9 5) (vV 13)))))) (some (vE (cF2 jx (vE (cF2 jx (C9 3) (vE (cF2 jX (C9 5) (vV 13))))) (j6 (vV 5) (vV 14))))))) (.n 0) tYes (cH (j6 (vV 1) (vE (cF2 (pu2 jY) (vV 0) (vE (cF1 (pu1 kY) (vV 1)))))))))))
  (qK qJ 8 (qw .no [(cH (j6 (vV 3) (vV 9))),(cH (j6 (vV 11) (vE (cF2 (pu2 jY) (j6 (vV 10) (vE (cF2 jx (C9 1) (vE (cF2 jX (C9 5) (vV 13)))))) (vE (cF1 (pu1 kY) (vV 11))))))),(cV 14),(cV 15)])))))))))
  (qK qJ 6 (qw .no [(cH (j6 (vV 5) (vV 7))),(cH (j6 (j6 (vV 4) (vV 7)) (C9 1))),(cV 8)])))))
  (jz (qw .no [(cF1 V8 (vV 3)),(cV 6)]))))))
def jkq : Fn:= F.m_names_held
noncomputable def jkl:Fn:=fn 10
  (j5 (jk 1 (k8 .rt [(qw .no [(cC (.int 0)),(cF2 jX (vE (qw .no [(cC .non)])) (j6 (j6 (j6 (vV 0) (C9 1)) (C9 0)) (C9 0)))])]))
  (j5 (jk 2 (cC (.int 0)))
  (j5 (sWhile (tE (cF2 (pu2 fLt) (vV 2) (vE (cF1 (pu1 kY) (vV 1))))) (j5 (qX (itS (cH (j6 (vV 0) (C9 0)))) (.n 3) (qX (vz (vE (cF2 jx (vE (cF1 (pu1 kY) (vE (jK jkq [(cH (j6 (j6 (vV 1) (vV 2)) (C9 1)))])))) (C9 1)))) (.n 4) (j5 (jk 5 (jK m__law_fitting [(cV 0),(cH (j6 (vV 1) (vV 2))),(cV 3),(cV 4)]))
  (j5 (sIf (tE (cF2 (pu2 fGt) (vE (cF1 (pu1 kY) (vV 5))) (C9 1))) (jz (cC (.bl false))) k9)
  (sIf (tE (cF2 (pu2 fNe) (vV 5) (vE (k8 .rt [])))) (j5 (zJ [6,7] (jK m__law_behind [(cV 0),(cH (j6 (vV 1) (vV 2))),(cH (j6 (vV 5) (C9 0))),(cV 4)]))
  (j5 (jk 8 (jK jkq [(cV 7)]))
  (j5 (jk 9 (qw .no [(cV 6),(cF1 z3 (vE (cLC .rt 1 [8] (itS (cV 7)) (.n 0) tYes (cIf (tE (cF2 (f2First fIsNon) (vV 0) (vE (cC .non)))) (cC .non) (W5 (vV 1) (vV 0))))))]))
  (sIf (tE (cF2 (pu2 wW) (vV 9) (vV 1))) (qK qJ 1 (cV 9)) k9)))) k9)))))
  (jk 2 (cF2 jx (vV 2) (C9 1)))))
  (jz (cC (.bl true))))))
noncomputable def jqj:Fn:=fn 6
  (j5 (zJ [3,4] (jK m__law_single [(cV 0),(cV 1),(cV 2)]))
  (j5 (jk 5 (jK jv2 [(cV 0),(cV 1),(cV 3)]))
  (j5 (sIf (tAnd (tE (cF2 (pu2 fEq) (vE (cF2 (pu2 jY) (vE (cF2 (pu2 wZ) (vE (jK J6 [(cV 0),(cV 1)])) (vE (cF2 (pu2 zW) (C9 10) (C9 50))))) (C9 2))) (C9 1))) (tEQ (vE (jK jkl [(cV 5)])))) (jz (qw .no [(cV 5),(cV 4)])) k9)
  (jz (qw .no [(cV 3),(cV 4)])))))
noncomputable def m_law:Fn:=fn 16
  (j5 (jk 1 (jK m__law_signs [(jK J6 [(cV 0),(cC (.int 0))]),(cF2 jx (C9 1) (vE (cF2 (pu2 jY) (vE (jK J6 [(cV 0),(cC (.int 1))])) (C9 3))))]))
  (j5 (zJ [2,3] (jK jqj [(cV 0),(cC (.int 8)),(cV 1)]))
  (j5 (zJ [4,5,6] (jK m__law_digits [(jK J6 [(cV 0),(cC (.int 2))]),(k8 .rt [(cC (.int 2)),(cC (.int 60)),(cC (.int 55440))])]))
  (j5 (jk 7 (jK m__law_pool [(cV 0),(cC (.int 3)),(cF2 jx (C9 1) (vE (cF2 (pu2 jY) (vV 5) (C9 5))))]))
  (j5 (jk 8 (cF2 (pu2 wxa) (C9 0) (vE (cF2 (pu2 wzh) (C9 60) (vE (cF2 (pu2 V5) (vE (cF1 (pu1 kY) (vV 0))) (vV 3)))))))
  (j5 (sIf (tE (cF2 (pu2 fEq) (vE (cF2 (pu2 jY) (vE (cF2 (pu2 wZ) (vE (jK J6 [(cV 0),(cC (.int 1))])) (C9 3))) (C9 4))) (C9 1))) (jk 8 (cF2 (pu2 jY) (vE (cF2 (pu2 wZ) (vE (jK J6 [(cV 0),(cC (.int 1))])) (C9 12))) (C9 61))) k9)
  (j5 (zJ [9,10,11] (jK XV [(cV 0),(cV 3),(cV 8),(cV 2),(cV 7),(cF2 (pu2 fEq) (vV 4) (C9 1))]))
  (j5 (zJ [12,13] (jK m_plain_of [(jK m__law_copy [(cV 2)])]))
  (j5 (jk 6 (cF2 (pu2 jY) (vV 6) (vE (cF1 (pu1 kY) (vV 10)))))
  (j5 (sIf (tNot (tEQ (vE (jK VZ [(jK ZY [(cV 12),(cV 9)]),(cV 13),(cH (j6 (vV 10) (vE (cF1 (pu1 KZ) (C9 1)))))])))) (jz (cC (.bl false))) k9)
  (j5 (sIf (tNot (tEQ (vE (jK VZ [(jK ZY [(cV 12),(cSl (vV 9) none (some (vV 6)))]),(cV 13),(cH (j6 (vV 10) (vV 6)))])))) (jz (cC (.bl false))) k9)
  (j5 (jk 14 (Kw (vE (cF2 (f2First fNotNon) (j6 (vV 10) (vE (cF1 (pu1 KZ) (C9 1)))) (vE (cC .non)))) (cH (j6 (j6 (j6 (vV 2) (C9 1)) (j6 (j6 (vV 10) (vE (cF1 (pu1 KZ) (C9 1)))) (C9 0))) (C9 1)))))
  (j5 (sIf (tE (cF2 (pu2 fNe) (vE (jK m_way_by [(cV 2),(cV 9)])) (j6 (vE (k8 .rt [(cC .non),(cV 11)])) (vE (cF1 (pu1 J0) (vV 14)))))) (jz (cC (.bl false))) k9)
  (j5 (jk 15 (k8 .rt [(jK jve [(cV 12),(cV 9)]),(jK m_lets_by [(cV 2),(cV 9)])]))
  (jz (Kw (vE (cF2 (pu2 fEq) (vV 15) (vE (k8 .rt [(cV 14),(cV 14)])))) (Kw (vE (cF1 (pu1 (Qk "bool")) (j6 (vV 15) (C9 0)))) (cF1 (pu1 (Qk "bool")) (j6 (vV 15) (C9 1))))))))))))))))))))
end Nk34
namespace Nk34
open Q PySem C F
theorem h1:J6=C.m__law_draw2:=rfl
theorem h2:m__law_digits=C.m__law_digits:=rfl
theorem h5:m__law_fitting=C.m__law_fitting:=rfl
theorem h6:m__law_behind=C.m__law_behind:=rfl
theorem h7:jkq=F.m_names_held:=rfl
theorem h8:m__law_signs=C.m__law_signs:=rfl
theorem h9:m__law_single=F.m__law_single C.m__law_draw2:=rfl
theorem ww1{kps:List Int}{V ks:List D}{room:Int}(h:SokV kps V (.tup [.int room,.tup ks])):∀k∈ks,k∈V:=by
 obtain⟨ac,av,e,r0,r1,hl,ha,hV⟩:=h;injection e with e;injection e with e1 e;injection e with e2 _;injection e2 with e2;subst e2;exact hV
noncomputable def Sng(ss:List Str)(rs:List D)(s0:D):Prop:=∃I:D->Prop,vk1 rs ss I/\I s0
inductive SI1 (ss:List Str)(rs:List D)(kps:List Int)(s0:D):Nat->En->Prop
 |mk (K:List D) (a:Nat) {o2:Own} {l3:Option Sd} {l4:Option Sd} {l5:Option Sd} {l6:Option Sd} {l7:Option Sd} {l8:Option Sd} {l9:Option Sd} {n:Nat} (h0:Kin kps V4 K) (h1:a<=K.length) (h2:n=2000 - a) (h3:s0∈K) (h4:∀i,i<a->Clo ss rs K (K.getD i .non)):SI1 ss rs kps s0 n [some (.no,kz ss rs),some (.rt,.lst K),some (o2,.int a),l3,l4,l5,l6,l7,l8,l9]
inductive SI2 (ss:List Str)(rs:List D)(kps:List Int)(a:Nat)(K:List D)(room:Int)(ks:List D):En->List D->Prop
 |mk (K1:List D) (zs:List Str) (oh:List Str) {o2:Own} {l3:Option Sd} {l4:Option Sd} {l5:Option Sd} {l6:Option Sd} {l7:Option Sd} {l8:Option Sd} {l9:Option Sd} {jw:List D} (h0:jw=oh.map D.str) (h1:ss=zs++oh) (h2:Kin kps V4 K1) (h3:K <+: K1) (h4:Clo zs rs K1 (.tup [.int room,.tup ks])):SI2 ss rs kps a K room ks [some (.no,kz ss rs),some (.rt,.lst K1),some (o2,.int a),l3,l4,l5,l6,l7,l8,l9] jw
inductive SI3 (ss:List Str)(rs:List D)(kps:List Int)(a:Nat)(z:Str)(ks:List D)(room:Int)(K1:List D):En->List D->Prop
 |mk (K2:List D) (k:Nat) {o2:Own} {l4:Option Sd} {l5:Option Sd} {l6:Option Sd} {l7:Option Sd} {l8:Option Sd} {l9:Option Sd} {jw:List D} (h0:jw=jQ k ((j7 ks).length+1)) (h1:(k:Int)<=(j7 ks).length+1) (h2:Kin kps V4 K2) (h3:K1 <+: K2) (h4:∀p:Int,0<=p->p<k->∃e,obD rs (.tup [.int room,.tup ks]) z p=some e/\Leads K2 e):SI3 ss rs kps a z ks room K1 [some (.no,kz ss rs),some (.rt,.lst K2),some (o2,.int a),some (.no,.str z),l4,l5,l6,l7,l8,l9] jw
theorem kz6 {ss:List Str} {rs:List D} {kps:List Int} {kp:Int} {gd st0:D} (hR:Rms rs) (hx:Rx ss kps rs) (h3:∀k∈kps,k<=3) (ez:rs[0]?=some (.tup [.int kp,gd,st0])) (iy:0<=kp) (dl:kp<=3):
  Oo jkl [(.no,kz ss rs)] (λy=>∃b:Bool,y=(.dp,.bl b)/\(b=true->Sng ss rs (.tup [.int 0,.tup (List.replicate kp.toNat .non)]))) noX:=by
 have k4:kps.length<=4:=by have:=hx.1;have:=hR.2.1;omega
 have fi:Kin kps V4 [.tup [.int 0,.tup (List.replicate kp.toNat .non)]]:=jxk hR hx (by simp[V4]) ez iy;have hi0:jV (.lst rs) (.int 0)=some (.tup [.int kp,gd,st0]):=v9 (by decide) ez;unfold jkl;simp only[h5,h6,h7];refine kX ?_;simp![p1,hi0,t0,qxp (o1:=.no) (a:=.non) (k:=kp) (by decide) iy (by omega)];generalize lc:(D.tup [.int 0,.tup (List.replicate kp.toNat .non)])=s0 at *;refine qkr (SI1 ss rs kps s0) ?_ 2000 _ ⟨[s0],0,fi,Y9 _,rfl,X3,λi hi=>absurd hi (Nat.not_lt_zero _)⟩;rintro n E ⟨K,a,hK,dy,rfl,hs0m,f9⟩;have m8:=kva hK k4 h3 (by decide)
 by_cases b8:a<K.length
 ·have hd:decide ((a:Int)<(K.length:Int))=true:=Xb (by omega);have hs:SokV kps V4 (K.getD a .non):=hK.2 _ (by rw[X2,X1 b8];exact Xh _);have dk:∀K1,K <+: K1->jV (.lst K1) (.int a)=some (K.getD a .non):=λK1 h=>v9 (by omega) (by
   obtain⟨t,rfl⟩:=h;rw [Xs,Xu b8,X1 b8,X2,X1 b8];rfl)
  have uc:∀K1,K <+: K1->Kin kps V4 K1->Clo ss rs K1 (K.getD a .non)->∀i,i<a+1->Clo ss rs K1 (K1.getD i .non):=λK1 h ie hc i hi=>by
   rw [qx5 h (by omega)]
   by_cases e:i<a
   ·exact(f9 i e).mono h
   ·rw [show i=a by omega];exact hc
  generalize K.getD a .non=s at dk hs uc;obtain ⟨room,ks,st,mw,rfl,r0,er,ao,cu,fe,ic⟩:=V3 hR hx hs.ok;have nl:=(K8 h3 hs).2;have qy:=KK ks;simp![hd];refine vZ (SI2 ss rs kps a K room ks) ?_ ?_ ?_
  ·simp![p0];exact ⟨K,[],ss,rfl,rfl,hK,Ya,(λz hz=>nomatch hz)⟩
  ·rintro E d ds ⟨K1,zs,oh,cy,px,hK1,hg,hc⟩;cases oh with
   | nil=>cases cy
   | cons z oh=>
    rw [List.map_cons]at cy;injection cy with e1 e2;subst e1 e2;have hix1:=dk K1 hg;simp![];refine vZ (SI3 ss rs kps a z ks room K1) ?_ ?_ ?_
    ·refine JV ?_;simp![hix1,p1];refine(jze cu (by omega)).use ?_;intro _ _;simp![];exact⟨_,rfl,by omega,by omega,K1,0,rfl,by omega,hK1,Ya,λp h0 h1=>by omega⟩
    ·rintro E d t5 ⟨K2,k,hr2,hkn,lz,lw,jd⟩;obtain⟨hklt,rfl,rfl⟩:=J3 hkn hr2;have qi:D.int k∈V4:=v4I (by omega) (by omega);have iq:At (.int (k:Int)):=.inr ⟨k,rfl⟩;have ul:=dk K2 (hg.trans lw);have qg:=kva lz k4 h3 (by decide);have fk:v6 rs (z,(k:Int)) (.tup [.int room,.tup ks])=(k6 (qQ z ks (.int k)) 0 st).map (bh ks st k):=by unfold v6;rw[Qq er,vX]
     have nxt:∀(K3:List D) (e:D),K2 <+: K3->obD rs (.tup [.int room,.tup ks]) z k=some e->Leads K3 e->∀p:Int,0<=p->p<((k+1:Nat):Int)->∃e,obD rs (.tup [.int room,.tup ks]) z p=some e/\Leads K3 e:=λK3 e h1 h2 h3 p p0 p1=>by
      by_cases hp:p<k
      ·obtain⟨e,q1,q2⟩:=jd p p0 hp;exact⟨e,q1,q2.mono h1⟩
      ·rw[show p=k by omega];exact⟨e,h2,h3⟩
     have hk1e:jQ ((k:Int)+1) ((j7 ks).length+1)=jQ ((k+1:Nat):Int) ((j7 ks).length+1):=by rw[show((k+1:Nat):Int)=(k:Int)+1 by omega]
     rw [hk1e];simp![ul];refine(kkq r0 er ao (by omega) cu iq).use ?_;intro _ _;cases hf:k6 (qQ z ks (.int k)) 0 st with
     | nil=>
      have ls:obD rs (.tup [.int room,.tup ks]) z k=some .non:=by unfold obD;rw[fk,hf];rfl
      have n8:fGt (.int (([]:List D).length:Nat)) (.int 1)=some (.bl false):=rfl;have c9:fNe (.lst []) (.lst [])=some (.bl false):=rfl;simp![n8,c9];exact⟨K2,k+1,rfl,by omega,lz,lw,nxt K2 .non Ya ls (λ_ _ h=>nomatch h)⟩
     | cons c r=>
      obtain⟨j,rfl,_,hj⟩:=Qw (show c∈k6 (qQ z ks (.int k)) 0 st by rw[hf];exact X3);have hj:j<st.length:=by omega
      cases r with
      | cons c2 r2=>
       simp![];rw[X9 (Xb (by omega))];simp![];exact⟨false,rfl,λh=>nomatch h⟩
      | nil=>
       have hb:=jw5 (p:=(k:Int)) (V:=V4) ao cu (ww1 hs) (by simp[V4]) qi fe hj;have ls:obD rs (.tup [.int room,.tup ks]) z k=some (wK ks (.int k) st[j]):=by unfold obD;rw[fk,hf,List.map_cons,List.map_nil,Q3 hj]
       obtain⟨ac,av,eb,r0',r1',hl',ha',hV'⟩:=id hb;rw[eb]at hb ls;obtain⟨ov,hl3'⟩:=K8 h3 hb;have mx:jV (.lst [.int j]) (.int 0)=some (.int j):=rfl;have c9:fNe (.lst [.int j]) (.lst [])=some (.bl true):=rfl;have n8:fGt (.int (([.int j]:List D).length:Nat)) (.int 1)=some (.bl false):=rfl;simp![n8,c9,mx,ul];rw[Xd (by decide)];refine(kv9 r0 er ao hj).use ?_;intro _ _;rw[eb];simp![];refine(jze ha' (by omega)).use ?_;intro _ _;simp![];refine Kj [some (.rt,iL (j7 av))] (λd y=>y.2=plc (j7 av) d) ?_;simp![];refine⟨rfl,λd hd=>?_,λys hy=>?_⟩
       ·rcases ha' d hd with rfl|⟨i,rfl⟩
        ·simp![];exact⟨⟨_,rfl⟩,rfl⟩
        ·have hm:((j7 av).any λw=>w==i)=true:=by rw[WY];exact Xb (kv7 hd)
         simp![qzl hm];exact⟨⟨_,rfl⟩,rfl⟩
       ·rw[z7,Vz (h:=plc (j7 av)) (λd y h=>h) hy];simp only[back,clr,at',List.map_cons,List.map_nil,List.set_cons_zero,List.set_cons_succ];have gr:=vq9 ov lz.2;obtain⟨i1,i2,i3⟩:=qzh K2 (.tup [.int ac,.tup (pr av)]);have hgo:=kwj lz ov;have hld:Leads (kZ K2 (.tup [.int ac,.tup (pr av)])) (.tup [.int ac,.tup av]):=λ_ _ e=>by cases e;exact i2
        simp![J5 (o:=.no) (xs:=av.map (plc (j7 av))) (by decide)]
        by_cases hm:(D.tup [.int ac,.tup (pr av)])∈K2
        ·have e1:kZ K2 (.tup [.int ac,.tup (pr av)])=K2:=by unfold kZ;rw[X9 hm]
         rw[e1]at hld;rw[Xb hm]at gr;have gr:wW (.tup [.int ac,.tup (av.map (plc (j7 av)))]) (.lst K2)=some (.bl (!true)):=gr;simp![gr];exact⟨K2,k+1,rfl,by omega,lz,lw,nxt K2 _ Ya ls hld⟩
        ·have e1:kZ K2 (.tup [.int ac,.tup (pr av)])=K2++[.tup [.int ac,.tup (pr av)]]:=by unfold kZ;rw[Xd hm]
         rw[e1]at hld hgo i1;rw[Xa hm]at gr;have gr:wW (.tup [.int ac,.tup (av.map (plc (j7 av)))]) (.lst K2)=some (.bl (!false)):=gr;simp![gr];refine vY rfl ?_;simp![];exact⟨_,rfl,by omega,_,k+1,rfl,by omega,hgo,lw.trans i1,nxt _ _ i1 ls hld⟩
    ·rintro E ⟨K2,k,hr2,hkn,lz,lw,jd⟩;have hke:=W6 hkn hr2;refine⟨K2,zs++[z],oh,rfl,by rw[px];simp,lz,hg.trans lw,λz' hz' p hp=>?_⟩;rcases List.mem_append.mp hz' with q|q
     ·obtain⟨e,q1,q2⟩:=hc z' q p hp;exact⟨e,q1,q2.mono lw⟩
     ·rw[List.mem_singleton.mp q];unfold K7 at hp;rw[vX]at hp;obtain⟨i,i0,i1,e⟩:=Kq hp;injection e with e;subst e;exact jd p i0 (by omega)
  ·rintro E ⟨K1,zs,oh,cy,px,hK1,hg,hc⟩;cases oh with
   |cons=>cases cy
   |nil=>
    rw[Xv]at px;subst px;have:=hg.length_le;have qc:=kva hK1 k4 h3 (by decide);simp![];rw[show(a:Int)+1=((a+1:Nat):Int)by omega];refine⟨2000 - (a+1),by omega,K1,a+1,hK1,by omega,rfl,qjf hg hs0m,uc K1 hg hK1 hc⟩
 ·have hd:decide ((a:Int)<(K.length:Int))=false:=Xa (by omega);simp![hd];refine⟨true,rfl,λ_=>⟨λs=>s∈K,λs hs z hz p hp=>?_,hs0m⟩⟩;obtain⟨i,hi,e⟩:=List.mem_iff_getElem.mp hs;have oj:=f9 i (by omega);rw[X2,X1 hi,e]at oj;obtain⟨d,hd1,pi⟩:=oj z hz p hp;refine⟨d,hd1,?_⟩;have hsv:=hK.2 s hs;obtain⟨room,ks,rfl,_⟩:=id hsv;have nl:=(K8 h3 hsv).2;have qy:=KK ks;rw[vX]at hp;obtain⟨j,j0,j1,e'⟩:=Kq hp;injection e' with e';subst e';have qi:D.int p∈V4:=v4I (by omega) (by omega);rcases vxj hR hx hsv qi hd1 with rfl|⟨ac,av,rfl,_⟩
  ·exact .inl rfl
  ·exact .inr ⟨_,_,rfl,pi _ _ rfl⟩
end Nk34
namespace Nk34
open Q PySem C F
noncomputable def kpD(d:D):D:=match d with
 |.tup (k::_)=>k
 |_=>.non
theorem wqf{ss:List Str}{kps:List Int}{rs:List D}(hx:Rx ss kps rs):rs.map kpD=kps.map D.int:=by
 refine List.ext_getElem? λi=>?_
 rw[Xg,Xg]
 by_cases hi:i<kps.length
 ·obtain⟨gd,st,e,_⟩:=hx.2 i hi;rw[e,X1 hi];show some (D.int (kps.getD i 0))=some (D.int kps[i]);rw[X2,X1 hi];rfl
 ·rw[Yo (by have:=hx.1;omega),Yo (by omega)];rfl
inductive FI1 (ns:List Int)(a:Int)(ss:List Str)(rs:List D)(ks:List Int):En->List D->Prop
 |mk (r:Nat) (jf:List D) {l7:Option Sd} {l8:Option Sd} {l9:Option Sd} {i9:Option Sd} {je:Option Sd} {jr:Option Sd} {i7:Option Sd} {ia:Option Sd} {uk:Option Sd} {jw:List D} (h0:jw=jQ r rs.length) (h1:r<=rs.length) (h2:jf.length=r) (h3:∀i:Nat,i<r->∃(gd:Bool) (st:List D),jf[i]?=some (.tup [.int (ks.getD i 0),.bl gd,.lst st])/\(∀s∈st,St (ks.getD i 0) s/\Sx ss ks s)/\st.length<=6):FI1 ns a ss rs ks [some (.no,iL ns),some (.no,.int a),some (.no,kz ss rs),some (.no,sL ss),some (.no,.lst rs),some (.rt,iL ks),some (.rt,.lst jf),l7,l8,l9,i9,je,jr,i7,ia,uk] jw
inductive FI2 (ns:List Int)(a:Int)(ss:List Str)(rs:List D)(ks:List Int)(jf:List D)(r:Nat)(here:Int):En->List D->Prop
 |mk (j:Nat) (st:List D) {l9:Option Sd} {i9:Option Sd} {je:Option Sd} {jr:Option Sd} {i7:Option Sd} {ia:Option Sd} {uk:Option Sd} {jw:List D} (h0:jw=jQ j ss.length) (h1:j<=ss.length) (h2:(∀s∈st,St here s/\Sx ss ks s)) (h3:st.length<=2*j):FI2 ns a ss rs ks jf r here [some (.no,iL ns),some (.no,.int a),some (.no,kz ss rs),some (.no,sL ss),some (.no,.lst rs),some (.rt,iL ks),some (.rt,.lst jf),some (.no,.int r),some (.rt,.lst st),l9,i9,je,jr,i7,ia,uk] jw
inductive FI3 (ns:List Int)(a:Int)(ss:List Str)(rs:List D)(ks:List Int)(jf:List D)(r j:Nat)(here ol:Int)(ld:List Int)(LG LF:List D):En->List D->Prop
 |mk (k:Nat) (b7:List D) {i7:Option Sd} {ia:Option Sd} {uk:Option Sd} {jw:List D} (h0:jw=jQ k ol) (h1:(k:Int)<=ol) (h2:(∀s∈b7,St here s/\Sx ss ks s)) (h3:b7.length<=2*j+k):FI3 ns a ss rs ks jf r j here ol ld LG LF [some (.no,iL ns),some (.no,.int a),some (.no,kz ss rs),some (.no,sL ss),some (.no,.lst rs),some (.rt,iL ks),some (.rt,.lst jf),some (.no,.int r),some (.rt,.lst b7),some (.no,.int j),some (.rt,iL ld),some (.rt,.lst LG),some (.rt,.lst LF),i7,ia,uk] jw
theorem vza(ns:List Int)(a:Int)(ss:List Str)(rs:List D)(ks:List Int)(ha:0<=a)(o9:a<=100)(hs:1<=ss.length)(gl:ss.length<=3)(hR:Rms rs)(hx:Rx ss ks rs)(dl:∀k∈ks,0<=k/\k<=3):Oo jv2 [(.no,iL ns),(.no,.int a),(.no,kz ss rs)] (λy=>∃ub,y=(.no,kz ss ub)/\Rms ub/\Rx ss ks ub) noX:=by
 have m1:zY (.no,.lst [.int 60]) (.no,.int 10)=some (.rt,.lst [.int 60,.int 60,.int 60,.int 60,.int 60,.int 60,.int 60,.int 60,.int 60,.int 60]):=rfl;have p1':jx (.no,.lst [.int 4]) (.no,.lst [.int 60,.int 60,.int 60,.int 60,.int 60,.int 60,.int 60,.int 60,.int 60,.int 60])=some (.rt,.lst [.int 4,.int 60,.int 60,.int 60,.int 60,.int 60,.int 60,.int 60,.int 60,.int 60,.int 60]):=rfl;have m8:ks.length=rs.length:=hx.1.symm;have qc:=hR.1;have hkl4:=hR.2.1;unfold jv2;simp only[h1,h2];refine kX ?_;simp![];refine Kj [] (λd y=>y.2=kpD d) ?_;simp![];refine⟨λd ik=>?_,λys hy=>?_⟩
 ·obtain⟨kp,gd,st,rfl,_⟩:=hR.2.2 d ik;simp![t0]
  first|exact⟨⟨_,rfl⟩,rfl⟩|exact⟨_,rfl⟩
 rw [z7,Vz (h:=kpD) (λd y h=>h) hy,wqf hx];simp only[back,clr,at',List.map_cons,List.map_nil,List.set_cons_zero,List.set_cons_succ];simp![];refine vZ (FI1 ns a ss rs ks) ?_ ?_ ?_
 ·refine JV ?_;simp![];exact⟨_,rfl,by omega,by omega,0,[],rfl,by omega,rfl,λi hi=>absurd hi (Nat.not_lt_zero _)⟩
 ·rintro E d ds ⟨r,jf,hr,mi,m6,hrs⟩;obtain⟨b8,rfl,rfl⟩:=J3 (by omega) hr;have hr4:r<4:=by omega
  obtain⟨here,eh,⟨nt,hh1⟩,oz⟩:=ixI ks _ dl r (by omega) (by omega);have oz:ks[r]?=some here:=by simpa using oz
  have u4:ks.getD r 0=here:=by rw[X2,oz];rfl
  have hrl4:=kkr (k:=0) (n:=here) nt;obtain⟨gd0,st0,er0,_⟩:=hx.2 r (by omega);have WQ:jV (.lst rs) (.int r)=some (.tup [.int (ks.getD r 0),.bl gd0,.lst st0]):=v9 (by omega) (by simpa using er0);have s2:jx (.no,.lst (jQ 0 here)) (.no,.lst [.str "any",.str "fresh"])=some (.rt,.lst (jQ 0 here++[.str "any",.str "fresh"])):=kzt (by decide) (by decide) (by simp;omega);have s3:jx (.no,.lst (jQ 0 here)) (.no,.lst [.str "new",.non])=some (.rt,.lst (jQ 0 here++[.str "new",.non])):=kzt (by decide) (by decide) (by simp;omega);have hLG:∀d∈(jQ 0 here++[.str "any",.str "fresh"]:List D),Gd here d:=λd hd=>by
   rcases List.mem_append.mp hd with z|z
   ·obtain⟨i,i0,i1,rfl⟩:=Kq z;exact .inr (.inr ⟨i,i0,i1,rfl⟩)
   ·rcases List.mem_cons.mp z with rfl|z
    ·exact .inr (.inl rfl)
    ·rw[List.mem_singleton.mp z];exact .inl rfl
  have hLF:∀d∈(jQ 0 here++[.str "new",.non]:List D),Fd here d:=λd hd=>by
   rcases List.mem_append.mp hd with z|z
   ·obtain⟨i,i0,i1,rfl⟩:=Kq z;exact .inr (.inr ⟨i,i0,i1,rfl⟩)
   ·rcases List.mem_cons.mp z with rfl|z
    ·exact .inl rfl
    ·rw[List.mem_singleton.mp z];exact .inr (.inl rfl)
  have hlG:(((jQ 0 here++[.str "any",.str "fresh"]:List D).length:Nat):Int)=2+here:=by simp;omega
  have hlF:(((jQ 0 here++[.str "new",.non]:List D).length:Nat):Int)=2+here:=by simp;omega
  generalize (jQ 0 here++[.str "any",.str "fresh"]:List D)=LG at s2 hLG hlG;generalize (jQ 0 here++[.str "new",.non]:List D)=LF at s3 hLF hlF;simp![];refine vZ (FI2 ns a ss rs ks jf r here) ?_ ?_ ?_
  ·refine JV ?_;simp![];exact⟨ss.length,by simp,by omega,by omega,0,[],rfl,by omega,(λs hs=>nomatch hs),by simp⟩
  ·rintro E d t5 ⟨j,st,hr2,hj,ao,hstl⟩;obtain⟨hjlt,rfl,rfl⟩:=J3 (by omega) hr2;have r6:j<ss.length:=by omega
   have fe:jV (sL ss) (.int j)=some (.str ss[j]):=v9 (by omega) (by simp[r6]);have hrj:(r:Int)*(ss.length:Int)<=3*3:=Z7 (by omega) (by omega) (by omega) (by decide);have hrj0:0<=(r:Int)*(ss.length:Int):=Z8 (by omega) (by omega);simp![];refine(KW ns (a+1+r*ss.length+j) (by omega) (by omega)).use ?_;intro x2 _;simp![m1,p1'];refine(Zz x2 [4,60,60,60,60,60,60,60,60,60,60] (by decide) (by decide)).use ?_;intro ld kh;obtain⟨y0,f0,g0,g0'⟩:=dg kh 0 (by decide) (by decide);have g0':y0<4:=g0';obtain⟨ol,pq,⟨c0,c3⟩,_⟩:=ixI [0,1,1,2] (λc=>0<=c/\c<=2) (by decide) y0 g0 (by simpa using g0');have pq:jV (.lst [.int 0,.int 1,.int 1,.int 2]) (.int y0)=some (.int ol):=pq;simp![eh,s2,s3];refine vZ (FI3 ns a ss rs ks jf r j here ol ld LG LF) ?_ ?_ ?_
   ·refine JV ?_;simp![f0,pq];exact⟨ol,rfl,by omega,by omega,0,st,rfl,by omega,ao,by omega⟩
   ·rintro E d ds3 ⟨k,b7,hr3,hkc,jy,hst2l⟩;obtain⟨hklt,rfl,rfl⟩:=J3 hkc hr3;obtain⟨y2,f2,g2,_⟩:=dg kh (2+5*k) (by omega) (by simp;omega);obtain⟨y1,f1,g1,_⟩:=dg kh (1+5*k) (by omega) (by simp;omega);have r0:=Xq y2 (show(rs.length:Int)≠0 by omega);have r1:=Xk y2 (show 0<(rs.length:Int)by omega);obtain⟨qt,et,⟨qs,ht1⟩,hkto⟩:=ixI ks _ dl (y2 % rs.length) r0 (by omega);obtain⟨ws,hws,lx⟩:=vjb (ys:=ld) (lo:=3+5*k) (n:=qt) (by omega) qs (by rw[kh.len];show(3+5*k+qt:Int)<=11;omega);have t0':=Xq y1 (show 2+here≠0 by omega);have t1':=Xk y1 (show 0<2+here by omega);have u7:=vxv LG (y1 % (2+here)) t0' (by omega);have hgd:=hLG _ (J7 LG (y1 % (2+here)) t0' (by omega));generalize LG.getD (y1 % (2+here)).toNat .non=g at u7 hgd;simp![f2,mod_i (a:=y2) (b:=(rs.length:Int)) (by omega)];refine Kj [some (.rt,.lst LF)] (λd y=>Fd here y.2) ?_;simp![et,vkk (o:=.rt) (xs:=ld.map D.int) (lo:=some (3+5*k)) (hi:=some (3+5*k+qt)) (by decide),hws];refine⟨rfl,λd hd=>?_,λys hy=>?_⟩
    ·obtain⟨w,hw,rfl⟩:=List.mem_map.mp hd;have w0:=Xq w (show 2+here≠0 by omega);have w1:=Xk w (show 0<2+here by omega);simp![hlF,mod_i (a:=w) (b:=2+here) (by omega),vxv LF (w % (2+here)) w0 (by omega)];exact⟨⟨_,rfl⟩,hLF _ (J7 LF (w % (2+here)) w0 (by omega))⟩
    ·have im:=qqb (S:=Fd here) (λd y h=>h) hy;have pe:((ys.map (·.2)).length:Int)=qt:=by rw[X4,hy.len,X4];exact lx
     rw[z7];simp only[back,clr,at',List.map_cons,List.map_nil,List.set_cons_zero,List.set_cons_succ];generalize ys.map (·.2)=fl at im pe;simp![J5 (o:=.no) (xs:=fl) (by decide)];refine vY rfl ?_;simp![fe,f1,hlG,mod_i (a:=y1) (b:=2+here) (by omega),u7];refine⟨_,rfl,by omega,k+1,_,by rw[show((k+1:Nat):Int)=(k:Int)+1 by omega],by omega,λs hs=>?_,by simp;omega⟩;rcases List.mem_append.mp hs with z|z
     ·exact jy s z
     ·rw[List.mem_singleton.mp z];refine⟨⟨_,g,_,fl,rfl,hgd,im,by omega⟩,_,g,_,fl,rfl,Xh _,r0,by omega,?_⟩;rw[pe,X2,hkto];rfl
   ·rintro E ⟨k,b7,hr3,hkc,jy,hst2l⟩;have:=W6 hkc hr3;exact⟨j+1,b7,by rw[show((j+1:Nat):Int)=(j:Int)+1 by omega],by omega,jy,by omega⟩
  ·rintro E ⟨j,st,hr2,hj,ao,hstl⟩;refine vY rfl ?_;simp![eh,WQ,t1];refine⟨_,rfl,by omega,r+1,_,by rw[show((r+1:Nat):Int)=(r:Int)+1 by omega],by omega,by simp[m6],λi hi=>?_⟩
   by_cases he:i<r
   ·obtain⟨gd,cz,q1,q2,q3⟩:=hrs i he;exact⟨gd,cz,by rw[Xu (by omega)];exact q1,q2,q3⟩
   ·have:i=r:=by omega
    subst this;refine⟨gd0,st,by rw[Xy (by omega),m6,Nat.sub_self,u4];rfl,by rw[u4];exact ao,by omega⟩
 ·rintro E ⟨r,jf,hr,mi,m6,hrs⟩;have:=W6 (by omega) hr;simp![kz2 (o:=.no) (xs:=ss.map D.str) (by decide)];refine⟨jf,rfl,⟨by omega,by omega,λr' mq=>?_⟩,⟨by omega,λi hi=>?_⟩⟩
  ·obtain⟨i,hi,e⟩:=List.mem_iff_getElem.mp mq;obtain⟨gd,st,q1,q2,q3⟩:=hrs i (by omega);rw[X1 hi,e]at q1;have hk:=dl (ks.getD i 0) (by rw[X2,X1 (by omega)];exact Xh _);exact⟨_,gd,st,oq9 q1,hk.1,hk.2,λs hs=>(q2 s hs).1,by omega⟩
  ·obtain⟨gd,st,q1,q2,q3⟩:=hrs i (by omega);exact⟨gd,st,q1,λs hs=>(q2 s hs).2⟩
theorem vq6(n:Nat):Ww (List.replicate n .non):=λi j p h _=>by
 have:=List.eq_of_mem_replicate (Xm h);cases this
theorem vqw(ns:List Int)(a:Int)(ss:List Str)(ha:0<=a)(o9:a<=100)(hs:1<=ss.length)(gl:ss.length<=3)(ma:ss.Nodup):Oo jqj [(.no,iL ns),(.no,.int a),(.no,sL ss)] (λy=>∃rs at_,y=(.no,.tup [kz ss rs,.int at_])/\Rms rs/\a<=at_/\at_<=a+13/\∃kps:List Int,Rx ss kps rs/\(∀k∈kps,0<=k/\k<=3)/\Sng ss rs (.tup [.int 0,.tup (List.replicate (kps.getD 0 0).toNat .non)])) noX:=by
 have hpow:zW (.int 10) (.int 50)=some (.int (10 ^ 50)):=rfl;unfold jqj;simp only[h1,h9];refine kX ?_;simp![];refine(F.single_ok KW ns a ss ha o9 hs gl ma).use2 ?_;rintro rs at_ ⟨hR,a0,a1,kps,hx,dl,ap,hS⟩;have h3:∀k∈kps,k<=3:=λk hk=>(dl k hk).2
 have m8:=hx.1;have qc:=hR.1;have dj:=dl (kps.getD 0 0) (by rw[X2,X1 (by omega)];exact Xh _);simp![];refine(vza ns a ss rs kps ha o9 hs gl hR hx dl).use ?_;rintro ub ⟨hR',jh⟩;obtain⟨mw,cz,hr0',_⟩:=jh.2 0 (by omega);obtain⟨gd,st,ez,_⟩:=hx.2 0 (by omega);have fi:Kin kps V4 [.tup [.int 0,.tup (List.replicate (kps.getD 0 0).toNat .non)]]:=jxk hR hx (by simp[V4]) ez dj.1;have gh:Sng ss rs (.tup [.int 0,.tup (List.replicate (kps.getD 0 0).toNat .non)]):=⟨_,vqh hR hx h3 hS,fi.2 _ X3,λ_=>vq6 _⟩;simp![];refine(KW ns a ha (by omega)).use ?_;intro x mx;have q0:=Xq (x / 10 ^ 50) (show(2:Int)≠0 by decide);simp![hpow,xv,div_i (a:=x) (b:=10 ^ 50) (by decide) (by omega),mod_i (a:=x / 10 ^ 50) (b:=2) (by decide)];cases hb:(x / 10 ^ 50 % 2==1)with
 | false=>
  simp![];exact⟨rs,at_,rfl,hR,a0,a1,kps,hx,dl,gh⟩
 | true=>
  simp![];refine(kz6 hR' jh h3 hr0' dj.1 dj.2).use ?_;intro b hb2;cases b with
  |false=>
   simp![];exact⟨rs,at_,rfl,hR,a0,a1,kps,hx,dl,gh⟩
  |true=>
   simp![];exact⟨ub,at_,rfl,hR',a0,a1,kps,jh,dl,hb2 rfl⟩
end Nk34
namespace Nk34
open Q PySem C F
theorem wxe{a b:Int}{ds:List Int}(h:Digs [a,b] ds):∃x y,ds=[x,y]/\0<=x/\x<a/\0<=y/\y<b:=by
 obtain⟨x,e1,x0,x1⟩:=h.get 0 a rfl;obtain⟨y,e2,y0,y1⟩:=h.get 1 b rfl;have hl:=h.len
 match ds,hl,e1,e2 with
 |[p,q],_,e1,e2=>
  have e1:p=x:=by simpa using e1
  have e2:q=y:=by simpa using e2
  exact⟨x,y,by rw[e1,e2],x0,x1,y0,y1⟩
structure Rw (ss:List Str)(rs:List D)(ps kps:List Int)(s0:D)(ws:List (Str×Int))(dh way:List D):Prop where
 len:dh.length=ws.length+1
 at_:∀i,i<=ws.length->dh[i]?=some (vk rs (ws.take i) s0)
 mem:∀w∈ws,w.1∈ss/\w.2∈ps
 way:vk rs ws s0=.non\/(Sok kps (vk rs ws s0)/\∃L:Lg,L.map (·.1)=ws/\way=xV L/\Chain rs s0 L (vk rs ws s0))
theorem Rw.snoc{ss:List Str}{rs:List D}{ps kps:List Int}{s0:D}{ws:List (Str×Int)}{dh way way':List D}(h:Rw ss rs ps kps s0 ws dh way){w:Str×Int}(hw:w.1∈ss/\w.2∈ps){s:D}(es:vk rs ws s0=s){s':D}(e:wq rs w s=s')(hway:s'=.non\/(Sok kps s'/\∃L:Lg,L.map (·.1)=ws++[w]/\way'=xV L/\Chain rs s0 L s')):Rw ss rs ps kps s0 (ws++[w]) (dh++[s']) way':=by
 have hwk:vk rs (ws++[w]) s0=s':=by rw[kx4,es,e]
 refine⟨by simp[h.len],λi hi=>?_,λv hv=>?_,by rw[hwk];exact hway⟩
 ·rw[Xi,Yd]at hi
  by_cases kt:i<=ws.length
  ·rw[Xu (by have:=h.len;omega),List.take_append_of_le_length kt];exact h.at_ i kt
  ·have:i=ws.length+1:=by omega
   subst this;rw[Xy (by have:=h.len;omega),h.len,Nat.sub_self,List.take_of_length_le (by simp),hwk];rfl
 ·rcases List.mem_append.mp hv with z|z
  ·exact h.mem v z
  ·rw[List.mem_singleton.mp z];exact hw
abbrev Lw:=List (Str×Int)
inductive RI1 (ns:List Int)(a n:Int)(ss:List Str)(rs:List D)(ps kps:List Int)(fu:Bool)(s0:D):En->List D->Prop
 |mk (k:Int) (ws:Lw) (dh:List D) (way:List D) {l9:Option Sd} {i9:Option Sd} {je:Option Sd} {jr:Option Sd} {i7:Option Sd} {ia:Option Sd} {jw:List D} (h0:a<=k) (h1:k<=a+n) (h2:jw=jQ k (a+n)) (h3:(ws.length:Int)<=k - a) (h4:(way.length:Int)<=k - a) (h5:Rw ss rs ps kps s0 ws dh way):RI1 ns a n ss rs ps kps fu s0 [some (.no,iL ns),some (.no,.int a),some (.no,.int n),some (.no,kz ss rs),some (.no,iL ps),some (.no,.bl fu),some (.rt,.lst (rwD ws)),some (.rt,.lst way),some (.rt,.lst dh),l9,i9,je,jr,i7,ia] jw
theorem wjj(ns:List Int)(a n:Int)(ss:List Str)(rs:List D)(ps kps:List Int)(fu:Bool){kp:Int}{gd st0:D}(ha:0<=a)(o9:a<=100)(hn:0<=n)(mz:n<=60)(hs:1<=ss.length)(gl:ss.length<=3)(hp:1<=ps.length)(hp5:ps.length<=5)(hR:Rms rs)(hx:Rx ss kps rs)(ez:rs[0]?=some (.tup [.int kp,gd,st0]))(iy:0<=kp)(ie:kp<=3)(lc:Sok kps (.tup [.int 0,.tup (List.replicate kp.toNat .non)])):
  Oo XV [(.no,iL ns),(.no,.int a),(.no,.int n),(.no,kz ss rs),(.no,iL ps),(.no,.bl fu)] (λy=>∃(ws:List (Str×Int)) (sw:List D×List D),y=(.no,.tup [.lst (rwD ws),.lst sw.1,.lst sw.2])/\ws.length<=60/\Rw ss rs ps kps (.tup [.int 0,.tup (List.replicate kp.toNat .non)]) ws sw.1 sw.2) noX:=by
 have hix0:jV (.lst rs) (.int 0)=some (.tup [.int kp,gd,st0]):=v9 (by decide) ez;have kl:fNe (.lst []) (.lst [])=some (.bl false):=rfl;unfold XV;simp only[h1,h2,h5,h6];refine kX ?_;simp![C.p1,hix0,C.t0,qxp (o1:=.no) (o2:=.no) (a:=.non) (k:=kp) (by decide) iy (by omega)];generalize (D.tup [.int 0,.tup (List.replicate kp.toNat .non)])=s0 at *;refine vZ (RI1 ns a n ss rs ps kps fu s0) ?_ ?_ ?_
 ·simp![];refine⟨a,[],[s0],[],by omega,by omega,rfl,by simp,by simp,⟨rfl,λi hi=>?_,(λ_ z=>nomatch z),.inr ⟨lc,[],rfl,rfl,rfl⟩⟩⟩;have:i=0:=by simpa using hi
  subst this;rfl
 ·rintro E d ds ⟨k,ws,dh,way,k0,k1,hr,hLl,hWl,hW⟩;obtain⟨hk,rfl,rfl⟩:=J3 k1 hr;have es:=hW.at_ ws.length (X8 _);rw [List.take_length]at es;have hsl0:=hW.len;have ce:jV (.lst dh) (.int (-1))=some (vk rs ws s0):=qzc (by rw[hW.len];exact es);simp![];refine(KW ns k (by omega) (by omega)).use ?_;intro x _;simp![];refine(Zz x [6,60] (by decide) (by decide)).use ?_;intro ds hd;obtain⟨v,p,rfl,v0,_,p0',_⟩:=wxe hd;have u0:=Xq v (show(ss.length:Int)≠0 by omega);have u1:=Xk v (show(0:Int)<ss.length by omega);have w0:=Xq p (show(ps.length:Int)≠0 by omega);have w1:=Xk p (show(0:Int)<ps.length by omega);have esg:jV (sL ss) (.int (v % ss.length))=some (.str (ss[(v % ss.length).toNat]'(by omega))):=v9 u0 (by rw[Xg,X1 (by omega)];rfl);have tw:ss[(v % ss.length).toNat]'(by omega)∈ss:=Xh _;generalize ss[(v % ss.length).toNat]'(by omega)=sg at esg tw;obtain⟨nm,enm,rq,_⟩:=ixI ps (λx=>x∈ps) (λ_ h=>h) (p % ps.length) w0 (by omega);have iq:At (.int nm):=.inr ⟨nm,rfl⟩;have hw:(sg,nm).1∈ss/\(sg,nm).2∈ps:=⟨tw,rq⟩;have next:∀(l9 i9 je jr i7 ia:Option Sd) (s':D) (way':List D),(way'.length:Int)<=k+1 - a->Rw ss rs ps kps s0 (ws++[(sg,nm)]) (dh++[s']) way'->RI1 ns a n ss rs ps kps fu s0 [some (.no,iL ns),some (.no,.int a),some (.no,.int n),some (.no,kz ss rs),some (.no,iL ps),some (.no,.bl fu),some (.rt,.lst (rwD ws++[.tup [.str sg,.int nm]])),some (.rt,.lst way'),some (.rt,.lst (dh++[s'])),l9,i9,je,jr,i7,ia] (jQ (k+1) (a+n)):=λl9 i9 je jr i7 ia s' way' h1 h2=>by
   rw[show rwD ws++[.tup [.str sg,.int nm]]=rwD (ws++[(sg,nm)])by simp only[rwD,Xp,List.map_cons,List.map_nil]];exact⟨k+1,ws++[(sg,nm)],dh++[s'],way',by omega,by omega,rfl,by simp;omega,h1,h2⟩
  rcases hW.way with fw|⟨hok,L,rf,hL2,hL3⟩
  ·rw[fw]at ce;have bd:=hW.snoc (way':=way) hw fw (show wq rs (sg,nm) .non=.non from rfl) (.inl rfl);cases fu with
   | true=>
    simp![C.p0,mod_i (a:=v) (b:=(ss.length:Int)) (by omega),esg,VW,ce,mod_i (a:=p) (b:=(ps.length:Int)) (by omega),enm,kl];exact⟨k+1,ws,dh,way,by omega,by omega,rfl,by omega,by omega,hW⟩
   | false=>
    simp![C.p0,mod_i (a:=v) (b:=(ss.length:Int)) (by omega),esg,VW,ce,mod_i (a:=p) (b:=(ps.length:Int)) (by omega),enm,kl];refine vY rfl ?_;simp![];refine⟨_,rfl,by rw[X4];omega,?_⟩;simp![kl];refine vY rfl ?_;simp![];refine⟨_,rfl,by omega,next _ _ _ _ _ _ _ _ (by omega) bd⟩
  ·generalize hse:vk rs ws s0=s at ce hok hL3;obtain⟨room,ks,st,mw,rfl,r0,er,ao,cu,fe,ic⟩:=V3 hR hx hok;have fk:v6 rs (sg,nm) (.tup [.int room,.tup ks])=(k6 (qQ sg ks (.int nm)) 0 st).map (bh ks st nm):=by unfold v6;rw[Qq er,vX]
   simp![C.p0,mod_i (a:=v) (b:=(ss.length:Int)) (by omega),esg,VW,ce,mod_i (a:=p) (b:=(ps.length:Int)) (by omega),enm];refine(kkq r0 er ao (by omega) cu iq).use ?_;intro _ _;have hfi:∀d∈k6 (qQ sg ks (.int nm)) 0 st,∃i:Int,d=.int i:=λd hd=>kq0 d hd
   cases hf:k6 (qQ sg ks (.int nm)) 0 st with
   | nil=>
    have ph:wq rs (sg,nm) (.tup [.int room,.tup ks])=.non:=by unfold wq;rw[fk,hf];rfl
    have bd:=hW.snoc (way':=way) hw hse ph (.inl rfl);cases fu with
    |true=>
     simp![kl];exact⟨k+1,ws,dh,way,by omega,by omega,rfl,by omega,by omega,hW⟩
    |false=>
     simp![kl];refine vY rfl ?_;simp![];refine⟨_,rfl,by rw[X4];omega,?_⟩;simp![kl];refine vY rfl ?_;simp![];refine⟨_,rfl,by omega,next _ _ _ _ _ _ _ _ (by omega) bd⟩
   | cons c fr=>
    obtain⟨j,rfl,_,hj⟩:=Qw (show c∈k6 (qQ sg ks (.int nm)) 0 st by rw[hf];exact X3);have hj:j<st.length:=by omega
    have c9:fNe (.lst (.int j::fr)) (.lst [])=some (.bl true):=by
     have:=wq5 hfi;rw[hf]at this;exact this
    have mx:jV (.lst (.int j::fr)) (.int 0)=some (.int j):=by
     refine v9 (by decide) ?_;rfl
    have ph:wq rs (sg,nm) (.tup [.int room,.tup ks])=wK ks (.int nm) st[j]:=by unfold wq;rw[fk,hf,List.map_cons];show bh ks st nm (.int j)=_;rw[Q3 hj]
    have go:Go rs (.tup [.int room,.tup ks]) (sg,nm) j (wK ks (.int nm) st[j]):=⟨room,ks,st,mw,rfl,r0,er,ao,cu,hj,by rw[hf];exact X3,rfl⟩;have bd:=hW.snoc (way':=way++[.int j]) hw hse ph (.inr ⟨kv3 ao cu fe hj,L++[((sg,nm),j)],by rw[Xp,rf];rfl,by rw[hL2];simp[xV],Chain.snoc (x:=((sg,nm),j)) go hL3⟩);simp![c9];refine vY rfl ?_;simp![];refine⟨_,rfl,by rw[X4];omega,?_⟩;simp![c9];refine vY rfl ?_;simp![mx];refine⟨_,rfl,by omega,?_⟩;simp![VW,ce,mx];refine(kv9 (d:=.int nm) r0 er ao hj).use ?_;intro _ _;simp![];refine vY rfl ?_;simp![];refine⟨_,rfl,by omega,next _ _ _ _ _ _ _ _ (by simp;omega) bd⟩
 ·rintro E ⟨k,ws,dh,way,k0,k1,hr,hLl,hWl,hW⟩;simp![];exact⟨ws,(dh,way),rfl,by omega,hW⟩
theorem qqm{ss:List Str}{rs:List D}{kps:List Int}{K a7:List D}{s:D}(h:Pf ss rs kps K a7)(hs:QY kps K s):Oo VZ [(.no,ww K s),(.no,.lst K),(.no,s)] (λy=>∃_:Unit,y=(.dp,.bl true)/\True) noX:=by
 rcases hs with rfl|⟨hs,hm⟩
 ·unfold VZ;refine kX ?_;show Po _ _ _ _ _;unfold ww;simp![]
  first|trivial|exact⟨(),trivial⟩|exact⟨(),rfl,trivial⟩
 ·obtain⟨room,ks,rfl,r0,r1,hl,hk⟩:=id hs;have hm:D.tup [.int room,.tup (pr ks)]∈K:=hm;have kt:=zz hm;have nl:=vqg h.le r0 r1;have t6:jV (.lst K) (.int (K.idxOf (.tup [.int room,.tup (pr ks)]):Nat))=some (.tup [.int room,.tup (pr ks)]):=v9 (by omega) (by rw[Xs,X1 kt,List.getElem_idxOf kt]);have hpa:=wke hk (by omega);have he1:fEq (.tup [.int room,.tup (pr ks)]) (.tup [.int room,.tup (pr ks)])=some (.bl true):=C.eq_self (vkd hpa.1);have ri:fEq (iT (j7 ks)) (iT (j7 ks))=some (.bl true):=C.eq_self (by
   show D.flats 39 ((j7 ks).map D.int)=true;exact xZ λk hk=>by obtain⟨i,_,rfl⟩:=List.mem_map.mp hk;rfl)
  have hisi:∀xs,Qk "tuple" (.tup xs)=some (.bl true):=λxs=>rfl
  have hne2:fNe (.int ((2:Nat):Int)) (.int 2)=some (.bl false):=rfl;show Oo VZ [(.no,.tup [.int (K.idxOf (.tup [.int room,.tup (pr ks)]):Nat),iT (j7 ks)]),(.no,.lst K),(.no,.tup [.int room,.tup ks])] _ _;generalize K.idxOf (.tup [.int room,.tup (pr ks)])=ix at t6;unfold VZ;refine kX ?_;simp![hisi,hne2,C.p1];refine vZ (λE jw=>∃(k1:List D) (l4 l5:Option Sd),E=[some (.no,.tup [.int (ix:Nat),iT (j7 ks)]),some (.no,.lst K),some (.no,.tup [.int room,.tup ks]),some (.rt,iL (j7 k1)),l4,l5]/\ks=k1++jw) ?_ ?_ ?_
  ·simp![C.p1];exact⟨[],_,_,rfl,rfl⟩
  ·rintro E d ds ⟨k1,l4,l5,rfl,he⟩;have ae:=congrArg List.length he;rw [Xi,Xr]at ae;have hb:=KK k1;have pw:j7 (k1++[d])=insI (j7 k1) d:=by unfold j7;rw[List.foldl_append];rfl
   rcases hk d (by rw[he];simp)with rfl|⟨i,rfl⟩
   ·simp![];exact⟨k1++[.non],_,_,by rw[pw];rfl,by rw[he];simp⟩
   ·by_cases hm:i∈j7 k1
    ·have hq:=qkv (p:=i) (ks:=j7 k1);rw[Xb hm]at hq;simp![hq];exact⟨k1++[.int i],_,_,by rw[pw];unfold F.insI;dsimp only;rw[X9 hm],by rw[he];simp⟩
    ·have hq:=qkv (p:=i) (ks:=j7 k1);rw[Xa hm]at hq;simp![hq];refine vY rfl ?_;simp![];have e4:(j7 k1).map D.int++[D.int i]=(j7 (k1++[.int i])).map D.int:=by
      rw[pw,show F.insI (j7 k1) (.int i)=j7 k1++[i]from Xd hm,Xp];rfl
     exact⟨_,rfl,by simp;omega,k1++[.int i],_,_,by rw[e4],by rw[he];simp⟩
  ·rintro E ⟨k1,l4,l5,rfl,he⟩;rw[Xv]at he;subst he;simp![];refine Kj [some (.rt,iL (j7 ks))] (λd y=>y.2=plc (j7 ks) d) ?_;simp![C.p1];refine⟨rfl,λd hd=>?_,λys hy=>?_⟩
   ·rcases hk d hd with rfl|⟨i,rfl⟩
    ·simp![];exact⟨⟨_,rfl⟩,rfl⟩
    ·have hm:((j7 ks).any λw=>w==i)=true:=by rw[WY];exact Xb (kv7 hd)
     simp![qzl hm];exact⟨⟨_,rfl⟩,rfl⟩
   ·rw[z7,Vz (h:=plc (j7 ks)) (λd y h=>h) hy];simp only[back,clr,at',List.map_cons,List.map_nil,List.set_cons_zero,List.set_cons_succ];have he1:fEq (.tup [.int room,.tup (pr ks)]) (.tup [.int room,.tup (ks.map (plc (j7 ks)))])=some (.bl true):=he1;simp![J5 (o:=.no) (xs:=ks.map (plc (j7 ks))) (by decide),C.p0,C.p1,t6,he1,J5 (o:=.rt) (xs:=(j7 ks).map D.int) (by decide),ri]
    first|trivial|exact⟨(),trivial⟩|exact⟨(),rfl,trivial⟩
end Nk34
namespace Nk34
open Q PySem C F
theorem h10:m__law_copy=C.m__law_copy:=rfl
theorem h11:m__law_pool=C.m__law_pool C.m__law_draw2:=rfl
theorem h12:m_plain_of=F.m_plain_of qwj:=rfl
theorem h13:ZY=C.stands:=rfl
theorem h14:jve=C.plets:=rfl
theorem h15:m_way_by=C.m_way_by:=rfl
theorem h16:m_lets_by=C.m_lets_by:=rfl
section
variable {ss:List Str}{rs:List D}{kps:List Int}{K a7:List D}
theorem vvs(h:Pf ss rs kps K a7){s s':D}{w:Str×Int}{k:Nat}(hs:Sok kps s)(hm:WK s∈K)(hz:w.1∈ss)(g:Go rs s w k s'):s'=wq rs w s/\QY kps K s'/\∀k' ml,Go rs s w k' ml->k'=k:=by
 obtain⟨z,p⟩:=w;obtain⟨c1,_,c3⟩:=h.step (p:=p) (.inr ⟨hs,hm⟩) hz;obtain⟨room,ks,st,gd,rfl,r0,er,ao,cu,hk,d8,rfl⟩:=g;have fk:v6 rs (z,p) (.tup [.int room,.tup ks])=(k6 (qQ z ks (.int p)) 0 st).map (bh ks st p):=by unfold v6;rw[Qq er,vX]
 have d8:D.int k∈k6 (qQ z ks (.int p)) 0 st:=d8;rcases c3 with⟨hn,_⟩|⟨hn,_⟩
 ·rw[fk]at hn;rw[List.map_eq_nil_iff.mp hn]at d8;cases d8
 ·have hl:=congrArg List.length (fk.symm.trans hn);rw[X4,Yd]at hl;obtain⟨c,hc⟩:=List.length_eq_one_iff.mp hl;rw[hc]at d8;have hck:=List.mem_singleton.mp d8;have he:wK ks (.int p) st[k]=wq rs (z,p) (.tup [.int room,.tup ks]):=by
   rw[fk,hc,<-hck,List.map_cons,List.map_nil]at hn;injection hn with hn _;rw[<-hn,Q3 hk]
  refine⟨he,by show QY kps K (wK ks (.int p) st[k]);rw[he];exact c1,λk' ml g'=>?_⟩;obtain⟨ac,av,cz,mw,e',_,jb,_,_,_,jc,_⟩:=g';injection e' with e';injection e' with e1 e';injection e' with e2 _;injection e1 with e1;injection e2 with e2;subst e1 e2;rw[er]at jb;have jb:=oq9 jb;injection jb with jb;injection jb with _ jb;injection jb with _ jb;injection jb with jb _;injection jb with jb;subst jb;have jc:D.int k'∈k6 (qQ z ks (.int p)) 0 st:=jc;rw[hc]at jc;have e:=(List.mem_singleton.mp jc).trans hck.symm;injection e with e;omega
theorem kzg(h:Pf ss rs kps K a7):∀{L L':Lg} {s s1 s2:D},Sok kps s->WK s∈K->(∀x∈L,x.1.1∈ss)->L.map (·.1)=L'.map (·.1)->Chain rs s L s1->Chain rs s L' s2->L=L'
 | [],[],_,_,_,_,_,_,_,_,_=>rfl
 | [],_::_,_,_,_,_,_,_,e,_,_=>by cases e
 | _::_,[],_,_,_,_,_,_,e,_,_=>by cases e
 | x::L,x'::L',s,s1,s2,hs,hm,hz,e,c1,c2=>by
  obtain⟨w,k⟩:=x;obtain⟨w',k'⟩:=x';obtain⟨m,g,c1⟩:=c1;obtain⟨m',g',c2⟩:=c2;rw[List.map_cons,List.map_cons]at e;injection e with e1 e2;have e1:w=w':=e1;subst e1;obtain⟨q1,q2,q3⟩:=vvs h hs hm (hz _ X3) g;obtain⟨q1',_,_⟩:=vvs h hs hm (hz _ X3) g';have hk:=q3 k' m' g';subst hk;have hmm:m'=m:=q1'.trans q1.symm;subst hmm;rcases q2 with rfl|⟨q2,q4⟩
  ·have g:Go rs s w k' .non:=g;obtain⟨room,ks,st,gd,rfl,r0,er,ao,cu,hk,d8,eb⟩:=g;obtain⟨w2,g2,to,fs,es,_⟩:=ao st[k'] (Xh hk);rw[es]at eb;cases eb
  ·rw[kzg h q2 q4 (λx hx=>hz x (lc9 _ hx)) e2 c1 c2]
theorem wwj{kp:Int}{gd st0:D}(hR:Rms rs)(hx:Rx ss kps rs)(h3:∀k∈kps,k<=3)(ez:rs[0]?=some (.tup [.int kp,gd,st0]))(iy:0<=kp)(ff:Run ss rs [.tup [.int 0,.tup (List.replicate kp.toNat .non)]] [] (some (K,a7))):Pf ss rs kps K a7/\D.tup [.int 0,.tup (List.replicate kp.toNat .non)]∈K/\ww K (.tup [.int 0,.tup (List.replicate kp.toNat .non)])=.tup [.int 0,iT []]/\WK (.tup [.int 0,.tup (List.replicate kp.toNat .non)])=.tup [.int 0,.tup (List.replicate kp.toNat .non)]:=by
 have fi:Kin kps V4 [.tup [.int 0,.tup (List.replicate kp.toNat .non)]]:=jxk hR hx (by simp[V4]) ez iy;have rq:∀n:Nat,j7 (List.replicate n .non)=[]:=λn=>by
  unfold j7
  induction n with
  |zero=>rfl
  |succ n ih=>rw[List.replicate_succ,Z2];exact ih
 have oq:∀n:Nat,pr (List.replicate n .non)=List.replicate n .non:=λn=>by unfold pr;rw[List.map_replicate];rfl
 have hnrm:Nrm (.tup [.int 0,.tup (List.replicate kp.toNat .non)]):=⟨.int 0,List.replicate kp.toNat .non,by rw[oq]⟩;obtain⟨a1,a2,a3⟩:=wjh ff ⟨Y9 _,(λi hi=>absurd hi (Nat.not_lt_zero _)),λt ht=>by rw[List.mem_singleton.mp ht];exact hnrm⟩ (K,a7) rfl;have hm:=qjf a1 X3;refine⟨⟨hR,hx,h3,vxs hR hx h3 ff fi (K,a7) rfl,a2,a3⟩,hm,?_,by unfold WK;dsimp only;rw[oq]⟩;unfold ww;dsimp only;rw[oq,rq,qx4 a1 X3];simp
theorem vx1(h:Pf ss rs kps K a7){s:D}(hs:QY kps K s):Ok2 (xW K) (ww K s)/\C.goodD a7 (ww K s)=xK rs s:=by
 rcases hs with rfl|⟨hs,hm⟩
 ·exact⟨.inl rfl,rfl⟩
 ·obtain⟨room,ks,rfl,r0,r1,hl,hk⟩:=id hs;have hm:D.tup [.int room,.tup (pr ks)]∈K:=hm;obtain⟨_,pc⟩:=h.at_ hm;obtain⟨ac,av,gd,e,_,_,_,hg1,lw⟩:=h.is hm;have qo:xK rs (.tup [.int room,.tup ks])=xK rs (.tup [.int room,.tup (pr ks)]):=rfl;refine⟨.inr ⟨_,j7 ks,rfl,by omega,by unfold xW;rw[X4];have:=zz hm;omega,?_⟩,?_⟩
  ·rw[Xs];unfold xW;rw[X2,Xg,X1 (zz hm),List.getElem_idxOf (zz hm)];show _=((j7 (xj (.tup [.int room,.tup (pr ks)]))).length:Int);rw[vX,jqv hk]
  ·rw[qo,lw];show C.goodD a7 (.tup [.int (K.idxOf (.tup [.int room,.tup (pr ks)]):Nat),iT (j7 ks)])=gd;unfold C.goodD;dsimp only;rw[Xs,pc];unfold Qv;rw[hg1]
end
theorem wwz{a:Prop}{G:Int->Prop}(h:(∀lg:Int,0<=lg->lg<=60->G lg)->a)(k:∀lg:Int,0<=lg->lg<=60->G lg):a:=h k
theorem wqe(ns:List Int)(qy:ns.length<=63):Oo m_law [(.no,iL ns)] (λy=>y.2=.bl true) noX:=by
 unfold m_law;simp only[h1,h2,h8,h10,h11,h12,h13,h14,h15,h16];refine kX ?_;simp![];refine(KW ns 0 (by decide) (by decide)).use ?_;intro x0 mx;simp![];refine(KW ns 1 (by decide) (by decide)).use ?_;intro x1 hx1;have q0:=Xq x1 (show(3:Int)≠0 by decide);have q1:=Xk x1 (show(0:Int)<3 by decide);simp![mod_i (a:=x1) (b:=3) (by decide)];refine(qwg x0 (1+x1 % 3) mx.1 (by omega) (by omega)).use ?_;rintro ss ⟨px,ma⟩;simp![];refine(vqw ns 8 ss (by decide) (by decide) (by omega) (by omega) ma).use2 ?_;rintro rs at_ ⟨hR,a0,a1,kps,hx,dl,hSng⟩;have h3:∀k∈kps,k<=3:=λk hk=>(dl k hk).2
 have m6:rs.length=kps.length:=hx.1;have hR1:=hR.1;obtain⟨gd,st0,ez,_⟩:=hx.2 0 (by omega);have dj:=dl (kps.getD 0 0) (by rw[X2,X1 (by omega)];exact Xh _);generalize kps.getD 0 0=kp at ez dj hSng;have fi:Kin kps V4 [.tup [.int 0,.tup (List.replicate kp.toNat .non)]]:=jxk hR hx (by simp[V4]) ez dj.1;have lc:Sok kps (.tup [.int 0,.tup (List.replicate kp.toNat .non)]):=(fi.2 _ X3).ok;simp![];refine(KW ns 2 (by decide) (by decide)).use ?_;intro x2 hx2;simp![];refine(Zz x2 [2,60,55440] (by decide) (by decide)).use ?_;intro ds hd;obtain⟨su,mn,ct,rfl,su0,su1,mn0,mn1,ct0,ct1⟩:=wv0 hd;have m0:=Xq mn (show(5:Int)≠0 by decide);have m1:=Xk mn (show(0:Int)<5 by decide);simp![mod_i (a:=mn) (b:=5) (by decide)];refine(vww KW ns 3 (1+mn % 5) (by decide) (by decide) (by omega) (by omega)).use ?_;rintro ps ⟨cg,hpn⟩;have hpl5:1<=ps.length/\ps.length<=5:=by omega
 have hi0:J0 (.bl false)=some (.int 0):=rfl;have hi1:J0 (.bl true)=some (.int 1):=rfl;have hn0:fNe .non .non=some (.bl false):=rfl;have ng:∀b:Bool,Qk "bool" (.bl b)=some (.bl true):=λb=>rfl
 have tm:∀a b:D,jV (.lst [a,b]) (.int 0)=some a:=λa b=>rfl
 have um:∀a b:D,jV (.lst [a,b]) (.int 1)=some b:=λa b=>rfl
 have hee:∀b:Bool,fEq (.lst [.bl b,.bl b]) (.lst [.bl b,.bl b])=some (.bl true):=λb=>by cases b<;>rfl
 refine' wwz (λkey=>?m) ?k
 case m=>
  obtain⟨lg,hlg,l0,l1⟩:∃lg:Int,wxa (.int 0) (.int (if(ns.length:Int) - at_<60 then(ns.length:Int) - at_ else 60))=some (.int lg)/\0<=lg/\lg<=60:=by
   refine⟨_,wwx,?_,?_⟩<;>split<;>split<;>omega
  simp![www,hlg];refine(KW ns 1 (by decide) (by decide)).use ?_;intro x3 hx3;simp![div_i (a:=x3) (b:=3) (by decide) (by omega),mod_i (a:=x3 / 3) (b:=4) (by decide),xv];cases hb:(x3 / 3 % 4==1)
  ·simp![];exact key lg l0 l1
  ·simp![];refine(KW ns 1 (by decide) (by decide)).use ?_;intro x4 hx4;have l0:=Xq (x4 / 12) (show(61:Int)≠0 by decide);have l1:=Xk (x4 / 12) (show(0:Int)<61 by decide);simp![div_i (a:=x4) (b:=12) (by decide) (by omega),mod_i (a:=x4 / 12) (b:=61) (by decide),xv];exact key _ l0 (by omega)
 case k=>
  intro lg l0 l1;refine(wjj ns at_ lg ss rs ps kps (su==1) (by omega) (by omega) (by omega) (by omega) (by omega) (by omega) (by omega) (by omega) hR hx ez dj.1 dj.2 lc).use2 ?_;rintro ws ⟨dh,way⟩ ⟨lx,hW⟩;have hW:Rw ss rs ps kps (.tup [.int 0,.tup (List.replicate kp.toNat .non)]) ws dh way:=hW;simp![];refine(vzl hR.2.2).use ?_;intro _ _;simp![];refine(kxl (X:=noX) hR hx h3 ez dj.1 dj.2 (λh=>by
   obtain⟨I,hI,hI0⟩:=hSng;obtain⟨q,e,_⟩:=vkn hI h (λk hk=>by rw[List.mem_singleton.mp hk];exact hI0);cases e)).use2 ?_
  intro K a7 ff;obtain⟨mr,mf,pz,hp0⟩:=wwj hR hx h3 ez dj.1 ff;have km:=kx2 (V:=nmV ps) ws hR hx h3 (by simp;omega) X3 (λw hw=>lc9 _ (Xe (hW.mem w hw).2)) (by omega) ez dj.1 dj.2;have iu:=qvi (V:=nmV ps) ws hR hx h3 (by simp;omega) X3 (λw hw=>lc9 _ (Xe (hW.mem w hw).2)) (by omega) ez dj.1 dj.2;generalize (D.tup [.int 0,.tup (List.replicate kp.toNat .non)])=s0 at hW lc mf pz hp0 km iu;have fm:∀w∈ws,w.1∈ss:=λw hw=>(hW.mem w hw).1
  have rj:QY kps K s0:=.inr ⟨lc,by rw[hp0];exact mf⟩;have hwk:=λi=>mr.walk (ws:=ws.take i) rj (λw hw=>fm w (List.mem_of_mem_take hw))
  have ib:=mr.walk (ws:=ws) rj fm;have jt:=mr.run lc (by rw[hp0];exact mf) fm;rw [pz]at ib;have ae:=hW.len;have c0:=Xq ct (show(dh.length:Int)≠0 by omega);have c1:=Xk ct (show(0:Int)<dh.length by omega);have es:=hW.at_ ws.length (X8 _);rw [List.take_length]at es;have ce:jV (.lst dh) (.int (-1))=some (vk rs ws s0):=qzc (by rw[hW.len];exact es);have hcut:jV (.lst dh) (.int (ct % dh.length))=some (vk rs (ws.take (ct % dh.length).toNat) s0):=v9 c0 (hW.at_ _ (by omega));have ic:K4 (rwD ws) none (some (ct % dh.length))=rwD (ws.take (ct % dh.length).toNat):=by rw[vvv c0 (by simp;omega)];exact(List.map_take ..).symm
  have ot:=hwk (ct % dh.length).toNat;rw [pz]at ot;have gz:=vx1 mr ib.1;simp![mod_i (a:=ct) (b:=(dh.length:Int)) (by omega)];refine(kk8 ib.2).via ?_;rintro ⟨o,d⟩ hd;have hd:d=ww K (vk rs ws s0):=hd;subst hd;simp![VW,ce];refine(qqm mr ib.1).use ?_;intro _ _;simp![vkk (o:=.no) (xs:=rwD ws) (lo:=none) (hi:=some (ct % dh.length)) (by decide),ic];refine(kk8 ot.2).via ?_;rintro ⟨o,d⟩ hd;have hd:d=ww K (vk rs (ws.take (ct % dh.length).toNat) s0):=hd;subst hd;simp![hcut];refine(qqm mr ot.1).use ?_;intro _ _;rcases hW.way with fw|⟨hok,L,rf,hL2,hL3⟩
  ·rw[fw,X9 rfl]at jt;rw[fw]at ce gz;rw[jt]at km iu;have hg:C.goodD a7 (ww K .non)=false:=gz.2;simp![VW,ce];refine km.use2 ?_;rintro o d (⟨e,_⟩|⟨e,rfl⟩)
   ·cases e
   ·simp![hi0,tm,hn0];rw[fw]at ib;refine(qxz mr.prs ib.2 gz.1).via ?_;rintro ⟨o,d⟩ hd;have hd:d=.bl (C.goodD a7 (ww K .non)):=hd;rw[hg]at hd;subst hd;simp![];refine iu.use ?_;intro _ _;simp![List.any_nil,hee,ng,tm,um]
    first|done|rfl|trivial
  ·obtain⟨room,ks,st,mw,es',r0,er,ao,cu,fe,hsl2⟩:=V3 hR hx hok;have hnn:vk rs ws s0≠.non:=by rw[es'];intro z;cases z
   rw[Xd hnn]at jt;rw[jt]at km iu;obtain⟨gb,mt⟩:∃gb,xK rs (vk rs ws s0)=gb:=⟨_,rfl⟩;have hgr:jV (.lst rs) (.int room)=some (.tup [.int ks.length,.bl gb,.lst st]):=by
    refine v9 r0 ?_;obtain⟨_,_,e2,_,r1,_⟩:=hok;obtain⟨gd2,b7,eg,_⟩:=hx.2 room.toNat (by rw[es']at e2;injection e2 with e2;injection e2 with e2 _;injection e2 with e2;omega);rw[er]at eg;have eg:=oq9 eg;injection eg with eg;injection eg with _ eg;injection eg with eg _;rw[er,eg];rw[es']at mt;unfold xK at mt;dsimp only at mt;rw[X2,er,eg]at mt;have mt:gd2=gb:=mt;rw[mt]
   have hany:([vk rs ws s0]:List D).any (xK rs)=gb:=by rw[Z5,List.any_nil,mt,Bool.or_false]
   have hg:C.goodD a7 (ww K (vk rs ws s0))=gb:=gz.2.trans mt;rw[hany]at km iu;have lp:=qxz mr.prs ib.2 gz.1;rw[hg]at lp;rw[es']at ce;simp![VW,ce,C.p0,C.p1,hgr,C.t1];refine km.use2 ?_;rintro o d (⟨e,L',s',rfl,hL',hch',_⟩|⟨e,rfl⟩)
   ·subst e;have hLL:=kzg mr lc (by rw[hp0];exact mf) (λx hx=>fm x.1 (by rw[<-rf];exact Xe hx)) (rf.trans hL'.symm) hL3 hch';subst hLL;subst hL2;have c9:fNe (.lst (xV L)) (.lst (xV L))=some (.bl false):=C.ne_self (by
     show D.flats 39 (xV L)=true;exact xZ λk hk=>by obtain⟨i,_,rfl⟩:=List.mem_map.mp hk;rfl)
    simp![hi1,um,c9];refine lp.via ?_;rintro ⟨o,d⟩ hd;have hd:d=.bl true:=hd;subst hd;simp![];refine iu.use ?_;intro _ _;simp![hee,ng,tm,um]
    first|done|rfl|trivial
   ·subst e;simp![hi0,tm,hn0];refine lp.via ?_;rintro ⟨o,d⟩ hd;have hd:d=.bl false:=hd;subst hd;simp![];refine iu.use ?_;intro _ _;simp![hee,ng,tm,um]
    first|done|rfl|trivial
theorem law_true(ns:List Int)(hl:ns.length<=63)(hb:∀i∈ns,Builtin.Int.intBits i<=1048576):∃E o,m_law [(.no,.lst (ns.map D.int))]=some (.ok E (o,.bl true)):=by
 obtain⟨E,⟨o,d⟩,h,hd⟩:=(wqe ns hl).out;have hd:d=.bl true:=hd;subst hd;exact⟨E,o,h⟩
end Nk34
namespace Nk34
open PySem L2 L3 Q
def top(i:Nat):Stmt:=PySem.Challenge.pw_freshrooms_k34_whole_plain_form_alike.main.body.getD i (.Pass ⟨0,0,0,0⟩)
abbrev qwi:Stmt:=top 4
abbrev kkf:Stmt:=top 6
abbrev kvw:Stmt:=top 5
abbrev jqm:Stmt:=top 8
abbrev kj0:Stmt:=top 14
abbrev kkg:Stmt:=top 9
abbrev kvx:Stmt:=top 10
abbrev kkc:Stmt:=top 13
abbrev jwx:Stmt:=top 15
abbrev kvv:Stmt:=top 12
abbrev kke:Stmt:=top 11
abbrev kkd:Stmt:=top 17
abbrev jqx:Stmt:=top 18
abbrev jwu:Stmt:=top 19
abbrev jww:Stmt:=top 25
abbrev jvm:Stmt:=top 26
abbrev jwv:Stmt:=top 23
abbrev jw8:Stmt:=top 24
abbrev jw7:Stmt:=top 22
abbrev kj1:Stmt:=top 21
abbrev jxv:Stmt:=top 28
abbrev jwb:Stmt:=top 29
abbrev jwy:Stmt:=top 30
abbrev jxs:Stmt:=top 31
abbrev jxr:Stmt:=top 32
abbrev jxx:Stmt:=top 33
abbrev jwz:Stmt:=top 34
abbrev jw9:Stmt:=top 35
abbrev jxw:Stmt:=top 36
abbrev jxu:Stmt:=top 37
abbrev jwa:Stmt:=top 38
abbrev jvn:Stmt:=top 39
abbrev jwc:Stmt:=top 40
abbrev kj2:Stmt:=top 41
abbrev jx1:Stmt:=top 42
abbrev jxt:Stmt:=top 43
abbrev jqy:Stmt:=top 44
abbrev jqn:Stmt:=top 45
abbrev jx0:Stmt:=top 46
abbrev vwd:Stmt:=top 47
theorem sc_fits:FnScope ["step","kept","name","asks"] ["step","kept","name"] (kw qwi):=mkS
theorem qqz:FnScope ["fill","kept","name"] ["fill","kept","name"] (kw kkf):=mkS
theorem qwh:FnScope ["step","kept","name"] ["step","kept","name"] (kw kvw):=mkS
theorem jzz:FnScope ["machine"] ["machine"] (kw jqm):=mkS
theorem qj6:FnScope ["machine","standing"] ["machine","standing"] (kw kj0):=mkS
theorem sc_fitting:FnScope ["machine","standing","sign","name","kept","steps"] ["machine","standing","sign","name"] (kw kkg):=mkS
theorem sc_behind:FnScope ["machine","standing","number","name","step"] ["machine","standing","number","name"] (kw kvx):=mkS
theorem sc_ways_on:FnScope ["machine","ways","sign","name","onward","standing","way","number","later"] ["machine","ways","sign","name"] (kw kkc):=mkS
theorem kvu:FnScope ["machine","standing"] ["machine","standing"] (kw jwx):=mkS
theorem sc_way_by:FnScope ["machine","row","ways","sign","name","standing","way"] ["machine","row"] (kw kvv):=mkS
theorem qqy:FnScope ["machine","row"] ["machine","row"] (kw kke):=mkS
theorem sc_read_by:FnScope ["plain","standing","sign","name","names","cases","case","held"] ["plain","standing","sign","name"] (kw kkd):=mkS
theorem sc_stands_behind:FnScope ["plain","row","standing","sign","name"] ["plain","row"] (kw jqx):=mkS
theorem sc_plain_lets:FnScope ["plain","row","standing"] ["plain","row"] (kw jwu):=mkS
theorem sc_names_held:FnScope ["kept","names","name"] ["kept"] (kw jww):=mkS
theorem kkb:FnScope ["names","kept"] ["names","kept"] (kw jvm):=mkS
theorem sc_plain_case:FnScope ["standing","numbers","names","pair"] ["standing","numbers"] (kw jwv):=mkS
theorem sc_only_behind:FnScope ["machine","standing","sign","name","steps"] ["machine","standing","sign","name"] (kw jw8):=mkS
theorem sc_plain_cases:FnScope ["machine","pair","sign","numbers","names"] ["machine","pair","sign","numbers"] (kw jw7):=mkS
theorem sc_plain_of:FnScope ["machine","numbers","rooms","pair","steps"] ["machine"] (kw kj1):=mkS
theorem sc__law_draw:FnScope ["_law_script","_law_k","_law_most","_law_x","_law_found","_law_j"] ["_law_script","_law_k"] (kw jxv):=mkS
theorem sc__law_digits:FnScope ["_law_x","_law_sizes","_law_found","_law_size"] ["_law_x","_law_sizes"] (kw jwb):=mkS
theorem sc__law_signs:FnScope ["_law_x","_law_many","_law_letters","_law_size","_law_at","_law_step","_law_signs_here","_law_k","_law_sign","_law_j","_law_turn"] ["_law_x","_law_many"] (kw jwy):=mkS
theorem kxb:FnScope ["_law_x"] ["_law_x"] (kw jxs):=mkS
theorem kxa:FnScope ["_law_script","_law_start","_law_many"] ["_law_script","_law_start","_law_many"] (kw jxr):=mkS
theorem sc__law_asks:FnScope ["_law_y","_law_here","_law_apart","_law_some"] ["_law_y","_law_here","_law_apart"] (kw jxx):=mkS
theorem sc__law_fills:FnScope ["_law_z","_law_ask","_law_here","_law_there","_law_apart","_law_some","_law_fills_here","_law_d","_law_one"] ["_law_z","_law_ask","_law_here","_law_there","_law_apart"] (kw jwz):=mkS
theorem sc__law_single:FnScope ["_law_script","_law_start","_law_signs_here","_law_head","_law_size","_law_keepers","_law_rooms","_law_r","_law_steps","_law_s","_law_y","_law_k","_law_ask","_law_to","_law_fills_here"] ["_law_script","_law_start","_law_signs_here"] (kw jw9):=mkS
theorem kxd:FnScope ["_law_machine"] ["_law_machine"] (kw jxw):=mkS
theorem kxc:FnScope ["_law_step","_law_kept","_law_name_here"] ["_law_step","_law_kept","_law_name_here"] (kw jxu):=mkS
theorem sc__law_filled:FnScope ["_law_step","_law_kept","_law_name_here","_law_found","_law_fill"] ["_law_step","_law_kept","_law_name_here"] (kw jwa):=mkS
theorem sc__law_fitting:FnScope ["_law_machine","_law_standing","_law_sign","_law_name_here","_law_steps"] ["_law_machine","_law_standing","_law_sign","_law_name_here"] (kw jvn):=mkS
theorem sc__law_behind:FnScope ["_law_machine","_law_standing","_law_k","_law_name_here","_law_step"] ["_law_machine","_law_standing","_law_k","_law_name_here"] (kw jwc):=mkS
theorem sc__law_row:FnScope ["_law_script","_law_start","_law_many","_law_machine","_law_pool_here","_law_sure","_law_row_here","_law_way","_law_standings","_law_k","_law_sign","_law_pick","_law_name_here","_law_some","_law_there"] ["_law_script","_law_start","_law_many","_law_machine","_law_pool_here","_law_sure"] (kw kj2):=mkS
theorem sc__law_alike:FnScope ["_law_found","_law_pairs","_law_due","_law_names","_law_name_here","_law_places"] ["_law_found","_law_pairs","_law_due"] (kw jx1):=mkS
theorem sc__law_free:FnScope ["_law_script","_law_start","_law_machine","_law_signs_here","_law_old","_law_keepers","_law_rooms","_law_r","_law_steps","_law_s","_law_y","_law_some","_law_ways","_law_k","_law_to","_law_fills_here"] ["_law_script","_law_start","_law_machine"] (kw jxt):=mkS
theorem sc__law_names_in:FnScope ["_law_kept","_law_names","_law_name_here"] ["_law_kept"] (kw jqy):=mkS
theorem sc__law_is_single:FnScope ["_law_machine","_law_pairs","_law_at","_law_sign","_law_name_here","_law_some","_law_room","_law_kept","_law_names","_law_there"] ["_law_machine"] (kw jqn):=mkS
theorem sc__law_drawn:FnScope ["_law_script","_law_start","_law_signs_here","_law_machine","_law_end","_law_free_here"] ["_law_script","_law_start","_law_signs_here"] (kw jx0):=mkS
theorem sc_law:FnScope ["_law_script","_law_signs_here","_law_machine","_law_at","_law_sure","_law_many","_law_cut","_law_pool_here","_law_long","_law_row_here","_law_standings","_law_way","_law_plain","_law_pairs","_law_due","_law_told"] ["_law_script"] (kw vwd):=mkS
structure Txt (K:PySem.W.Frag)(mg:Str->Option Value):Prop where
 b_bool:mg "bool"=none
 b_enumerate:mg "enumerate"=none
 b_int:mg "int"=none
 b_isinstance:mg "isinstance"=none
 b_len:mg "len"=none
 b_list:mg "list"=none
 b_max:mg "max"=none
 b_min:mg "min"=none
 b_range:mg "range"=none
 b_sorted:mg "sorted"=none
 b_tuple:mg "tuple"=none
section
variable (P:Program)(w:PySem.World)(K:PySem.W.Frag)(mg:Str->Option Value)(base:Heap)
abbrev vw2:=kK P w K mg base 1 "fits" ["step","kept","name"] (spF K mg 3 m_fits)
abbrev kzy:=kK P w K mg base 1 "held_by" ["fill","kept","name"] (spF K mg 3 m_held_by)
abbrev qqq:=kK P w K mg base 2 "filled" ["step","kept","name"] (spF K mg 3 m_filled)
abbrev jqr:=kK P w K mg base 1 "first_standing" ["machine"] (spF K mg 1 m_first_standing)
abbrev kj8:=kK P w K mg base 1 "steps_at" ["machine","standing"] (spF K mg 2 m_steps_at)
abbrev kqd:=kK P w K mg base 2 "fitting" ["machine","standing","sign","name"] (spF K mg 4 m_fitting)
abbrev kx0:=kK P w K mg base 3 "behind" ["machine","standing","number","name"] (spF K mg 4 m_behind)
abbrev kzv:=kK P w K mg base 4 "ways_on" ["machine","ways","sign","name"] (spF K mg 4 m_ways_on)
abbrev kjf:=kK P w K mg base 1 "is_good_at" ["machine","standing"] (spF K mg 2 m_is_good_at)
abbrev kwz:=kK P w K mg base 5 "way_by" ["machine","row"] (spF K mg 2 m_way_by)
abbrev kzx:=kK P w K mg base 6 "lets_by" ["machine","row"] (spF K mg 2 m_lets_by)
abbrev kzw:=kK P w K mg base 1 "read_by" ["plain","standing","sign","name"] (spF K mg 4 m_read_by)
abbrev jv6:=kK P w K mg base 2 "stands_behind" ["plain","row"] (spF K mg 2 ZY)
abbrev kjd:=kK P w K mg base 3 "plain_lets" ["plain","row"] (spF K mg 2 jve)
abbrev jvh:=kK P w K mg base 1 "names_held" ["kept"] (spF K mg 1 m_names_held)
abbrev jxq:=kK P w K mg base 1 "places_among" ["names","kept"] (spF K mg 2 m_places_among)
abbrev kje:=kK P w K mg base 2 "plain_case" ["standing","numbers"] (spM K mg 1 m_plain_case)
abbrev jzs:=kK P w K mg base 4 "only_behind" ["machine","standing","sign","name"] (spF K mg 4 m_only_behind)
abbrev jzr:=kK P w K mg base 5 "plain_cases" ["machine","pair","sign","numbers"] (spM K mg 3 m_plain_cases)
abbrev kvm:=kK P w K mg base 6 "plain_of" ["machine"] (spF K mg 1 m_plain_of)
abbrev YK:=kK P w K mg base 1 "_law_draw" ["_law_script","_law_k"] (spF K mg 2 J6)
abbrev Zk:=kK P w K mg base 1 "_law_digits" ["_law_x","_law_sizes"] (spF K mg 2 m__law_digits)
abbrev kjg:=kK P w K mg base 2 "_law_signs" ["_law_x","_law_many"] (spF K mg 2 m__law_signs)
abbrev kqf:=kK P w K mg base 1 "_law_name" ["_law_x"] (spF K mg 1 m__law_name)
abbrev kqe:=kK P w K mg base 2 "_law_pool" ["_law_script","_law_start","_law_many"] (spF K mg 3 m__law_pool)
abbrev kqj:=kK P w K mg base 1 "_law_asks" ["_law_y","_law_here","_law_apart"] (spF K mg 3 m__law_asks)
abbrev kjh:=kK P w K mg base 1 "_law_fills" ["_law_z","_law_ask","_law_here","_law_there","_law_apart"] (spF K mg 5 m__law_fills)
abbrev jzt:=kK P w K mg base 2 "_law_single" ["_law_script","_law_start","_law_signs_here"] (spF K mg 3 m__law_single)
abbrev kqi:=kK P w K mg base 1 "_law_copy" ["_law_machine"] (spF K mg 1 m__law_copy)
abbrev kqh:=kK P w K mg base 1 "_law_fits" ["_law_step","_law_kept","_law_name_here"] (spF K mg 3 m__law_fits)
abbrev jzu:=kK P w K mg base 1 "_law_filled" ["_law_step","_law_kept","_law_name_here"] (spF K mg 3 m__law_filled)
abbrev jvu:=kK P w K mg base 2 "_law_fitting" ["_law_machine","_law_standing","_law_sign","_law_name_here"] (spF K mg 4 m__law_fitting)
abbrev jwl:=kK P w K mg base 2 "_law_behind" ["_law_machine","_law_standing","_law_k","_law_name_here"] (spF K mg 4 m__law_behind)
abbrev kvn:=kK P w K mg base 3 "_law_row" ["_law_script","_law_start","_law_many","_law_machine","_law_pool_here","_law_sure"] (spF K mg 6 XV)
abbrev kjj:=kK P w K mg base 1 "_law_alike" ["_law_found","_law_pairs","_law_due"] (spF K mg 3 VZ)
abbrev kqg:=kK P w K mg base 2 "_law_free" ["_law_script","_law_start","_law_machine"] (spF K mg 3 jv2)
abbrev jxc:=kK P w K mg base 1 "_law_names_in" ["_law_kept"] (spF K mg 1 jkq)
abbrev jwn:=kK P w K mg base 3 "_law_is_single" ["_law_machine"] (spF K mg 1 jkl)
abbrev kji:=kK P w K mg base 4 "_law_drawn" ["_law_script","_law_start","_law_signs_here"] (spF K mg 3 jqj)
end
section
variable {P:Program}{w:PySem.World}{K:PySem.W.Frag}{mg:Str->Option Value}{base:Heap}{f:Addr}{fd:FuncData}
theorem vxh(T:Txt K mg)  (F:Fun K "fits" "fits" qwi f fd):FnOk P w K mg base (CXE P w) 1 f fd ["step","kept","name"] (spF K mg 3 m_fits):=
 qv F sc_fits (qx rfl) λaq A outer s H vs Q E hr h=>have nd:=sc_fits.nd;qz rfl
  (j9 (qA nd (jW (kx (vv 0) ki))) (j9 (qV (k5 (v7 hr.units) vj (vv 3) ks (jZ _) xw) (jv (k3 (q_C WX (λ_=>Vw)))) qW) (j9 (qV (k5 (v7 hr.units) vj (vv 3) ks (jZ _) xw) (jv (k3 (x8 (W8 hr.units) VJ (vv 2) (vv 1) (by rfl)))) qW) (jv (k3 (x8 (v7 hr.units) vj (kx (vv 1) (vv 3)) (vv 2) (jZ _))))))) h
theorem qve(T:Txt K mg)  (F:Fun K "held_by" "held_by" kkf f fd):FnOk P w K mg base (CXE P w) 1 f fd ["fill","kept","name"] (spF K mg 3 m_held_by):=
 qv F qqz (qx rfl) λaq A outer s H vs Q E hr h=>qz rfl
  (j9 (qV (k5 Jz JX (vv 0) kn (jZ _) QK) (jv (k3 kN)) qW) (jv (k3 (Zw (k5 (v7 hr.units) vj (vv 0) ks (jZ _) xw) (cv 2) (jW (kx (vv 1) (vv 0))))))) h
theorem qxh(T:Txt K mg)(du:kzy P w K mg base)(F:Fun K "filled" "filled" kvw f fd):FnOk P w K mg base (CXE P w) 2 f fd ["step","kept","name"] (spF K mg 3 m_filled):=
 qv F qwh (qx rfl) λaq A outer s H vs Q E hr h=>qz rfl
  (jv (k3 (qT (j4 (qM .rt 1 [1,2] 3 ["fill","kept","name"] (x6 (jW (kx (vv 0) ki))) (λ_ _ _ _ _=>(qC du hr (j3 (cv 0) (j3 (cv 1) (j3 (cv 2) j8))))))) T.b_tuple))) h
theorem kj3(T:Txt K mg)  (F:Fun K "first_standing" "first_standing" jqm f fd):FnOk P w K mg base (CXE P w) 1 f fd ["machine"] (spF K mg 1 m_first_standing):=
 qv F jzz (qx rfl) λaq A outer s H vs Q E hr h=>qz rfl
  (jv (k3 (v3 (o:=.no) (j3 kI (j3 (oX (j4 (v3 (o:=.no) (j3 kN j8))) (kx (kx (kx (vv 0) ki) ki) ki)) j8))))) h
theorem qjo(T:Txt K mg)  (F:Fun K "steps_at" "steps_at" kj0 f fd):FnOk P w K mg base (CXE P w) 1 f fd ["machine","standing"] (spF K mg 2 m_steps_at):=
 qv F qj6 (qx rfl) λaq A outer s H vs Q E hr h=>qz rfl
  (jv (k3 (jW (kx (kx (kx (vv 0) ki) (kx (vv 1) ki)) ki)))) h
theorem qvf(T:Txt K mg)(b6:kj8 P w K mg base)(ig:vw2 P w K mg base)(F:Fun K "fitting" "fitting" kkg f fd):FnOk P w K mg base (CXE P w) 2 f fd ["machine","standing","sign","name"] (spF K mg 4 m_fitting):=
 qv F sc_fitting (qx rfl) λaq A outer s H vs Q E hr h=>have nd:=sc_fitting.nd;qz rfl
  (j9 (qA nd (jW (kx (vv 1) ki))) (j9 (qA nd (qC b6 hr (j3 (cv 0) (j3 (cv 1) j8)))) (jv (k3 (qm .rt 2 [2,4,3] 6 ["number","step","sign","kept","name"] (vvc (cv 5) rfl T.b_enumerate) (λhN _ _ _ _ _=>(z8 (is:=[0,1]) (z6 K (t:=gNs [0,1]) (n:=2) (qZ (KY (i:=0) hN rfl (by first|exact Or.inl rfl|exact Or.inr rfl)) (qZ (KY (i:=1) hN rfl (by first|exact Or.inl rfl|exact Or.inr rfl)) z5))))) (λ_ _ _ _ _=>(vwk (QW.pt (Jq (k5 (v7 hr.units) vj (kx (vv 1) ki) (vv 2) (jZ _) xw) (J9 (J8 (j4 (qC ig hr (j3 (cv 1) (j3 (cv 3) (j3 (cv 4) j8))))))))))) (λ_ _ _ _ _=>(cv 0))))))) h
theorem qxi(T:Txt K mg)(b6:kj8 P w K mg base)(fh:qqq P w K mg base)(F:Fun K "behind" "behind" kvx f fd):FnOk P w K mg base (CXE P w) 3 f fd ["machine","standing","number","name"] (spF K mg 4 m_behind):=
 qv F sc_behind (qx rfl) λaq A outer s H vs Q E hr h=>have nd:=sc_behind.nd;qz rfl
  (j9 (qA nd (jW (kx (j4 (qC b6 hr (j3 (cv 0) (j3 (cv 1) j8)))) (vv 2)))) (jv (k3 (v3 (o:=.no) (j3 (jW (kx (vv 4) ki)) (j3 (qC fh hr (j3 (cv 4) (j3 (jW (kx (vv 1) ki)) (j3 (cv 3) j8)))) j8)))))) h
theorem qvb(T:Txt K mg)(bb:kqd P w K mg base)(bp:kx0 P w K mg base)(F:Fun K "ways_on" "ways_on" kkc f fd):FnOk P w K mg base (CXE P w) 4 f fd ["machine","ways","sign","name"] (spF K mg 4 m_ways_on):=
 qv F sc_ways_on (qx rfl) λaq A outer s H vs Q E hr h=>have nd:=sc_ways_on.nd;qz rfl
  (j9 (qA nd wk3) (j9 (qwv (qxc ⟨_,_,rfl,rfl⟩) rfl (kxj (cv 1)) (z8 (is:=[5,6]) (z6 K (t:=gNs [5,6]) (n:=2) (qZ (gn nd) (qZ (gn nd) z5)))) (jv (qF (x6 (qC bb hr (j3 (cv 0) (j3 (cv 5) (j3 (cv 2) (j3 (cv 3) j8)))))) (gN nd) (j9 (qA nd (qC bp hr (j3 (cv 0) (j3 (cv 5) (j3 (cv 7) (j3 (cv 3) j8)))))) (jv (qV (k5 (vq3 hr.units) vjx (vv 8) (vv 4) (by rfl) vju) (jv (wk2 (i:=4) hr.units rfl (pv 4) (vv 8) (oA (vv 6) (j4 (kQ (o:=.rt) (j3 (cv 7) j8)))))) qW)))))) (jv (k3 (XY (pv 4)))))) h
theorem kw6(T:Txt K mg)  (F:Fun K "is_good_at" "is_good_at" jwx f fd):FnOk P w K mg base (CXE P w) 1 f fd ["machine","standing"] (spF K mg 2 m_is_good_at):=
 qv F kvu (qx rfl) λaq A outer s H vs Q E hr h=>qz rfl
  (jv (k3 (jW (kx (kx (kx (vv 0) ki) (kx (vv 1) ki)) ki)))) h
theorem qxg(T:Txt K mg)(ah:jqr P w K mg base)(ei:kzv P w K mg base)(bq:kjf P w K mg base)(F:Fun K "way_by" "way_by" kvv f fd):FnOk P w K mg base (CXE P w) 5 f fd ["machine","row"] (spF K mg 2 m_way_by):=
 qv F sc_way_by (qx rfl) λaq A outer s H vs Q E hr h=>have nd:=sc_way_by.nd;qz rfl
  (j9 (qA nd (vvd hr.units (qC ah hr (j3 (cv 0) j8)) (kQ (o:=.rt) j8))) (j9 (qF (x6 (cv 1)) (z8 (is:=[3,4]) (z6 K (t:=gNs [3,4]) (n:=2) (qZ (gn nd) (qZ (gn nd) z5)))) (jv (qA nd (qC ei hr (j3 (cv 0) (j3 (cv 2) (j3 (cv 3) (j3 (cv 4) j8)))))))) (j9 (qwv (qxc ⟨_,_,rfl,rfl⟩) rfl (kxj (cv 2)) (z8 (is:=[5,6]) (z6 K (t:=gNs [5,6]) (n:=2) (qZ (gn nd) (qZ (gn nd) z5)))) (jv (qV (J8 (j4 (qC bq hr (j3 (cv 0) (j3 (cv 5) j8))))) (jv (k3 (XY (pv 6)))) qW))) (jv (k3 kN))))) h
theorem qvd(T:Txt K mg)(bo:kwz P w K mg base)(F:Fun K "lets_by" "lets_by" kke f fd):FnOk P w K mg base (CXE P w) 6 f fd ["machine","row"] (spF K mg 2 m_lets_by):=
 qv F qqy (qx rfl) λaq A outer s H vs Q E hr h=>qz rfl
  (jv (k3 (x8 V9 Vq (j4 (qC bo hr (j3 (cv 0) (j3 (cv 1) j8)))) kn (jZ _)))) h
theorem qvc(T:Txt K mg)  (F:Fun K "read_by" "read_by" kkd f fd):FnOk P w K mg base (CXE P w) 1 f fd ["plain","standing","sign","name"] (spF K mg 4 m_read_by):=
 qv F sc_read_by (qx rfl) λaq A outer s H vs Q E hr h=>have nd:=sc_read_by.nd;qz rfl
  (j9 (qV (QW.pt (Q7 (k5 Jz JX (vv 1) kn (jZ _) QK) (YV (k5 (W8 hr.units) VJ (vv 2) (kx (vv 0) ki) (by rfl) jxl)))) (jv (k3 kN)) qW) (j9 (qA nd (jW (kx (vv 1) ki))) (j9 (qA nd (jW (kx (kx (kx (kx (vv 0) ki) (kx (vv 1) ki)) ki) (j4 (kkk hr.units (kx (vv 0) ki) (vv 2)))))) (j9 (qA nd (jW (kx (vv 5) (j4 (Zw (k5 (vq4 hr.units) vv5 (vv 3) (vv 4) (by rfl) vv2) (kkk hr.units (vv 4) (vv 3)) (qL (vv 4) T.b_len)))))) (j9 (qV (k5 Jz JX (vv 6) kn (jZ _) QK) (jv (k3 kN)) qW) (j9 (qA nd (oA (vv 4) (j4 (v3 (o:=.no) (j3 (cv 3) j8))))) (jv (k3 (v3 (o:=.no) (j3 (jW (kx (vv 6) ki)) (j3 (qT (j4 (qM .rt 1 [7] 8 ["fill","held"] (x6 (jW (kx (vv 6) ki))) (λ_ _ _ _ _=>(jW (kx (vv 1) (vv 0)))))) T.b_tuple) j8))))))))))) h
theorem kjo(T:Txt K mg)(dm:kzw P w K mg base)(F:Fun K "stands_behind" "stands_behind" jqx f fd):FnOk P w K mg base (CXE P w) 2 f fd ["plain","row"] (spF K mg 2 ZY):=
 qv F sc_stands_behind (qx rfl) λaq A outer s H vs Q E hr h=>have nd:=sc_stands_behind.nd;qz rfl
  (j9 (qA nd (v3 (o:=.no) (j3 kI (j3 (v3 (o:=.no) j8) j8)))) (j9 (qF (x6 (cv 1)) (z8 (is:=[3,4]) (z6 K (t:=gNs [3,4]) (n:=2) (qZ (gn nd) (qZ (gn nd) z5)))) (jv (qA nd (qC dm hr (j3 (cv 0) (j3 (cv 2) (j3 (cv 3) (j3 (cv 4) j8)))))))) (jv (k3 (XY (pv 2)))))) h
theorem kw3(T:Txt K mg)(af:jv6 P w K mg base)(F:Fun K "plain_lets" "plain_lets" jwu f fd):FnOk P w K mg base (CXE P w) 3 f fd ["plain","row"] (spF K mg 2 jve):=
 qv F sc_plain_lets (qx rfl) λaq A outer s H vs Q E hr h=>have nd:=sc_plain_lets.nd;qz rfl
  (j9 (qA nd (qC af hr (j3 (cv 0) (j3 (cv 1) j8)))) (jv (k3 (qwx (j4 (x8 V9 Vq (vv 2) kn (jZ _))) (kxi (jW (kx (kx (kx (vv 0) ki) (kx (vv 2) ki)) ki))))))) h
theorem kw5(T:Txt K mg)  (F:Fun K "names_held" "names_held" jww f fd):FnOk P w K mg base (CXE P w) 1 f fd ["kept"] (spF K mg 1 m_names_held):=
 qv F sc_names_held (qx rfl) λaq A outer s H vs Q E hr h=>have nd:=sc_names_held.nd;qz rfl
  (j9 (qA nd (kQ (o:=.rt) j8)) (j9 (qF (x6 (cv 0)) (gN nd) (jv (qV (QW.pt (Jq (k5 V9 Vq (vv 2) kn (jZ _) kq9) (J9 (k5 (W8 hr.units) VJ (vv 2) (vv 1) (by rfl) jxl)))) (jv (qP (cv 2))) qW))) (jv (k3 (XY (pv 1)))))) h
theorem kkm(T:Txt K mg)  (F:Fun K "places_among" "places_among" jvm f fd):FnOk P w K mg base (CXE P w) 1 f fd ["names","kept"] (spF K mg 2 m_places_among):=
 qv F kkb (qx rfl) λaq A outer s H vs Q E hr h=>qz rfl
  (jv (k3 (qT (j4 (qM .rt 1 [0] 2 ["name","names"] (x6 (cv 1)) (λ_ _ _ _ _=>(Zw (k5 Jz JX (vv 0) kn (jZ _) QK) kN (kkk hr.units (vv 1) (vv 0)))))) T.b_tuple))) h
theorem kw4(T:Txt K mg)(ag:jvh P w K mg base)(bc:jxq P w K mg base)(F:Fun K "plain_case" "plain_case" jwv f fd):FnOk P w K mg base (CXE P w) 2 f fd ["standing","numbers"] (spM K mg 1 m_plain_case):=
 qv F sc_plain_case (qwe rfl) λaq A outer s H vs Q E hr h=>have nd:=sc_plain_case.nd;qzx rfl
  (j9 (qV (k5 Jz JX (vv 0) kn (jZ _) QK) (jv (k3 kN)) qW) (j9 (qA nd (qC ag hr (j3 (jW (kx (vv 0) ki)) j8))) (j9 (qA nd (v3 (o:=.no) (j3 (jW (kx (vv 0) ki)) (j3 (qC bc hr (j3 (cv 2) (j3 (jW (kx (vv 0) ki)) j8))) j8)))) (jv (k3 (v3 (o:=.no) (j3 (wjy (i:=1) hr.units (pv 1) (vv 3) (j4 (wvl (kzk K) vjy (vv 1) T.b_len vjs))) (j3 (QE.weak (qT (vv 2) T.b_tuple)) wwe)))))))) h
theorem kqo(T:Txt K mg)(bb:kqd P w K mg base)(bp:kx0 P w K mg base)(F:Fun K "only_behind" "only_behind" jw8 f fd):FnOk P w K mg base (CXE P w) 4 f fd ["machine","standing","sign","name"] (spF K mg 4 m_only_behind):=
 qv F sc_only_behind (qx rfl) λaq A outer s H vs Q E hr h=>have nd:=sc_only_behind.nd;qz rfl
  (j9 (qA nd (qC bb hr (j3 (cv 0) (j3 (cv 1) (j3 (cv 2) (j3 (cv 3) j8)))))) (j9 (qV (k5 qv8 (Qz (g:=λa b=>decide (b<a))) (j4 (qL (vv 4) T.b_len)) ki (jZ _) QJ) (jv wk0) qW) (jv (k3 (Zw (J8 (vv 4)) (qC bp hr (j3 (cv 0) (j3 (cv 1) (j3 (jW (kx (vv 4) ki)) (j3 (cv 3) j8))))) kN))))) h
theorem kqn(T:Txt K mg)(bu:kje P w K mg base)(bi:jzs P w K mg base)(ag:jvh P w K mg base)(F:Fun K "plain_cases" "plain_cases" jw7 f fd):FnOk P w K mg base (CXE P w) 5 f fd ["machine","pair","sign","numbers"] (spM K mg 3 m_plain_cases):=
 qv F sc_plain_cases (qwe rfl) λaq A outer s H vs Q E hr h=>have nd:=sc_plain_cases.nd;qzx rfl
  (j9 (qA nd (vkq (j4 (oA (j4 (qL (j4 (qC ag hr (j3 (jW (kx (vv 1) ki)) j8))) T.b_len)) ki)) T.b_range T.b_list)) (jv (k3 (qM .rt 1 [0,1,2,3] 5 ["name","machine","pair","sign","numbers"] (x6 (QE.weak (cv 4))) (λ_ _ _ _ _=>(qww (i:=4) bu (hr.mono (by decide)) W1 (wvk (qC bi hr (j3 (cv 1) (j3 (cv 2) (j3 (cv 3) (j3 (cv 0) j8))))) (wz3 (i:=4) (pv 4))))))))) h
theorem qjp(T:Txt K mg)(ah:jqr P w K mg base)(bj:jzr P w K mg base)(ag:jvh P w K mg base)(F:Fun K "plain_of" "plain_of" kj1 f fd):FnOk P w K mg base (CXE P w) 6 f fd ["machine"] (spF K mg 1 m_plain_of):=
 qv F sc_plain_of (qx rfl) λaq A outer s H vs Q E hr h=>have nd:=sc_plain_of.nd;qz rfl
  (j9 (qA nd (vvd hr.units (qC ah hr (j3 (cv 0) j8)) kI)) (j9 (qA nd (kQ (o:=.rt) j8)) (j9 (qwu (qxc ⟨_,_,rfl,rfl⟩) (k5 vxc (Qz (g:=λa b=>decide (a<b))) (j4 (qL (vv 2) T.b_len)) (j4 (wvl (kzk K) vjy (vv 1) T.b_len vjs)) (jZ _) QJ) (j9 (qA nd (jW (kx (j4 (Jk (kvk rfl) qqo (vv 1) T.b_list W4)) (j4 (qL (vv 2) T.b_len))))) (j9 (qjb (i:=4) (o:=.rt) (k:=1) (R:=[0,3,1]) ["sign","machine","pair","numbers"] nd rfl (by first|exact Or.inl rfl|exact Or.inr rfl) (x6 (QE.weak (jW (kx (vv 0) ki)))) (λ_ _ _ _ _=>(YJ (KY (i:=0) (show(["sign","machine","pair","numbers"]:List Str).Nodup by decide +kernel) rfl (by first|exact Or.inl rfl|exact Or.inr rfl)))) (λ_ _ _ _ _=>vkp) (λ_ _ _ _ _=>(qww (i:=3) bj (hr.mono (by decide)) W1 (wvk (cv 1) (wvk (cv 2) (wvk (cv 0) (wz3 (i:=3) (pv 3))))))) W1 ⟨_,_,rfl,rfl⟩ (by decide) (show ∀j∈([0,3,1]:List Nat) ,j<5 by decide)) (jv (qP (v3 (o:=.no) (j3 (qL (j4 (qC ag hr (j3 (jW (kx (vv 3) ki)) j8))) T.b_len) (j3 (jW (kx (kx (kx (vv 0) ki) (kx (vv 3) ki)) ki)) (j3 (cv 4) j8))))))))) (jv (k3 (v3 (o:=.no) (j3 (v3 (o:=.no) (j3 (Jk (jzo K) kqb (kx (vv 0) ki) T.b_list W4) (j3 (cv 2) j8))) (j3 (Jk (kvk rfl) qqo (vv 1) T.b_list W4) j8)))))))) h
theorem kxv(T:Txt K mg)  (F:Fun K "_law_draw" "_law_draw" jxv f fd):FnOk P w K mg base (CXE P w) 1 f fd ["_law_script","_law_k"] (spF K mg 2 J6):=
 qv F sc__law_draw (qx rfl) λaq A outer s H vs Q E hr h=>have nd:=sc__law_draw.nd;qz rfl
  (j9 (qA nd (oX ki (j4 (xk kxo kzu ki ki)))) (j9 (qV (k5 vxc (Qz (g:=λa b=>decide (a<b))) (vv 1) (j4 (qL (vv 0) T.b_len)) (jZ _) QJ) (jv (k3 (oM (j4 (oX (j4 (oM (kx (vv 0) (vv 1)) (vv 2))) (j4 (xk kxo kzu ki ki)))) (vv 2)))) qW) (j9 (qA nd (oA (j4 (oA (j4 (oX (vv 1) (vv 1))) (j4 (oX ki (vv 1))))) ki)) (j9 (qV (k5 (ZQ hr.units) qvw (vv 0) (j4 (kQ (o:=.rt) j8)) (jZ _) ZJ) (jv (qA nd (oA (vv 3) (j4 (oX (j4 (oM (kx (vv 0) (j4 (oM (vv 1) (j4 (qL (vv 0) T.b_len))))) ki)) (j4 (oA (j4 (oX ki (vv 1))) ki))))))) qW) (j9 (qA nd kI) (j9 (qF (zV ki rfl T.b_range) (gN nd) (j9 (qA nd (oM (j4 (oA (j4 (oA (j4 (oA (j4 (oX (vv 3) (vv 3))) (j4 (oX ki (vv 3))))) (j4 (oX ki (vv 5))))) (vv 1))) ki)) (jv (qA nd (oA (j4 (oX (vv 4) ki)) (j4 (oM (j4 (oX (vv 3) ki)) ki))))))) (jv (k3 (oM (vv 4) (vv 2)))))))))) h
theorem kqr(T:Txt K mg)  (F:Fun K "_law_digits" "_law_digits" jwb f fd):FnOk P w K mg base (CXE P w) 1 f fd ["_law_x","_law_sizes"] (spF K mg 2 m__law_digits):=
 qv F sc__law_digits (qx rfl) λaq A outer s H vs Q E hr h=>have nd:=sc__law_digits.nd;qz rfl
  (j9 (qA nd (kQ (o:=.rt) j8)) (j9 (qF (x6 (cv 1)) (gN nd) (j9 (qP (oM (vv 0) (vv 3))) (jv (qA nd (xk WW YW (vv 0) (vv 3)))))) (jv (k3 (XY (pv 2)))))) h
theorem kw7(T:Txt K mg)(a9:Zk P w K mg base)(F:Fun K "_law_signs" "_law_signs" jwy f fd):FnOk P w K mg base (CXE P w) 2 f fd ["_law_x","_law_many"] (spF K mg 2 m__law_signs):=
 qv F sc__law_signs (qx rfl) λaq A outer s H vs Q E hr h=>have nd:=sc__law_signs.nd;qz rfl
  (j9 (qA nd kS) (j9 (Q8 (qC a9 hr (j3 (cv 0) (j3 (kQ (o:=.rt) (j3 kI (j3 kI (j3 kI j8)))) j8))) (z8 (is:=[3,4,5]) (z6 K (t:=gNs [3,4,5]) (n:=3) (qZ (gn nd) (qZ (gn nd) (qZ (gn nd) z5)))))) (j9 (qA nd (oM (vv 4) (j4 (oA (vv 3) ki)))) (j9 (qA nd (kQ (o:=.rt) j8)) (j9 (qF (zV (vv 1) rfl T.b_range) (gN nd) (j9 (qA nd kS) (j9 (qF (zV (j4 (oA (vv 3) ki)) rfl T.b_range) (gN nd) (j9 (qA nd (oA (j4 (xk WW YW (vv 0) (j4 (oA ki (j4 (oX (j4 (oX ki (vv 9))) (vv 9))))))) (j4 (oX (j4 (oX (vv 7) (j4 (oA (vv 5) ki)))) (j4 (Jk jzn qqp (j4 (x8 (v7 hr.units) vj (vv 9) (vv 4) (jZ _))) T.b_int qqi)))))) (jv (qA nd (oA (vv 8) (kx (vv 2) (j4 (oM (vv 10) ki)))))))) (jv (qP (cv 8)))))) (jv (k3 (wvl (qk2 rfl) vjw (vv 6) T.b_sorted vjr)))))))) h
theorem kxs(T:Txt K mg)  (F:Fun K "_law_name" "_law_name" jxs f fd):FnOk P w K mg base (CXE P w) 1 f fd ["_law_x"] (spF K mg 1 m__law_name):=
 qv F kxb (qx rfl) λaq A outer s H vs Q E hr h=>qz rfl
  (j9 (qV (k5 (v7 hr.units) vj (j4 (oM (vv 0) ki)) ki (jZ _) xw) (jv (k3 (xk qkt qqn (j4 (oM (j4 (xk WW YW (vv 0) ki)) ki)) ki))) qW) (jv (k3 (oA (j4 (xk qkt qqn (j4 (oM (j4 (xk WW YW (vv 0) ki)) (j4 (xk qkt qqn (j4 (oX ki (j4 (xk kxo kzu ki ki)))) ki)))) (j4 (xk kxo kzu ki ki)))) ki)))) h
theorem kxr(T:Txt K mg)(ck:kqf P w K mg base)(a8:YK P w K mg base)(F:Fun K "_law_pool" "_law_pool" jxr f fd):FnOk P w K mg base (CXE P w) 2 f fd ["_law_script","_law_start","_law_many"] (spF K mg 3 m__law_pool):=
 qv F kxa (qx rfl) λaq A outer s H vs Q E hr h=>qz rfl
  (jv (k3 (qM .rt 1 [0,1] 3 ["_law_k","_law_script","_law_start"] (zV (vv 2) rfl T.b_range) (λ_ _ _ _ _=>(qC ck hr (j3 (qC a8 hr (j3 (cv 1) (j3 (oA (vv 2) (vv 0)) j8))) j8)))))) h
theorem kxx(T:Txt K mg)  (F:Fun K "_law_asks" "_law_asks" jxx f fd):FnOk P w K mg base (CXE P w) 1 f fd ["_law_y","_law_here","_law_apart"] (spF K mg 3 m__law_asks):=
 qv F sc__law_asks (qx rfl) λaq A outer s H vs Q E hr h=>have nd:=sc__law_asks.nd;qz rfl
  (j9 (qV (k5 (v7 hr.units) vj (kx (vv 0) ki) ki (jZ _) xw) (jv (k3 (kQ (o:=.rt) (j3 kS j8)))) qW) (j9 (qA nd (kQ (o:=.rt) j8)) (j9 (qV (QW.pt (Q7 (k5 qv8 (Qz (g:=λa b=>decide (b<a))) (kx (vv 0) ki) ki (jZ _) QJ) (YV (QW.pt (Jq (k5 (v7 hr.units) vj (vv 1) ki (jZ _) xw) (J9 (k5 qv8 (Qz (g:=λa b=>decide (b<a))) (kx (vv 0) ki) ki (jZ _) QJ))))))) (jv (qP kS)) qW) (j9 (qV (QW.pt (Jq (k5 qv8 (Qz (g:=λa b=>decide (b<a))) (vv 1) ki (jZ _) QJ) (J9 (k5 qv8 (Qz (g:=λa b=>decide (b<a))) (kx (vv 0) ki) ki (jZ _) QJ)))) (j9 (qP (oM (kx (vv 0) ki) (vv 1))) (jv (qV (J8 (vv 2)) (jv (qA nd (oA (vv 3) (j4 (qm .rt 1 [3,0] 4 ["_law_k","_law_some","_law_y"] (zV (vv 1) rfl T.b_range) (λhN _ _ _ _ _=>(YJ (KY (i:=0) hN rfl (by first|exact Or.inl rfl|exact Or.inr rfl)))) (λ_ _ _ _ _=>(vwk (QW.pt (Jq (k5 (W8 hr.units) VJ (vv 0) (vv 1) (by rfl) jxl) (J9 (k5 (v7 hr.units) vj (kx (vv 2) (j4 (oA ki (vv 0)))) ki (jZ _) xw)))))) (λ_ _ _ _ _=>(cv 0))))))) qW))) qW) (j9 (qV (k5 (v7 hr.units) vj (kx (vv 0) ki) ki (jZ _) xw) (jv (wwa (i:=3) (pv 3) rfl qvg)) qW) (jv (k3 (XY (pv 3))))))))) h
theorem kw8(T:Txt K mg)  (F:Fun K "_law_fills" "_law_fills" jwz f fd):FnOk P w K mg base (CXE P w) 1 f fd ["_law_z","_law_ask","_law_here","_law_there","_law_apart"] (spF K mg 5 m__law_fills):=
 qv F sc__law_fills (qx rfl) λaq A outer s H vs Q E hr h=>have nd:=sc__law_fills.nd;qz rfl
  (j9 (qA nd (oA (j4 (kQ (o:=.rt) (j3 kS (j3 kN j8)))) (j4 (vkq (vv 2) T.b_range T.b_list)))) (j9 (qA nd (kQ (o:=.rt) j8)) (j9 (qF (x6 (wvj (vv 0) wjz (ZK (vv 3)))) (gN nd) (j9 (qA nd (jW (kx (vv 5) (j4 (oM (vv 7) (j4 (qL (vv 5) T.b_len))))))) (j9 (qV (QW.pt (Jq (J8 (vv 4)) (J9 (k5 V9 Vq (vv 8) kn (jZ _) kq9)))) (jv (qV (QW.pt (Q7 (k5 (vq4 hr.units) vv5 (vv 8) (vv 6) (by rfl) vv2) (Q7 (QW.pt (Jq (k5 (v7 hr.units) vj (vv 8) ks (jZ _) xw) (J9 (QW.pt (Q7 (k5 (v7 hr.units) vj (vv 1) ks (jZ _) xw) (YV (k5 (vq4 hr.units) vv5 (vv 1) (vv 6) (by rfl) vv2))))))) (YV (QW.pt (Jq (k5 (v7 hr.units) vj (vv 8) (vv 1) (jZ _) xw) (J9 (k5 (vq4 hr.units) vv5 ks (vv 6) (by rfl) vv2)))))))) (jv (qA nd kN)) qW)) qW) (jv (qP (cv 8)))))) (jv (k3 (qT (vv 6) T.b_tuple)))))) h
theorem kqp(T:Txt K mg)(a9:Zk P w K mg base)(a8:YK P w K mg base)(cj:kqj P w K mg base)(bv:kjh P w K mg base)(F:Fun K "_law_single" "_law_single" jw9 f fd):FnOk P w K mg base (CXE P w) 2 f fd ["_law_script","_law_start","_law_signs_here"] (spF K mg 3 m__law_single):=
 qv F sc__law_single (qx rfl) λaq A outer s H vs Q E hr h=>have nd:=sc__law_single.nd;qz rfl
  (j9 (qA nd (qC a9 hr (j3 (qC a8 hr (j3 (cv 0) (j3 (cv 1) j8))) (j3 (oA (j4 (oA (j4 (kQ (o:=.rt) (j3 kI (j3 kI (j3 kI j8))))) (j4 (oX (j4 (kQ (o:=.rt) (j3 kI j8))) ki)))) (j4 (oX (j4 (kQ (o:=.rt) (j3 kI j8))) ki))) j8)))) (j9 (qA nd (oA ki (kx (vv 3) ki))) (j9 (qjb (i:=5) (o:=.rt) (k:=1) (R:=[3]) ["_law_r","_law_head"] nd rfl (by first|exact Or.inl rfl|exact Or.inr rfl) (zV (vv 4) rfl T.b_range) (λ_ _ _ _ _=>(YJ (KY (i:=0) (show(["_law_r","_law_head"]:List Str).Nodup by decide +kernel) rfl (by first|exact Or.inl rfl|exact Or.inr rfl)))) (λ_ _ _ _ _=>vkp) (λ_ _ _ _ _=>(oM (kx (vv 1) (j4 (oA ki (vv 0)))) (j4 (oA ki (j4 (Jk jzn qqp (j4 (x8 (v7 hr.units) vj (kx (vv 1) ki) ki (jZ _))) T.b_int qqi)))))) W1 ⟨_,_,rfl,rfl⟩ (by decide) (show ∀j∈([3]:List Nat) ,j<15 by decide)) (j9 (qA nd (kQ (o:=.rt) j8)) (j9 (qF (zV (vv 4) rfl T.b_range) (gN nd) (j9 (qA nd (kQ (o:=.rt) j8)) (j9 (qF (zV (j4 (qL (vv 2) T.b_len)) rfl T.b_range) (gN nd) (j9 (qA nd (qC a8 hr (j3 (cv 0) (j3 (oA (j4 (oA (j4 (oA (vv 1) ki)) (j4 (oX (vv 7) (j4 (qL (vv 2) T.b_len)))))) (vv 9)) j8)))) (j9 (qA nd (qC a9 hr (j3 (cv 10) (j3 (oA (j4 (kQ (o:=.rt) (j3 kI (j3 kI (j3 kI (j3 kI (j3 kI (j3 kI j8)))))))) (j4 (oX (j4 (kQ (o:=.rt) (j3 kI (j3 kI (j3 kI (j3 kI j8)))))) ki))) j8)))) (jv (qF (vvc (qC cj hr (j3 (cv 10) (j3 (jW (kx (vv 5) (vv 7))) (j3 (x8 (v7 hr.units) vj (kx (vv 3) ki) ki (jZ _)) j8)))) rfl T.b_enumerate) (z8 (is:=[11,12]) (z6 K (t:=gNs [11,12]) (n:=2) (qZ (gn nd) (qZ (gn nd) z5)))) (j9 (qA nd (oM (kx (vv 10) (j4 (oA ki (j4 (oX ki (vv 11)))))) (vv 4))) (j9 (qA nd (qC bv hr (j3 (wvj (vv 10) (ZK (j4 (oA ki (j4 (oX ki (vv 11)))))) (ZK (j4 (oA ki (j4 (oX ki (vv 11))))))) (j3 (cv 12) (j3 (jW (kx (vv 5) (vv 7))) (j3 (jW (kx (vv 5) (vv 13))) (j3 (x8 (v7 hr.units) vj (kx (vv 3) ki) ki (jZ _)) j8))))))) (jv (qP (v3 (o:=.no) (j3 (jW (kx (vv 2) (vv 9))) (j3 (cv 12) (j3 (cv 13) (j3 (cv 14) j8)))))))))))))) (jv (qP (v3 (o:=.no) (j3 (jW (kx (vv 5) (vv 7))) (j3 (x8 (v7 hr.units) vj (kx (vv 3) (j4 (oA ki (vv 7)))) ki (jZ _)) (j3 (cv 8) j8))))))))) (jv (k3 (v3 (o:=.no) (j3 (v3 (o:=.no) (j3 (Jk (jzo K) kqb (vv 2) T.b_list W4) (j3 (cv 6) j8))) (j3 (oA (j4 (oA (vv 1) ki)) (j4 (oX (vv 4) (j4 (qL (vv 2) T.b_len))))) j8)))))))))) h
theorem kxw(T:Txt K mg)  (F:Fun K "_law_copy" "_law_copy" jxw f fd):FnOk P w K mg base (CXE P w) 1 f fd ["_law_machine"] (spF K mg 1 m__law_copy):=
 qv F kxd (qx rfl) λaq A outer s H vs Q E hr h=>qz rfl
  (jv (k3 (v3 (o:=.no) (j3 (Jk (jzo K) kqb (kx (vv 0) ki) T.b_list W4) (j3 (qM .rt 1 [] 1 ["_law_room"] (x6 (jW (kx (vv 0) ki))) (λ_ _ _ _ _=>(v3 (o:=.no) (j3 (jW (kx (vv 0) ki)) (j3 (jW (kx (vv 0) ki)) (j3 (Jk (jzo K) kqb (kx (vv 0) ki) T.b_list W4) j8)))))) j8))))) h
theorem kxu(T:Txt K mg)  (F:Fun K "_law_fits" "_law_fits" jxu f fd):FnOk P w K mg base (CXE P w) 1 f fd ["_law_step","_law_kept","_law_name_here"] (spF K mg 3 m__law_fits):=
 qv F kxc (qx rfl) λaq A outer s H vs Q E hr h=>qz rfl
  (j9 (qV (k5 (v7 hr.units) vj (kx (vv 0) ki) ks (jZ _) xw) (jv (k3 (x8 (W8 hr.units) VJ (vv 2) (vv 1) (by rfl)))) qW) (jv (k3 (q_or (j4 (x8 (v7 hr.units) vj (kx (vv 0) ki) ks (jZ _))) (kxi (x8 (v7 hr.units) vj (kx (vv 1) (kx (vv 0) ki)) (vv 2) (jZ _))))))) h
theorem kqq(T:Txt K mg)  (F:Fun K "_law_filled" "_law_filled" jwa f fd):FnOk P w K mg base (CXE P w) 1 f fd ["_law_step","_law_kept","_law_name_here"] (spF K mg 3 m__law_filled):=
 qv F sc__law_filled (qx rfl) λaq A outer s H vs Q E hr h=>have nd:=sc__law_filled.nd;qz rfl
  (j9 (qA nd (kQ (o:=.rt) j8)) (j9 (qF (x6 (jW (kx (vv 0) ki))) (gN nd) (jv (qV (QW.pt (Q7 (k5 Jz JX (vv 4) kn (jZ _) QK) (YV (k5 (v7 hr.units) vj (vv 4) ks (jZ _) xw)))) (jv (qP (jW (kx (j4 (kQ (o:=.rt) (j3 (cv 2) (j3 kN j8)))) (j4 (Jk jzn qqp (j4 (x8 Jz JX (vv 4) kn (jZ _))) T.b_int qqi)))))) (jv (qP (jW (kx (vv 1) (vv 4)))))))) (jv (k3 (qT (vv 3) T.b_tuple))))) h
theorem kkn(T:Txt K mg)(cm:kqh P w K mg base)(F:Fun K "_law_fitting" "_law_fitting" jvn f fd):FnOk P w K mg base (CXE P w) 2 f fd ["_law_machine","_law_standing","_law_sign","_law_name_here"] (spF K mg 4 m__law_fitting):=
 qv F sc__law_fitting (qx rfl) λaq A outer s H vs Q E hr h=>have nd:=sc__law_fitting.nd;qz rfl
  (j9 (qA nd (jW (kx (kx (kx (vv 0) ki) (kx (vv 1) ki)) ki))) (jv (k3 (qm .rt 1 [4,2,1,3] 5 ["_law_k","_law_steps","_law_sign","_law_standing","_law_name_here"] (zV (j4 (qL (vv 4) T.b_len)) rfl T.b_range) (λhN _ _ _ _ _=>(YJ (KY (i:=0) hN rfl (by first|exact Or.inl rfl|exact Or.inr rfl)))) (λ_ _ _ _ _=>(vwk (QW.pt (Jq (k5 (v7 hr.units) vj (kx (kx (vv 1) (vv 0)) ki) (vv 2) (jZ _) xw) (J9 (J8 (j4 (qC cm hr (j3 (jW (kx (vv 1) (vv 0))) (j3 (jW (kx (vv 3) ki)) (j3 (cv 4) j8))))))))))) (λ_ _ _ _ _=>(cv 0)))))) h
theorem kqs(T:Txt K mg)(bm:jzu P w K mg base)(F:Fun K "_law_behind" "_law_behind" jwc f fd):FnOk P w K mg base (CXE P w) 2 f fd ["_law_machine","_law_standing","_law_k","_law_name_here"] (spF K mg 4 m__law_behind):=
 qv F sc__law_behind (qx rfl) λaq A outer s H vs Q E hr h=>have nd:=sc__law_behind.nd;qz rfl
  (j9 (qA nd (jW (kx (kx (kx (kx (vv 0) ki) (kx (vv 1) ki)) ki) (vv 2)))) (jv (k3 (v3 (o:=.no) (j3 (jW (kx (vv 4) ki)) (j3 (qC bm hr (j3 (cv 4) (j3 (jW (kx (vv 1) ki)) (j3 (cv 3) j8)))) j8)))))) h
theorem qjq(T:Txt K mg)(a9:Zk P w K mg base)(a8:YK P w K mg base)(aj:jvu P w K mg base)(ak:jwl P w K mg base)(F:Fun K "_law_row" "_law_row" kj2 f fd):FnOk P w K mg base (CXE P w) 3 f fd ["_law_script","_law_start","_law_many","_law_machine","_law_pool_here","_law_sure"] (spF K mg 6 XV):=
 qv F sc__law_row (qx rfl) λaq A outer s H vs Q E hr h=>have nd:=sc__law_row.nd;qz rfl
  (j9 (qA nd (kQ (o:=.rt) j8)) (j9 (qA nd (kQ (o:=.rt) j8)) (j9 (qA nd (kQ (o:=.rt) (j3 (v3 (o:=.no) (j3 kI (j3 (oX (j4 (v3 (o:=.no) (j3 kN j8))) (kx (kx (kx (vv 3) ki) ki) ki)) j8))) j8))) (j9 (qF (wk1 (vv 1) (j4 (oA (vv 1) (vv 2))) rfl T.b_range) (gN nd) (j9 (Q8 (qC a9 hr (j3 (qC a8 hr (j3 (cv 0) (j3 (cv 9) j8))) (j3 (kQ (o:=.rt) (j3 kI (j3 kI j8))) j8))) (z8 (is:=[10,11]) (z6 K (t:=gNs [10,11]) (n:=2) (qZ (gn nd) (qZ (gn nd) z5))))) (j9 (qA nd (jW (kx (kx (vv 3) ki) (j4 (oM (vv 10) (j4 (qL (kx (vv 3) ki) T.b_len))))))) (j9 (qA nd (jW (kx (vv 4) (j4 (oM (vv 11) (j4 (qL (vv 4) T.b_len))))))) (j9 (qA nd (kQ (o:=.rt) j8)) (j9 (qV (k5 V9 Vq (kx (vv 8) (j4 (vzz ZZ ZW ki))) kn (jZ _) kq9) (jv (qA nd (qC aj hr (j3 (cv 3) (j3 (jW (kx (vv 8) (j4 (vzz ZZ ZW ki)))) (j3 (cv 10) (j3 (cv 12) j8))))))) qW) (jv (qV (QW.pt (Q7 (k5 (ZQ hr.units) qvw (vv 13) (j4 (kQ (o:=.rt) j8)) (jZ _) ZJ) (YV (kxh (J8 (vv 5)))))) (j9 (qP (v3 (o:=.no) (j3 (cv 10) (j3 (cv 12) j8)))) (j9 (qA nd kN) (j9 (qV (k5 (ZQ hr.units) qvw (vv 13) (j4 (kQ (o:=.rt) j8)) (jZ _) ZJ) (j9 (qP (jW (kx (vv 13) ki))) (jv (qA nd (qC ak hr (j3 (cv 3) (j3 (jW (kx (vv 8) (j4 (vzz ZZ ZW ki)))) (j3 (jW (kx (vv 13) ki)) (j3 (cv 12) j8)))))))) qW) (jv (qP (cv 14)))))) qW)))))))) (jv (k3 (v3 (o:=.no) (j3 (cv 6) (j3 (cv 8) (j3 (cv 7) j8)))))))))) h
theorem kwa(T:Txt K mg)  (F:Fun K "_law_alike" "_law_alike" jx1 f fd):FnOk P w K mg base (CXE P w) 1 f fd ["_law_found","_law_pairs","_law_due"] (spF K mg 3 VZ):=
 qv F sc__law_alike (qx rfl) λaq A outer s H vs Q E hr h=>have nd:=sc__law_alike.nd;qz rfl
  (j9 (qV (k5 Jz JX (vv 2) kn (jZ _) QK) (jv (k3 (x8 Jz JX (vv 0) kn (jZ _)))) qW) (j9 (qV (QW.pt (Q7 (kxh (J8 (j4 (vkr (vv 0) T.b_isinstance T.b_tuple kwt rfl)))) (Q7 (k5 (ZQ hr.units) qvw (j4 (qL (vv 0) T.b_len)) ki (jZ _) ZJ) (YV (kxh (J8 (j4 (vkr (kx (vv 0) ki) T.b_isinstance T.b_tuple kwt rfl)))))))) (jv (k3 (q_C WX (λ_=>Vw)))) qW) (j9 (qA nd (kQ (o:=.rt) j8)) (j9 (qF (x6 (jW (kx (vv 2) ki))) (gN nd) (jv (qV (QW.pt (Jq (k5 V9 Vq (vv 4) kn (jZ _) kq9) (J9 (k5 (W8 hr.units) VJ (vv 4) (vv 3) (by rfl) jxl)))) (jv (qP (cv 4))) qW))) (j9 (qA nd (qT (j4 (qM .rt 1 [3] 6 ["_law_name_here","_law_names"] (x6 (jW (kx (vv 2) ki))) (λ_ _ _ _ _=>(Zw (k5 Jz JX (vv 0) kn (jZ _) QK) kN (kkk hr.units (vv 1) (vv 0)))))) T.b_tuple)) (jv (k3 (qwx (j4 (x8 (v7 hr.units) vj (kx (vv 1) (kx (vv 0) ki)) (j4 (v3 (o:=.no) (j3 (jW (kx (vv 2) ki)) (j3 (cv 5) j8)))) (jZ _))) (kxi (x8 (v7 hr.units) vj (kx (vv 0) ki) (j4 (qT (vv 3) T.b_tuple)) (jZ _))))))))))) h
theorem kxt(T:Txt K mg)(a9:Zk P w K mg base)(a8:YK P w K mg base)(F:Fun K "_law_free" "_law_free" jxt f fd):FnOk P w K mg base (CXE P w) 2 f fd ["_law_script","_law_start","_law_machine"] (spF K mg 3 jv2):=
 qv F sc__law_free (qx rfl) λaq A outer s H vs Q E hr h=>have nd:=sc__law_free.nd;qz rfl
  (j9 (Q8 (cv 2) (z8 (is:=[3,4]) (z6 K (t:=gNs [3,4]) (n:=2) (qZ (gn nd) (qZ (gn nd) z5))))) (j9 (qjb (i:=5) (o:=.rt) (k:=1) (R:=[]) ["_law_room"] nd rfl (by first|exact Or.inl rfl|exact Or.inr rfl) (x6 (cv 4)) (λ_ _ _ _ _=>(YJ (KY (i:=0) (show(["_law_room"]:List Str).Nodup by decide +kernel) rfl (by first|exact Or.inl rfl|exact Or.inr rfl)))) (λ_ _ _ _ _=>vkp) (λ_ _ _ _ _=>(jW (kx (vv 0) ki))) W1 ⟨_,_,rfl,rfl⟩ (by decide) (show ∀j∈([]:List Nat) ,j<16 by decide)) (j9 (qA nd (kQ (o:=.rt) j8)) (j9 (qF (zV (j4 (qL (vv 4) T.b_len)) rfl T.b_range) (gN nd) (j9 (qA nd (kQ (o:=.rt) j8)) (j9 (qF (zV (j4 (qL (vv 3) T.b_len)) rfl T.b_range) (gN nd) (j9 (qA nd (qC a9 hr (j3 (qC a8 hr (j3 (cv 0) (j3 (oA (j4 (oA (j4 (oA (vv 1) ki)) (j4 (oX (vv 7) (j4 (qL (vv 3) T.b_len)))))) (vv 9)) j8))) (j3 (oA (j4 (kQ (o:=.rt) (j3 kI j8))) (j4 (oX (j4 (kQ (o:=.rt) (j3 kI j8))) ki))) j8)))) (j9 (qA nd (oA (j4 (vkq (kx (vv 5) (vv 7)) T.b_range T.b_list)) (j4 (kQ (o:=.rt) (j3 kS (j3 kS j8)))))) (j9 (qA nd (oA (j4 (vkq (kx (vv 5) (vv 7)) T.b_range T.b_list)) (j4 (kQ (o:=.rt) (j3 kS (j3 kN j8)))))) (jv (qF (zV (kx (j4 (kQ (o:=.rt) (j3 kI (j3 kI (j3 kI (j3 kI j8)))))) (kx (vv 10) ki)) rfl T.b_range) (gN nd) (j9 (qA nd (oM (kx (vv 10) (j4 (oA ki (j4 (oX ki (vv 13)))))) (j4 (qL (vv 4) T.b_len)))) (j9 (qA nd (qT (j4 (qM .rt 1 [12] 16 ["_law_digit","_law_ways"] (x6 (wvj (vv 10) (ZK (j4 (oA ki (j4 (oX ki (vv 13)))))) (ZK (j4 (oA (j4 (oA ki (j4 (oX ki (vv 13))))) (kx (vv 5) (vv 14))))))) (λ_ _ _ _ _=>(jW (kx (vv 1) (j4 (oM (vv 0) (j4 (qL (vv 1) T.b_len))))))))) T.b_tuple)) (jv (qP (v3 (o:=.no) (j3 (jW (kx (vv 3) (vv 9))) (j3 (jW (kx (vv 11) (j4 (oM (kx (vv 10) (j4 (oA ki (j4 (oX ki (vv 13)))))) (j4 (qL (vv 11) T.b_len)))))) (j3 (cv 14) (j3 (cv 15) j8))))))))))))))) (jv (qP (v3 (o:=.no) (j3 (jW (kx (vv 5) (vv 7))) (j3 (jW (kx (kx (vv 4) (vv 7)) ki)) (j3 (cv 8) j8))))))))) (jv (k3 (v3 (o:=.no) (j3 (Jk (jzo K) kqb (vv 3) T.b_list W4) (j3 (cv 6) j8))))))))) h
theorem kjp(T:Txt K mg)  (F:Fun K "_law_names_in" "_law_names_in" jqy f fd):FnOk P w K mg base (CXE P w) 1 f fd ["_law_kept"] (spF K mg 1 jkq):=
 qv F sc__law_names_in (qx rfl) λaq A outer s H vs Q E hr h=>have nd:=sc__law_names_in.nd;qz rfl
  (j9 (qA nd (kQ (o:=.rt) j8)) (j9 (qF (x6 (cv 0)) (gN nd) (jv (qV (QW.pt (Jq (k5 V9 Vq (vv 2) kn (jZ _) kq9) (J9 (k5 (W8 hr.units) VJ (vv 2) (vv 1) (by rfl) jxl)))) (jv (qP (cv 2))) qW))) (jv (k3 (XY (pv 1)))))) h
theorem kj4(T:Txt K mg)(aj:jvu P w K mg base)(ak:jwl P w K mg base)(au:jxc P w K mg base)(F:Fun K "_law_is_single" "_law_is_single" jqn f fd):FnOk P w K mg base (CXE P w) 3 f fd ["_law_machine"] (spF K mg 1 jkl):=
 qv F sc__law_is_single (qx rfl) λaq A outer s H vs Q E hr h=>have nd:=sc__law_is_single.nd;qz rfl
  (j9 (qA nd (kQ (o:=.rt) (j3 (v3 (o:=.no) (j3 kI (j3 (oX (j4 (v3 (o:=.no) (j3 kN j8))) (kx (kx (kx (vv 0) ki) ki) ki)) j8))) j8))) (j9 (qA nd kI) (j9 (qwu (qxc ⟨_,_,rfl,rfl⟩) (k5 vxc (Qz (g:=λa b=>decide (a<b))) (vv 2) (j4 (qL (vv 1) T.b_len)) (jZ _) QJ) (j9 (qF (x6 (jW (kx (vv 0) ki))) (gN nd) (jv (qF (zV (j4 (oA (j4 (qL (j4 (qC au hr (j3 (jW (kx (kx (vv 1) (vv 2)) ki)) j8))) T.b_len)) ki)) rfl T.b_range) (gN nd) (j9 (qA nd (qC aj hr (j3 (cv 0) (j3 (jW (kx (vv 1) (vv 2))) (j3 (cv 3) (j3 (cv 4) j8)))))) (j9 (qV (k5 qv8 (Qz (g:=λa b=>decide (b<a))) (j4 (qL (vv 5) T.b_len)) ki (jZ _) QJ) (jv (k3 (q_C WX (λ_=>Vw)))) qW) (jv (qV (k5 (ZQ hr.units) qvw (vv 5) (j4 (kQ (o:=.rt) j8)) (jZ _) ZJ) (j9 (Q8 (qC ak hr (j3 (cv 0) (j3 (jW (kx (vv 1) (vv 2))) (j3 (jW (kx (vv 5) ki)) (j3 (cv 4) j8))))) (z8 (is:=[6,7]) (z6 K (t:=gNs [6,7]) (n:=2) (qZ (gn nd) (qZ (gn nd) z5))))) (j9 (qA nd (qC au hr (j3 (cv 7) j8))) (j9 (qA nd (v3 (o:=.no) (j3 (cv 6) (j3 (qT (j4 (qM .rt 1 [8] 10 ["_law_one","_law_names"] (x6 (cv 7)) (λ_ _ _ _ _=>(Zw (k5 Jz JX (vv 0) kn (jZ _) QK) kN (kkk hr.units (vv 1) (vv 0)))))) T.b_tuple) j8)))) (jv (qV (k5 (W8 hr.units) VJ (vv 9) (vv 1) (by rfl) jxl) (jv (qP (cv 9))) qW))))) qW))))))) (jv (qA nd (oA (vv 2) ki))))) (jv (k3 (q_C WX (λ_=>Vw))))))) h
theorem kw9(T:Txt K mg)(bf:jzt P w K mg base)(cp:kqg P w K mg base)(b5:jwn P w K mg base)(a8:YK P w K mg base)(F:Fun K "_law_drawn" "_law_drawn" jx0 f fd):FnOk P w K mg base (CXE P w) 4 f fd ["_law_script","_law_start","_law_signs_here"] (spF K mg 3 jqj):=
 qv F sc__law_drawn (qx rfl) λaq A outer s H vs Q E hr h=>have nd:=sc__law_drawn.nd;qz rfl
  (j9 (Q8 (qC bf hr (j3 (cv 0) (j3 (cv 1) (j3 (cv 2) j8)))) (z8 (is:=[3,4]) (z6 K (t:=gNs [3,4]) (n:=2) (qZ (gn nd) (qZ (gn nd) z5))))) (j9 (qA nd (qC cp hr (j3 (cv 0) (j3 (cv 1) (j3 (cv 3) j8))))) (j9 (qV (QW.pt (Jq (k5 (v7 hr.units) vj (j4 (oM (j4 (xk WW YW (j4 (qC a8 hr (j3 (cv 0) (j3 (cv 1) j8)))) (j4 (xk kxo kzu ki ki)))) ki)) ki (jZ _) xw) (J9 (J8 (j4 (qC b5 hr (j3 (cv 5) j8))))))) (jv (k3 (v3 (o:=.no) (j3 (cv 5) (j3 (cv 4) j8))))) qW) (jv (k3 (v3 (o:=.no) (j3 (cv 3) (j3 (cv 4) j8)))))))) h
theorem wq0(T:Txt K mg)(bt:kjg P w K mg base)(bz:kji P w K mg base)(a9:Zk P w K mg base)(cq:kqe P w K mg base)(d9:kvn P w K mg base)(de:kvm P w K mg base)(a8:YK P w K mg base)(cn:kqi P w K mg base)(ba:kjj P w K mg base)(bo:kwz P w K mg base)(br:kjd P w K mg base)(dv:kzx P w K mg base)(af:jv6 P w K mg base)(F:Fun K "law" "law" vwd f fd):FnOk P w K mg base (CXE P w) 7 f fd ["_law_script"] (spF K mg 1 m_law):=
 qv F sc_law (qx rfl) λaq A outer s H vs Q E hr h=>have nd:=sc_law.nd;qz rfl
  (j9 (qA nd (qC bt hr (j3 (qC a8 hr (j3 (cv 0) (j3 kI j8))) (j3 (oA ki (j4 (oM (j4 (qC a8 hr (j3 (cv 0) (j3 kI j8)))) ki))) j8)))) (j9 (Q8 (qC bz hr (j3 (cv 0) (j3 kI (j3 (cv 1) j8)))) (z8 (is:=[2,3]) (z6 K (t:=gNs [2,3]) (n:=2) (qZ (gn nd) (qZ (gn nd) z5))))) (j9 (Q8 (qC a9 hr (j3 (qC a8 hr (j3 (cv 0) (j3 kI j8))) (j3 (kQ (o:=.rt) (j3 kI (j3 kI (j3 kI j8)))) j8))) (z8 (is:=[4,5,6]) (z6 K (t:=gNs [4,5,6]) (n:=3) (qZ (gn nd) (qZ (gn nd) (qZ (gn nd) z5)))))) (j9 (qA nd (qC cq hr (j3 (cv 0) (j3 kI (j3 (oA ki (j4 (oM (vv 5) ki))) j8))))) (j9 (qA nd (wz5 (vjj rfl) (wvb λ_ _=>rfl) ki (j4 (wz5 (vji rfl) (wvb λ_ _=>rfl) ki (j4 (xk qkt qqn (j4 (qL (vv 0) T.b_len)) (vv 3))) T.b_min wv4)) T.b_max wv5)) (j9 (qV (k5 (v7 hr.units) vj (j4 (oM (j4 (xk WW YW (j4 (qC a8 hr (j3 (cv 0) (j3 kI j8)))) ki)) ki)) ki (jZ _) xw) (jv (qA nd (oM (j4 (xk WW YW (j4 (qC a8 hr (j3 (cv 0) (j3 kI j8)))) ki)) ki))) qW) (j9 (Q8 (qC d9 hr (j3 (cv 0) (j3 (cv 3) (j3 (cv 8) (j3 (cv 2) (j3 (cv 7) (j3 (x8 (v7 hr.units) vj (vv 4) ki (jZ _)) j8))))))) (z8 (is:=[9,10,11]) (z6 K (t:=gNs [9,10,11]) (n:=3) (qZ (gn nd) (qZ (gn nd) (qZ (gn nd) z5)))))) (j9 (Q8 (qC de hr (j3 (qC cn hr (j3 (cv 2) j8)) j8)) (z8 (is:=[12,13]) (z6 K (t:=gNs [12,13]) (n:=2) (qZ (gn nd) (qZ (gn nd) z5))))) (j9 (qA nd (oM (vv 6) (j4 (qL (vv 10) T.b_len)))) (j9 (qV (kxh (J8 (j4 (qC ba hr (j3 (qC af hr (j3 (cv 12) (j3 (cv 9) j8))) (j3 (cv 13) (j3 (jW (kx (vv 10) (j4 (vzz ZZ ZW ki)))) j8))))))) (jv (k3 (q_C WX (λ_=>Vw)))) qW) (j9 (qV (kxh (J8 (j4 (qC ba hr (j3 (qC af hr (j3 (cv 12) (j3 (wvj (vv 9) wjz (ZK (vv 6))) j8))) (j3 (cv 13) (j3 (jW (kx (vv 10) (vv 6))) j8))))))) (jv (k3 (q_C WX (λ_=>Vw)))) qW) (j9 (qA nd (qwx (j4 (x8 V9 Vq (kx (vv 10) (j4 (vzz ZZ ZW ki))) kn (jZ _))) (kxi (jW (kx (kx (kx (vv 2) ki) (kx (kx (vv 10) (j4 (vzz ZZ ZW ki))) ki)) ki))))) (j9 (qV (k5 (ZQ hr.units) qvw (j4 (qC bo hr (j3 (cv 2) (j3 (cv 9) j8)))) (kx (j4 (kQ (o:=.rt) (j3 kN (j3 (cv 11) j8)))) (j4 (Jk jzn qqp (vv 14) T.b_int qqi))) (jZ _) ZJ) (jv (k3 (q_C WX (λ_=>Vw)))) qW) (j9 (qA nd (kQ (o:=.rt) (j3 (qC br hr (j3 (cv 12) (j3 (cv 9) j8))) (j3 (qC dv hr (j3 (cv 2) (j3 (cv 9) j8))) j8)))) (jv (k3 (qwx (j4 (x8 (v7 hr.units) vj (vv 15) (j4 (kQ (o:=.rt) (j3 (cv 14) (j3 (cv 14) j8)))) (jZ _))) (qwx (j4 (vkr (kx (vv 15) ki) T.b_isinstance T.b_bool vjt rfl)) (kxi (vkr (kx (vv 15) ki) T.b_isinstance T.b_bool vjt rfl)))))))))))))))))))) h
end
theorem all_mk{l:PySem.W.OpenLaw}{w:PySem.World}{K:PySem.W.Frag}{h:Heap}{mg:Str->Option Value}{fa:Addr}(X:K.In h)(G:h.Ns mainGlobals mg)(jg:mg "law"=some (.ref fa))
  (g0:Gf K "fits" qwi)
  (g1:Gf K "held_by" kkf)
  (g2:Gf K "filled" kvw)
  (g3:Gf K "first_standing" jqm)
  (g4:Gf K "steps_at" kj0)
  (g5:Gf K "fitting" kkg)
  (g6:Gf K "behind" kvx)
  (g7:Gf K "ways_on" kkc)
  (g8:Gf K "is_good_at" jwx)
  (g9:Gf K "way_by" kvv)
  (g10:Gf K "lets_by" kke)
  (g11:Gf K "read_by" kkd)
  (g12:Gf K "stands_behind" jqx)
  (g13:Gf K "plain_lets" jwu)
  (g14:Gf K "names_held" jww)
  (g15:Gf K "places_among" jvm)
  (g16:Gf K "plain_case" jwv)
  (g17:Gf K "only_behind" jw8)
  (g18:Gf K "plain_cases" jw7)
  (g19:Gf K "plain_of" kj1)
  (g20:Gf K "_law_draw" jxv)
  (g21:Gf K "_law_digits" jwb)
  (g22:Gf K "_law_signs" jwy)
  (g23:Gf K "_law_name" jxs)
  (g24:Gf K "_law_pool" jxr)
  (g25:Gf K "_law_asks" jxx)
  (g26:Gf K "_law_fills" jwz)
  (g27:Gf K "_law_single" jw9)
  (g28:Gf K "_law_copy" jxw)
  (g29:Gf K "_law_fits" jxu)
  (g30:Gf K "_law_filled" jwa)
  (g31:Gf K "_law_fitting" jvn)
  (g32:Gf K "_law_behind" jwc)
  (g33:Gf K "_law_row" kj2)
  (g34:Gf K "_law_alike" jx1)
  (g35:Gf K "_law_free" jxt)
  (g36:Gf K "_law_names_in" jqy)
  (g37:Gf K "_law_is_single" jqn)
  (g38:Gf K "_law_drawn" jx0)
  (g39:Gf K "law" vwd)
  (z_bool:PySem.W.nsIn K mainGlobals "bool"=some none)
  (z_enumerate:PySem.W.nsIn K mainGlobals "enumerate"=some none)
  (z_int:PySem.W.nsIn K mainGlobals "int"=some none)
  (z_isinstance:PySem.W.nsIn K mainGlobals "isinstance"=some none)
  (z_len:PySem.W.nsIn K mainGlobals "len"=some none)
  (z_list:PySem.W.nsIn K mainGlobals "list"=some none)
  (z_max:PySem.W.nsIn K mainGlobals "max"=some none)
  (z_min:PySem.W.nsIn K mainGlobals "min"=some none)
  (z_range:PySem.W.nsIn K mainGlobals "range"=some none)
  (z_sorted:PySem.W.nsIn K mainGlobals "sorted"=some none)
  (z_tuple:PySem.W.nsIn K mainGlobals "tuple"=some none)
  : ∃fd:FuncData,(∀(s:Shared) (v:Value),BindsTo s fd ⟨[v],[]⟩ [("_law_script",v)])/\∀base:Heap,K.In base->base.Ns mainGlobals mg->FnOk l.prog w K mg base (CXE l.prog w) 7 fa fd ["_law_script"] (spF K mg 1 m_law):=by
 have T:Txt K mg:=⟨Y4 X G z_bool,Y4 X G z_enumerate,Y4 X G z_int,Y4 X G z_isinstance,Y4 X G z_len,Y4 X G z_list,Y4 X G z_max,Y4 X G z_min,Y4 X G z_range,Y4 X G z_sorted,Y4 X G z_tuple⟩;refine g39.law X G jg fun {base _ _} F=>?_
 have ig:vw2 l.prog w K mg base:=g0.d X G (vxh T );have du:kzy l.prog w K mg base:=g1.d X G (qve T );have fh:qqq l.prog w K mg base:=g2.d X G (qxh T du);have ah:jqr l.prog w K mg base:=g3.d X G (kj3 T );have b6:kj8 l.prog w K mg base:=g4.d X G (qjo T );have bb:kqd l.prog w K mg base:=g5.d X G (qvf T b6 ig);have bp:kx0 l.prog w K mg base:=g6.d X G (qxi T b6 fh);have ei:kzv l.prog w K mg base:=g7.d X G (qvb T bb bp);have bq:kjf l.prog w K mg base:=g8.d X G (kw6 T );have bo:kwz l.prog w K mg base:=g9.d X G (qxg T ah ei bq);have dv:kzx l.prog w K mg base:=g10.d X G (qvd T bo);have dm:kzw l.prog w K mg base:=g11.d X G (qvc T );have af:jv6 l.prog w K mg base:=g12.d X G (kjo T dm);have br:kjd l.prog w K mg base:=g13.d X G (kw3 T af);have ag:jvh l.prog w K mg base:=g14.d X G (kw5 T );have bc:jxq l.prog w K mg base:=g15.d X G (kkm T );have bu:kje l.prog w K mg base:=g16.d X G (kw4 T ag bc);have bi:jzs l.prog w K mg base:=g17.d X G (kqo T bb bp);have bj:jzr l.prog w K mg base:=g18.d X G (kqn T bu bi ag);have de:kvm l.prog w K mg base:=g19.d X G (qjp T ah bj ag);have a8:YK l.prog w K mg base:=g20.d X G (kxv T );have a9:Zk l.prog w K mg base:=g21.d X G (kqr T );have bt:kjg l.prog w K mg base:=g22.d X G (kw7 T a9);have ck:kqf l.prog w K mg base:=g23.d X G (kxs T );have cq:kqe l.prog w K mg base:=g24.d X G (kxr T ck a8);have cj:kqj l.prog w K mg base:=g25.d X G (kxx T );have bv:kjh l.prog w K mg base:=g26.d X G (kw8 T );have bf:jzt l.prog w K mg base:=g27.d X G (kqp T a9 a8 cj bv);have cn:kqi l.prog w K mg base:=g28.d X G (kxw T );have cm:kqh l.prog w K mg base:=g29.d X G (kxu T );have bm:jzu l.prog w K mg base:=g30.d X G (kqq T );have aj:jvu l.prog w K mg base:=g31.d X G (kkn T cm);have ak:jwl l.prog w K mg base:=g32.d X G (kqs T bm);have d9:kvn l.prog w K mg base:=g33.d X G (qjq T a9 a8 aj ak);have ba:kjj l.prog w K mg base:=g34.d X G (kwa T );have cp:kqg l.prog w K mg base:=g35.d X G (kxt T a9 a8);have au:jxc l.prog w K mg base:=g36.d X G (kjp T );have b5:jwn l.prog w K mg base:=g37.d X G (kj4 T aj ak au);have bz:kji l.prog w K mg base:=g38.d X G (kw9 T bf cp b5 a8);exact wq0 T bt bz a9 cq d9 de a8 cn ba bo br dv af F
end Nk34
namespace PySem.W.Fast
theorem tw3411707252780616341:True:=⟨⟩
theorem tw15676682585805823797:True:=⟨⟩
theorem tw5962120648855466414:True:=⟨⟩
theorem tw13318431140149393463:True:=⟨⟩
theorem tw17687697545332681585:True:=⟨⟩
theorem tw6462858162514824885:True:=⟨⟩
theorem tw18273002245051880980:True:=⟨⟩
theorem tw5929028473036185248:True:=⟨⟩
theorem tw12057425006881216191:True:=⟨⟩
theorem tw12911378708880880291:True:=⟨⟩
theorem tw18269395943035271204:True:=⟨⟩
theorem tw11144307465566107480:True:=⟨⟩
theorem tw12209413213428874001:True:=⟨⟩
theorem tw6818472229279491484:True:=⟨⟩
theorem tw11086012194296351824:True:=⟨⟩
theorem tw6429956149574214647:True:=⟨⟩
theorem tw7210537146749704330:True:=⟨⟩
theorem tw3651546586964351673:True:=⟨⟩
theorem tw14364605654379166993:True:=⟨⟩
theorem tw15557515831725912248:True:=⟨⟩
theorem tw17611043249721404675:True:=⟨⟩
theorem tw11799281449448048377:True:=⟨⟩
theorem tw10309610668002054132:True:=⟨⟩
theorem tw7762916937586915658:True:=⟨⟩
theorem tw4979909846605451367:True:=⟨⟩
theorem tw16883296726343183221:True:=⟨⟩
theorem tw13269590128995585933:True:=⟨⟩
theorem tw14348491657399292804:True:=⟨⟩
theorem tw15929750682950495580:True:=⟨⟩
theorem tw9903195064092619373:True:=⟨⟩
theorem tw14960698354788068553:True:=⟨⟩
theorem tw3080201999803920624:True:=⟨⟩
theorem tw10198427486172991659:True:=⟨⟩
theorem tw2114911097879803074:True:=⟨⟩
theorem tw6579456853964794352:True:=⟨⟩
theorem tw119124811248038674:True:=⟨⟩
theorem tw2405251867126180513:True:=⟨⟩
theorem tw4897356577698555631:True:=⟨⟩
theorem tw2437528617724508530:True:=⟨⟩
theorem tw8904643977042561792:True:=⟨⟩
theorem tw12359893604182166328:True:=⟨⟩
theorem tw4474498391656095912:True:=⟨⟩
theorem tw12291819707832975555:True:=⟨⟩
theorem tw17945361221399199568:True:=⟨⟩
theorem tw1661970787030011507:True:=⟨⟩
theorem tw7703668631731090279:True:=⟨⟩
theorem tw11200189342375668203:True:=⟨⟩
theorem tw640202515261618995:True:=⟨⟩
theorem tw12090162107988675622:True:=⟨⟩
theorem tw17144126885522447408:True:=⟨⟩
theorem tw8502364552303956357:True:=⟨⟩
theorem tw11991620032390439128:True:=⟨⟩
theorem tw15943754258358427486:True:=⟨⟩
theorem tw3533010521137205442:True:=⟨⟩
theorem tw15761213162157289917:True:=⟨⟩
theorem tw2809471136319834384:True:=⟨⟩
theorem tw2576287373994928858:True:=⟨⟩
theorem tw7220796983723870591:True:=⟨⟩
theorem tw9599662803981158559:True:=⟨⟩
theorem tw6490844406227572899:True:=⟨⟩
theorem tw6570355277830803762:True:=⟨⟩
theorem tw16316453742154799134:True:=⟨⟩
theorem tw639506639476193801:True:=⟨⟩
theorem tw17686038239262461134:True:=⟨⟩
theorem tw16469828688526419011:True:=⟨⟩
theorem tw14583789554382371207:True:=⟨⟩
theorem tw3057403713030212228:True:=⟨⟩
theorem tw12288189533361263431:True:=⟨⟩
theorem tw16419782730378188561:True:=⟨⟩
theorem tw5890343406640308646:True:=⟨⟩
theorem tw8717258356879803649:True:=⟨⟩
theorem tw590871112231351518:True:=⟨⟩
theorem tw10041558850046890791:True:=⟨⟩
theorem tw4794508537464064579:True:=⟨⟩
theorem tw6192170606186657113:True:=⟨⟩
theorem tw10571899284564824597:True:=⟨⟩
theorem tw11712004219637598040:True:=⟨⟩
theorem tw10892276824478971376:True:=⟨⟩
theorem tw14020798716698100983:True:=⟨⟩
theorem tw12052341275854761294:True:=⟨⟩
theorem tw15750440848490637878:True:=⟨⟩
theorem tw17839163590937673171:True:=⟨⟩
theorem tw6368708390877992634:True:=⟨⟩
theorem tw5101191412758205595:True:=⟨⟩
theorem tw8894193863639214479:True:=⟨⟩
theorem tw11278430305057066087:True:=⟨⟩
theorem tw1770711055094358772:True:=⟨⟩
theorem tw13619925564157261939:True:=⟨⟩
theorem tw18209732709899213448:True:=⟨⟩
theorem tw17173583455092353007:True:=⟨⟩
theorem tw10885071790236156698:True:=⟨⟩
theorem tw8759035064409160304:True:=⟨⟩
theorem tw6019059888281718418:True:=⟨⟩
theorem tw2866907481792702208:True:=⟨⟩
theorem tw7932326637734263870:True:=⟨⟩
theorem tw13167008942172760098:True:=⟨⟩
theorem tw10978813872443571806:True:=⟨⟩
theorem tw16635159568678512240:True:=⟨⟩
theorem tw4070320326879564417:True:=⟨⟩
theorem tw5386616192561111062:True:=⟨⟩
theorem tw6589718247389763035:True:=⟨⟩
theorem tw17630843269234856001:True:=⟨⟩
theorem tw9374068156146895046:True:=⟨⟩
theorem tw2685386646117762882:True:=⟨⟩
theorem tw3810739226134197986:True:=⟨⟩
theorem tw4245967589271044659:True:=⟨⟩
theorem tw4964298918625914453:True:=⟨⟩
theorem tw18359536721399521957:True:=⟨⟩
theorem tw3720520205420930830:True:=⟨⟩
theorem tw15468635803696526842:True:=⟨⟩
theorem tw2576368933920390590:True:=⟨⟩
theorem tw12271412725581385494:True:=⟨⟩
theorem tw11797685616091660613:True:=⟨⟩
theorem tw11233008109400864515:True:=⟨⟩
end PySem.W.Fast
open PySem PySem.W PyProof.Rows
set_option maxRecDepth 100000 in
set_option maxHeartbeats 0 in
theorem PySem.Challenge.cw_freshrooms_k34_whole_plain_form_alike_holds : PySem.Challenge.rw_freshrooms_k34_whole_plain_form_alike.Holds := by
 w_on;o_law;k_head;(case hw=>w_witness2)
 k_fill
 refine Q.walkQ (l:=PySem.Challenge.rw_freshrooms_k34_whole_plain_form_alike) (n:=63) (k:=7) (x:="_law_script") (f:=Nk34.m_law) rfl (by decide) rfl ⟨rfl,by decide,by decide,rfl⟩ (fun w h Y=>PySem.W.kIn_of Y) ?F Nk34.law_true
 case F =>
  intro w mg fa h KX G hmg
  refine' Nk34.all_mk KX G hmg ?_ ?_ ?_ ?_ ?_ ?_ ?_ ?_ ?_ ?_ ?_ ?_ ?_ ?_ ?_ ?_ ?_ ?_ ?_ ?_ ?_ ?_ ?_ ?_ ?_ ?_ ?_ ?_ ?_ ?_ ?_ ?_ ?_ ?_ ?_ ?_ ?_ ?_ ?_ ?_ ?z_bool ?z_enumerate ?z_int ?z_isinstance ?z_len ?z_list ?z_max ?z_min ?z_range ?z_sorted ?z_tuple
  all_goals try (refine' Q.Gf.mk ?a ?b ?c ?d;(case a=>k_is);(case b=>k_is);(case c=>k_is);(case d=>k_is))
  (case z_bool=>k_is)
  (case z_enumerate=>k_is)
  (case z_int=>k_is)
  (case z_isinstance=>k_is)
  (case z_len=>k_is)
  (case z_list=>k_is)
  (case z_max=>k_is)
  (case z_min=>k_is)
  (case z_range=>k_is)
  (case z_sorted=>k_is)
  (case z_tuple=>k_is)
