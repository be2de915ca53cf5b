import PyProof.Rows.All
import Wide.All
import OpenK.AllK
import Wide.FinOn
import Lean
import PySem.Challenge.RW_freshrooms_k12_whole_machines_written
set_option Elab.async false
set_option linter.all false
set_option bootstrap.genMatcherCode false
set_option compiler.extract_closed false
set_option maxRecDepth 100000
theorem Ŕq(_:True:=by rfl):True:=trivial
theorem Ŕq.z:True:=trivial
open Ŕq renaming _auto_1→Ŕ
theorem ŕq(_:True:=by decide):True:=trivial
theorem ŕq.z:True:=trivial
open ŕq renaming _auto_1→ŕ
theorem Ŗq(_:True:=by intro _;rfl):True:=trivial
theorem Ŗq.z:True:=trivial
open Ŗq renaming _auto_1→Ŗ
theorem ŗq(_:True:=by decide +kernel):True:=trivial
theorem ŗq.z:True:=trivial
open ŗq renaming _auto_1→ŗ
theorem Řq(_:True:=by first|exact .inl rfl|exact .inr rfl|assumption):True:=trivial
theorem Řq.z:True:=trivial
open Řq renaming _auto_1→Ř
theorem řq(_:True:=by first|exact Or.inl rfl|exact Or.inr (Or.inl rfl)|exact Or.inr (Or.inr rfl)):True:=trivial
theorem řq.z:True:=trivial
open řq renaming _auto_1→ř
theorem Śq(_:True:=by first|exact Or.inl rfl|exact Or.inr rfl):True:=trivial
theorem Śq.z:True:=trivial
open Śq renaming _auto_1→Ś
theorem śq(_:True:=by first|exact .inl rfl|exact .inr rfl):True:=trivial
theorem śq.z:True:=trivial
open śq renaming _auto_1→ś
theorem oq9{α : Type _}{a b : α}(h:some a=some b):a=b:=Option.some.inj h
theorem lr9{α : Type _}{a : α}{b : List α}(c : List α)(h:a ∈ b):a ∈ c ++ b:=List.mem_append_right c h
theorem ll9{α : Type _}{a : α}{b : List α}(c : List α)(h:a ∈ b):a ∈ b ++ c:=List.mem_append_left c h
theorem lc9{α : Type _}{a : α}{l : List α}(b : α)(h:a ∈ l):a ∈ b::l:=List.mem_cons_of_mem b h
section
open PySem PySem.Spec PyProof.Rows
theorem X0:type_of% @wpAny_bind:=@wpAny_bind
theorem X1:type_of% @Heap.get?_push_of_some:=@Heap.get?_push_of_some
theorem X2:type_of% @List.getElem?_eq_getElem:=@List.getElem?_eq_getElem
theorem X3:type_of% @List.mem_cons_self:=@List.mem_cons_self
theorem X4:type_of% @List.length_map:=@List.length_map
theorem X5:type_of% @wpAny_pure:=@wpAny_pure
theorem X6:type_of% @List.size_toArray:=@List.size_toArray
theorem X7:type_of% @List.nodup_append:=@List.nodup_append
theorem X8:type_of% @Heap.get?_push_size:=@Heap.get?_push_size
theorem X9:type_of% @List.getD_eq_getElem?_getD:=@List.getD_eq_getElem?_getD
theorem Xa:type_of% @Array.length_toList:=@Array.length_toList
theorem Xb:type_of% @List.length_cons:=@List.length_cons
theorem Xd:type_of% @Heap.lt_size:=@Heap.lt_size
theorem Xe:type_of% @Nat.le_refl:=@Nat.le_refl
theorem Xf:type_of% @if_pos:=@if_pos
theorem Xg:type_of% @List.not_mem_nil:=@List.not_mem_nil
theorem Xh:type_of% @List.mem_cons:=@List.mem_cons
theorem Xi:type_of% @Nat.lt_of_lt_of_le:=@Nat.lt_of_lt_of_le
theorem Xj:type_of% @Int.emod_lt_of_pos:=@Int.emod_lt_of_pos
theorem Xk:type_of% @List.append_assoc:=@List.append_assoc
theorem Xl:type_of% @List.mem_map_of_mem:=@List.mem_map_of_mem
theorem Xm:type_of% @if_neg:=@if_neg
theorem Xn:type_of% @List.length_append:=@List.length_append
theorem Xp:type_of% @List.getElem?_map:=@List.getElem?_map
theorem Xq:type_of% @Nat.ne_of_lt:=@Nat.ne_of_lt
theorem Xr:type_of% @Int.emod_nonneg:=@Int.emod_nonneg
theorem Xs:type_of% @wpAny_newObj_type:=@wpAny_newObj_type
theorem Xu:type_of% @List.getElem?_set_ne:=@List.getElem?_set_ne
theorem Xv:type_of% @List.append_nil:=@List.append_nil
theorem Xw:type_of% @Nat.le_trans:=@Nat.le_trans
theorem Xx:type_of% @List.map_map:=@List.map_map
theorem Xy:type_of% @PySem.W.mg_none_of:=@PySem.W.mg_none_of
theorem Xz:type_of% @wpAny_call_entry:=@wpAny_call_entry
theorem Y0:type_of% @List.map_append:=@List.map_append
theorem Y1:type_of% @Int.toNat_natCast:=@Int.toNat_natCast
theorem Y2:type_of% @Heap.get?_update_self:=@Heap.get?_update_self
theorem Y3:type_of% @wpAny_field:=@wpAny_field
theorem Y4:type_of% @wpAny_callSpecial?_slot:=@wpAny_callSpecial?_slot
theorem Y5:type_of% @List.getElem?_set_self:=@List.getElem?_set_self
theorem Y6:type_of% @Heap.SameBut.update:=@Heap.SameBut.update
theorem Y7:type_of% @PySem.W.kia_one:=@PySem.W.kia_one
theorem Y8:type_of% @decide_eq_false:=@decide_eq_false
theorem Y9:type_of% @List.nodup_nil:=@List.nodup_nil
theorem Ya:type_of% @of_decide_eq_true:=@of_decide_eq_true
theorem Yb:type_of% @List.length_range:=@List.length_range
theorem Yc:type_of% @decide_eq_true:=@decide_eq_true
theorem Yd:type_of% @Nat.lt_irrefl:=@Nat.lt_irrefl
theorem Ye:type_of% @List.getElem_mem:=@List.getElem_mem
theorem Yf:type_of% @List.length_replicate:=@List.length_replicate
theorem Yg:type_of% @wpAny_setField:=@wpAny_setField
theorem Yh:type_of% @List.length_take:=@List.length_take
theorem Yi:type_of% @List.mem_of_getElem?:=@List.mem_of_getElem?
theorem Yj:type_of% @PySem.F.plainAttrs_list:=@PySem.F.plainAttrs_list
theorem Yk:type_of% @PyProof.Rows.callWith_type1:=@PyProof.Rows.callWith_type1
theorem Yl:type_of% @wpAny_holding:=@wpAny_holding
theorem Ym:type_of% @wpAny_truthy_bool:=@wpAny_truthy_bool
theorem Yn:type_of% @Heap.size_push:=@Heap.size_push
theorem Yo:type_of% @PySem.mem_of_lookup:=@PySem.mem_of_lookup
theorem Yp:type_of% @List.getElem?_eq_none:=@List.getElem?_eq_none
theorem Yq:type_of% @PySem.W.mg_of:=@PySem.W.mg_of
theorem Yr:type_of% @wpAny_seqItems:=@wpAny_seqItems
theorem Ys:type_of% @List.length_set:=@List.length_set
theorem Yt:type_of% @List.length_nil:=@List.length_nil
theorem Yu:type_of% @Heap.get?_update_ne:=@Heap.get?_update_ne
theorem Yv:type_of% @List.all_eq_true:=@List.all_eq_true
theorem Yw:type_of% @Obj.data_mapFields:=@Obj.data_mapFields
theorem Yx:type_of% @Obj.isFreed_of_fields:=@Obj.isFreed_of_fields
theorem Yy:type_of% @List.nodup_cons:=@List.nodup_cons
theorem Yz:type_of% @wpAny_pyIter_list:=@wpAny_pyIter_list
theorem Z0:type_of% @List.flatten_cons:=@List.flatten_cons
theorem Z1:type_of% @Nat.zero_le:=@Nat.zero_le
theorem Z2:type_of% @Nat.lt_succ_of_lt:=@Nat.lt_succ_of_lt
theorem Z3:type_of% @wpAny_setState_of:=@wpAny_setState_of
theorem Z4:type_of% @List.length_drop:=@List.length_drop
theorem Z5:type_of% @List.lookup_cons:=@List.lookup_cons
theorem Z6:type_of% @wpAny_askSetting:=@wpAny_askSetting
theorem Z7:type_of% @wpAny_rule:=@wpAny_rule
end
noncomputable section
namespace L2
open PySem PySem.Spec PyProof.Rows
abbrev Key:=Sum Int Str
def wju:Key->Value->Bool
 |.inl k,v=>Value.isInt k v
 |.inr x,v=>Value.isStrOf x v
def keyH(w:World):Key->Int
 |.inl k=>hashInt k
 |.inr x=>hashStr w x
theorem Kq:∀{k:Key} {v:Value},wju k v=true->(∃i t,k=Sum.inl i/\v=Value.int i t)\/(∃x t,k=Sum.inr x/\v=Value.str x t)
 |.inl i,v,h=>by
  obtain⟨t,e⟩:=Value.isInt_shape (k:=i) (v:=v) h;exact .inl ⟨i,t,rfl,e⟩
 |.inr x,v,h=>by
  obtain⟨t,e⟩:=Value.isStrOf_shape (x:=x) (v:=v) h;exact .inr ⟨x,t,rfl,e⟩
theorem wjt(a b:Int):decide ((Sum.inl a:Key)=Sum.inl b)=(a==b):=by
 by_cases e:a=b
 ·subst e;simp
 ·have h:¬(Sum.inl a:Key)=Sum.inl b:=λq=>e (Sum.inl.inj q)
  rw[Y8 h];exact(beq_eq_false_iff_ne.mpr e).symm
theorem wjq(a b:Str):decide ((Sum.inr a:Key)=Sum.inr b)=decide (a=b):=by
 by_cases e:a=b
 ·subst e;simp
 ·have h:¬(Sum.inr a:Key)=Sum.inr b:=λq=>e (Sum.inr.inj q)
  rw[Y8 h,Y8 e]
theorem wjs(a:Int)(b:Str):decide ((Sum.inl a:Key)=Sum.inr b)=false:=Y8 (λq=>nomatch q)
theorem wjr(a:Str)(b:Int):decide ((Sum.inr a:Key)=Sum.inl b)=false:=Y8 (λq=>nomatch q)
noncomputable def kw3(prog:Program)(w:World):PySem.KeyKind prog w Key where
 is:=wju
 hash:=keyH w
 inj:=λv a b ha hb=>by
  rcases Kq ha with⟨i,t,rfl,rfl⟩|⟨x,t,rfl,rfl⟩
  ·rcases Kq hb with⟨j,u,rfl,e⟩|⟨y,u,rfl,e⟩
   ·injection e with e1 _;rw[e1]
   ·exact nomatch e
  ·rcases Kq hb with⟨j,u,rfl,e⟩|⟨y,u,rfl,e⟩
   ·exact nomatch e
   ·injection e with e1 _;rw[e1]
 byValue:=λk v h=>by
  rcases Kq h with⟨i,t,rfl,rfl⟩|⟨x,t,rfl,rfl⟩<;>rfl
 pyHash:=λhv h=>by
  rcases Kq hv with⟨i,t,rfl,rfl⟩|⟨x,t,rfl,rfl⟩
  ·exact wpAny_pyHash_int h
  ·exact wpAny_pyHash_str h
 eqBool:=λhu hv h=>by
  rcases Kq hu with⟨i,t,rfl,rfl⟩|⟨x,t,rfl,rfl⟩
  ·rcases Kq hv with⟨j,u,rfl,rfl⟩|⟨y,u,rfl,rfl⟩
   ·rw[wjt]at h;exact wpAny_eqBool_int h
   ·rw[wjs]at h;exact SeqAt.EqAt.int_str i t y u _ _ _ _ h
  ·rcases Kq hv with⟨j,u,rfl,rfl⟩|⟨y,u,rfl,rfl⟩
   ·rw[wjr]at h;exact SeqAt.EqAt.str_int x t j u _ _ _ _ h
   ·rw[wjq]at h;exact wpAny_eqBool_str h
 «strs»:=λk x t v h=>by
  rcases Kq h with⟨i,u,rfl,e⟩|⟨y,u,rfl,e⟩
  ·exact nomatch e
  ·injection e with e1 _;subst e1;cases v<;>rfl
inductive V where
 |non|bl (b:Bool)|int (i:Int)|str (x:Str)|byt (b:Array UInt8)|flt (b:UInt64)|ref (a:Addr)|ty (n:String)
 deriving DecidableEq
noncomputable def RelV:V->Value->Prop
 |.non,u=>u=Value.none
 |.bl b,u=>u=Value.bool b
 |.int i,u=>∃t,u=Value.int i t
 |.str x,u=>∃t,u=Value.str x t
 |.byt b,u=>∃t,u=Value.bytes b t
 |.flt b,u=>∃t,u=Value.float b t
 |.ref a,u=>u=Value.ref a
 |.ty n,u=>u=Value.type n
abbrev Vals:List V->List Value->Prop:=Paired RelV
theorem Vals.length{xs:List V}{us:List Value}(r:Vals xs us):xs.length=us.length:=Paired.length r
theorem Vals.get:∀{xs:List V} {us:List Value} {i:Nat} {x:V},Vals xs us->xs[i]?=some x->∃u,us[i]?=some u/\RelV x u
 |_,_,_,_,.nil,e=>by simp at e
 |_,_,0,_,.cons r _,e=>by simp at e;subst e;exact⟨_,rfl,r⟩
 |_,_,i+1,x,.cons _ t,e=>by
  obtain⟨u,h1,h2⟩:=Vals.get (i:=i) (x:=x) t (by simpa using e);exact⟨u,by simpa using h1,h2⟩
theorem Vals.append:∀{xs ys:List V} {us ws:List Value},Vals xs us->Vals ys ws->Vals (xs++ys) (us++ws)
 |_,_,_,_,.nil,s=>s
 |_,_,_,_,.cons r t,s=>.cons r (Vals.append t s)
theorem Vals.take:∀{xs:List V} {us:List Value} (n:Nat),Vals xs us->Vals (xs.take n) (us.take n)
 |_,_,0,_=>.nil
 |_,_,_+1,.nil=>.nil
 |_,_,n+1,.cons r t=>.cons r (Vals.take n t)
theorem Vals.drop:∀{xs:List V} {us:List Value} (n:Nat),Vals xs us->Vals (xs.drop n) (us.drop n)
 |_,_,0,r=>r
 |_,_,_+1,.nil=>.nil
 |_,_,n+1,.cons _ t=>Vals.drop n t
def wwe:Option V->Option Value->Prop
 |some v,some u=>RelV v u
 |none,none=>True
 |_,_=>False
def KV{κ:Type}:List (κ×V)->List (κ×Value)->Prop:=Paired λ(p:κ×V) (q:κ×Value)=>p.1=q.1/\RelV p.2 q.2
def kV:Key->V
 |.inl i=>.int i
 |.inr x=>.str x
inductive HO where
 |lst (xs:List V)
 |tup (xs:List V)
 |dK (ao:List (Key×V))|dT (ao:List (List Key×V))
 |set (S:Int->Bool) (n:Nat)
 |ins (C dx:Addr) (fs:List (Str×V))
 |own (x:Addr)
 |xd (fs:List (Str×V))
 |met (f x:Addr)
 |rng (lo hi:Int)
 |frz (o:Obj) (u:HO)
 |tbl (ps:Array Value)
 |ext (φ:Heap->Prop)
abbrev Hp:=Addr->Option HO
noncomputable def IsTupD(h:Heap)(a:Addr)(items:Array Value):Prop:=∃o,h.get? a=some o/\o.cls=.type "tuple"/\o.dict=none/\∃n,o.data=.seq items n
theorem IsTupD.tup{h:Heap}{a:Addr}{items:Array Value}(p:IsTupD h a items):IsTup h a items:=by
 obtain⟨o,e,c,_,n,d⟩:=p;exact⟨o,e,c,n,d⟩
theorem IsTupD.new(h:Heap)(xs:Array Value):IsTupD (h.push { cls:=.type "tuple",data:=.seq xs }) h.objs.size xs:=⟨_,X8 _ rfl,rfl,rfl,0,rfl⟩
def upd(H:Hp)(a:Addr)(o:HO):Hp:=λb=>if b=a then some o else H b
theorem xX{H:Hp}{a:Addr}{o:HO}:upd H a o a=some o:=by unfold upd;rw[Xf rfl]
theorem qx{H:Hp}{a b:Addr}{o:HO}(h:b≠a):upd H a o b=H b:=by unfold upd;rw[Xm h]
theorem Jx{H:Hp}{a b:Addr}{o:HO}(h:H a=some o)(h':H b=none):a≠b:=by
 intro e;subst e;rw[h]at h';cases h'
section
variable (P:Program)(w:World)
noncomputable def ObjOk(H : Hp)(h : Heap)(a : Addr): HO -> Prop
  |.lst xs=>xs.length<=sizeLine /\ ∃(aa : List Value) (n : Nat), Vals xs aa /\ h.get? a = some { cls:= .type "list", data:= .seq aa.toArray n }
  |.tup xs=>xs.length<=sizeLine /\ ∃aa : List Value, Vals xs aa /\ IsTupD h a aa.toArray
  |.dK ao=>ao.length<=sizeLine /\ (a==sysModules) = false /\ ∃vs, KV ao vs /\ h.DictOf (kw3 P w) a vs
  |.dT ao=>ao.length<=sizeLine /\ (a==sysModules) = false /\ ∃xs : List (List Key × Addr × Value),
      Paired (λ(p : List Key × V) (q : List Key × Addr × Value)=>p.1 = q.1 /\ H q.2.1 = some (.tup (p.1.map kV)) /\ RelV p.2 q.2.2) ao xs /\
      ∃o es ep, h.get? a = some o /\ o.ExactDict /\ o.data = .dict es ep /\ es.toList = xs.map (entryOfKey (tupleKind (kw3 P w))) /\ (xs.map (·.1)).Nodup
  |.set S n=>h.SetOf (intKind P w) a S n
  |.ins C dx fs=>H dx = some (.own a) /\ fs.length<=1000 /\ dx≠a /\ h.get? a = some (PySem.W.instObj C dx) /\
      ∃mA, h.Ns1 dx mA /\ (∀f, wwe (fs.lookup f) (mA f)) /\ PySem.Within mA (fs.map (·.1))
  |.own _=> ∃o, h.get? a = some o
  |.xd fs=> ∃mA, h.Ns1 a mA /\ ∀f, wwe (fs.lookup f) (mA f)
  |.rng lo hi=> ∃t u v, h.get? a = some { cls:= .type "range", data:= .fields #[.int lo t, .int hi u, .int 1 v] }
  |.frz o u=>h.get? a = some o /\ ObjOk H h a u
  |.tbl ps=>h.get? a = some { cls:= .none, data:= .fields ps }
  |.met f x=>h.get? a = some (PySem.W.methodObj (.ref f) (.ref x))
  |.ext φ=>φ h /\ (∃o, h.get? a = some o) /\ ∀h1 h2 : Heap, φ h1 -> (∀o, h1.get? a = some o -> h2.get? a = some o) -> φ h2
def HOk(H:Hp)(h:Heap):Prop:=∀a o,H a=some o->ObjOk P w H h a o
end
section
variable {P:Program}{w:World}{H H':Hp}{h h':Heap}{a:Addr}{o:HO}
theorem ObjOk.lt(x:ObjOk P w H h a o):a<h.objs.size:=by
 cases o with
 |lst xs=>obtain⟨_,_,_,_,e⟩:=x;exact Xd e
 |tup xs=>obtain⟨_,_,_,p⟩:=x;exact p.tup.lt
 |dK ao=>obtain⟨_,_,_,_,o,_,_,e,_⟩:=x;exact Xd e
 |dT ao=>obtain⟨_,_,_,_,o,_,_,e,_⟩:=x;exact Xd e
 |set S n=>obtain⟨o,_,_,_,e,_⟩:=x;exact Xd e
 |ins C dx fs=>obtain⟨_,_,_,e,_⟩:=x;exact Xd e
 |own y=>obtain⟨_,e⟩:=x;exact Xd e
 |xd fs=>obtain⟨_,⟨_,_,_,e,_⟩,_⟩:=x;exact Xd e
 |rng lo hi=>obtain⟨_,_,_,e⟩:=x;exact Xd e
 |frz ob u=>obtain⟨e,_⟩:=x;exact Xd e
 |tbl ps=>exact Xd (show h.get? a=some _ from x)
 |met f y=>exact Xd (show h.get? a=some _ from x)
 |ext φ=>obtain⟨_,⟨_,e⟩,_⟩:=x;exact Xd e
theorem Paired.mapP{α β:Type}{F G:α->β->Prop}:∀{l₁:List α} {l₂:List β},Paired F l₁ l₂->(∀a b,F a b->G a b)->Paired G l₁ l₂
 |_,_,.nil,_=>.nil
 |_,_,.cons r t,f=>.cons (f _ _ r) (Paired.mapP t f)
theorem ObjOk.stay(x:ObjOk P w H h a o)(k:∀b u,(b=a\/H b=some (.own a))->h.get? b=some u->h'.get? b=some u)
  (ho:∀b,H b=some (.own a)->H' b=some (.own a)) (ht:∀b xs,H b=some (.tup xs)->H' b=some (.tup xs)):ObjOk P w H' h' a o:=by
 induction o with
 |lst xs=>obtain⟨z,aa,n,r,e⟩:=x;exact⟨z,aa,n,r,k _ _ (.inl rfl) e⟩
 |tup xs=>obtain⟨z,aa,r,ob,e,c⟩:=x;exact⟨z,aa,r,ob,k _ _ (.inl rfl) e,c⟩
 |dK ao=>obtain⟨z,y,vs,r,ob,es,ep,e,c⟩:=x;exact⟨z,y,vs,r,ob,es,ep,k _ _ (.inl rfl) e,c⟩
 |dT ao=>
  obtain⟨z,y,xs,r,ob,es,ep,e,c⟩:=x;exact⟨z,y,xs,Paired.mapP r λp q z=>⟨z.1,ht _ _ z.2.1,z.2.2⟩,ob,es,ep,k _ _ (.inl rfl) e,c⟩
 |set S n=>obtain⟨ob,es,ep,t,e,c⟩:=x;exact⟨ob,es,ep,t,k _ _ (.inl rfl) e,c⟩
 |ins C dx fs=>
  obtain⟨d,z,ne,e,mA,⟨od,es,ep,e2,c⟩,r⟩:=x;exact⟨ho _ d,z,ne,k _ _ (.inl rfl) e,mA,⟨od,es,ep,k _ _ (.inr d) e2,c⟩,r⟩
 |own y=>obtain⟨ob,e⟩:=x;exact⟨ob,k _ _ (.inl rfl) e⟩
 |xd fs=>obtain⟨mA,⟨od,es,ep,e,c⟩,r⟩:=x;exact⟨mA,⟨od,es,ep,k _ _ (.inl rfl) e,c⟩,r⟩
 |rng lo hi=>obtain⟨t,u,v,e⟩:=x;exact⟨t,u,v,k _ _ (.inl rfl) e⟩
 |frz ob u ih=>obtain⟨e,q⟩:=x;exact⟨k _ _ (.inl rfl) e,ih q⟩
 |tbl ps=>
  have e:h.get? a=some { cls:=.none,data:=.fields ps }:=x;show h'.get? a=some { cls:=.none,data:=.fields ps };exact k a _ (.inl rfl) e
 |met f y=>
  have e:h.get? a=some (PySem.W.methodObj (.ref f) (.ref y)):=x;show h'.get? a=some (PySem.W.methodObj (.ref f) (.ref y));exact k a _ (.inl rfl) e
 |ext φ=>obtain⟨p,⟨o,e⟩,st⟩:=x;exact⟨st _ _ p λo q=>k _ _ (.inl rfl) q,⟨o,k _ _ (.inl rfl) e⟩,st⟩
theorem HOk.lt(x:HOk P w H h)(e:H a=some o):a<h.objs.size:=(x a o e).lt
theorem HOk.fresh(x:HOk P w H h)(e:h.objs.size<=a):H a=none:=by
 cases q:H a with
 |none=>rfl
 |some u=>exact absurd (Xi (x.lt q) e) (Yd _)
theorem HOk.kept(x:HOk P w H h)(k:∀b u,h.get? b=some u->h'.get? b=some u):HOk P w H h':=λa o e=>
 (x a o e).stay (λb u _ q=>k b u q) (λ_ q=>q) λ_ _ q=>q
theorem HOk.laid(x:HOk P w H h)(k:∀b u,h.get? b=some u->h'.get? b=some u)(hp:h.objs.size<=a)(new:ObjOk P w (upd H a o) h' a o):HOk P w (upd H a o) h':=λb u e=>by
 have hn:=x.fresh hp
 by_cases hb:b=a
 ·subst hb;rw[xX]at e;cases e;exact new
 ·rw[qx hb]at e;exact(x b u e).stay (λc v _ q=>k c v q) (λc q=>by rw[qx (Jx q hn)];exact q) λc xs q=>by rw[qx (Jx q hn)];exact q
end
def Rd(H:Hp)(a:Addr)(u:HO):Prop:=H a=some u\/∃o,H a=some (.frz o u)
theorem Rd.ok{P:Program}{w:World}{H:Hp}{h:Heap}{a:Addr}{u:HO}(r:Rd H a u)(x:HOk P w H h):ObjOk P w H h a u:=by
 rcases r with r|⟨o,r⟩
 ·exact x a u r
 ·obtain⟨_,q⟩:=x a _ r;exact q
noncomputable def Mut:Option HO->Prop
 |some (.lst _)=>True
 |some (.dK _)=>True
 |some (.dT _)=>True
 |some (.set _ _)=>True
 |some (.ins _ _ _)=>True
 |some (.ext _)=>True
 |_=>False
section
variable {P:Program}{w:World}{H:Hp}{h h':Heap}{x e:Addr}{o':HO}
theorem HOk.write(ok:HOk P w H h)(mu:Mut (H x))(he:e=x\/H e=some (.own x))(k:∀b u,b≠e->h.get? b=some u->h'.get? b=some u)(pi:∃u,h'.get? e=some u)
  (new:ObjOk P w (upd H x o') h' x o'):HOk P w (upd H x o') h':=λb u q=>by
 have pz:∀c y,H c=some (.own y)->c≠x:=λc y r z=>by subst z;rw[r]at mu;exact mu
 have ntup:∀c xs,H c=some (.tup xs)->c≠x:=λc xs r z=>by subst z;rw[r]at mu;exact mu
 by_cases hb:b=x
 ·subst hb;rw[xX]at q;cases q;exact new
 ·rw[qx hb]at q
  by_cases hbe:b=e
  ·have q':H b=some (.own x):=by
    rcases he with z|z
    ·exact absurd (hbe.trans z) hb
    ·rw[hbe];exact z
   rw[q]at q';cases q';obtain⟨v,hv⟩:=pi;exact⟨v,by rw[hbe];exact hv⟩
  ·refine(ok b u q).stay (λc v hc r=>k c v ?_ r) (λc r=>by rw[qx (pz c b r)];exact r) λc xs r=>by rw[qx (ntup c xs r)];exact r
   rcases hc with rfl|hc
   ·exact hbe
   ·rintro rfl;rcases he with z|z
    ·exact pz c b hc z
    ·rw[hc]at z;cases z;exact hb rfl
end
structure Un (fs ex:List Addr)(H H':Hp)(h h':Heap):Prop where
 keep:∀b o,h.get? b=some o->H b=none->b∉fs->b∉ex->h'.get? b=some o
 slot:∀b o,h.get? b=some o->H b=none->b∈fs->b∉ex->∃sl,h'.get? b=some { o with slots:=sl }
 free:∀b o,h.get? b=some o->H b=none->b∉ex->H' b=none
 there:∀b o,h.get? b=some o->b∉ex->∃o',h'.get? b=some o'
 tups:∀b xs,H b=some (.tup xs)->H' b=some (.tup xs)
 frzs:∀b o u,H b=some (.frz o u)->H' b=some (.frz o u)
 tbls:∀b ps,H b=some (.tbl ps)->∃more,H' b=some (.tbl (ps++more))
section
variable {fs fs' ex ex':List Addr}{H H1 H2:Hp}{h h1 h2 h':Heap}{a x e:Addr}{o:HO}
theorem Un.any(u:Un fs ex H H1 h h1){b:Addr}{ob:Obj}(q:h.get? b=some ob)(n:H b=none)(hx:b∉ex):∃sl,h1.get? b=some { ob with slots:=sl }:=by
 by_cases hb:b∈fs
 ·exact u.slot b ob q n hb hx
 ·exact⟨ob.slots,u.keep b ob q n hb hx⟩
theorem Un.kept(k:∀b u,h.get? b=some u->h'.get? b=some u):Un fs ex H H h h':=
 ⟨λb ob q _ _ _=>k b ob q,λb ob q _ _ _=>⟨ob.slots,k b ob q⟩,λ_ _ _ n _=>n,λb ob q _=>⟨ob,k b ob q⟩,λ_ _ q=>q,λ_ _ _ q=>q,λ_ ps q=>⟨#[],by rw[q];simp⟩⟩
theorem Un.refl:Un fs ex H H h h:=Un.kept λ_ _ q=>q
theorem Un.laid(k:∀b u,h.get? b=some u->h'.get? b=some u)(hp:h.objs.size<=a)(hn:H a=none):Un fs ex H (upd H a o) h h' where
 keep:=λb u q _ _ _=>k b u q
 slot:=λb u q _ _ _=>⟨u.slots,k b u q⟩
 free:=λb u q n _=>by rw[qx (Xq (Xi (Xd q) hp))];exact n
 there:=λb u q _=>⟨u,k b u q⟩
 tups:=λb xs q=>by rw[qx (Jx q hn)];exact q
 frzs:=λb u xs q=>by rw[qx (Jx q hn)];exact q
 tbls:=λb ps q=>⟨#[],by rw[qx (Jx q hn),q];simp⟩
theorem Un.write(mu:Mut (H x))(he:e=x\/H e=some (.own x))(k:∀b u,b≠e->h.get? b=some u->h'.get? b=some u)(pi:∃u,h'.get? e=some u):Un fs ex H (upd H x o) h h':=by
 have hx:∀b,H b=none->b≠x:=λb n z=>by subst z;rw[n]at mu;exact mu
 have hb:∀b,H b=none->b≠e:=λb n z=>by
  subst z;rcases he with r|r
  ·exact hx b n r
  ·rw[n]at r;cases r
 have hm:∀b u,H b=some u->¬Mut (some u)->b≠x:=λb u q nm z=>by subst z;rw[q]at mu;exact nm mu
 refine⟨λb u q n _ _=>k b u (hb b n) q,λb u q n _ _=>⟨u.slots,k b u (hb b n) q⟩,λb u q n _=>by rw[qx (hx b n)];exact n,λb u q _=>?_,
  λb xs q=>by rw[qx (hm b _ q λz=>z)];exact q,λb u xs q=>by rw[qx (hm b _ q λz=>z)];exact q,λb ps q=>⟨#[],by rw[qx (hm b _ q λz=>z),q];simp⟩⟩
 by_cases hbe:b=e
 ·subst hbe;exact pi
 ·exact⟨u,k b u hbe q⟩
end
def trk(h:Heap)(H:Hp):List Addr:=(List.range h.objs.size).filter λa=>(H a).isSome
def Kv(h:Heap)(H:Hp):Heap:=PySem.W.hideAll h (trk h H)
theorem qxd(h:Heap)(H:Hp):(Kv h H).objs.size=h.objs.size:=PySem.W.hideAll_size _ _
theorem vjn{h:Heap}{H:Hp}{b:Addr}{o:Obj}(e:h.get? b=some o)(n:H b=none):(Kv h H).get? b=some o:=
 PySem.W.hideAll_get _ e λhm=>by
  have q:(H b).isSome=true:=(List.mem_filter.mp hm).2;rw[n]at q;simp at q
theorem vvw{h:Heap}{H:Hp}{b:Addr}{o:Obj}(e:(Kv h H).get? b=some o):h.get? b=some o/\H b=none:=by
 have e':h.get? b=some o:=PySem.W.of_hideAll (trk h H) e;refine⟨e',?_⟩;cases q:H b with
 |none=>rfl
 |some x=>
  have hm:b∈trk h H:=List.mem_filter.mpr ⟨List.mem_range.mpr (Xd e'),by simp[q]⟩;have z:(Kv h H).get? b=none:=PySem.W.hideAll_none (trk h H) hm;rw[z]at e;cases e
noncomputable def vwx(g h:Heap)(L:Addr):List (Addr×Obj):=(List.range h.objs.size).filterMap λa=>if a=L\/(g.get? a).isSome=true then none else(h.get? a).map λo=>(a,o)
def j9(g h:Heap)(L d:Addr):List (Addr×Obj):=(vwx g h L).filter λp=>decide (p.1≠d)
structure Mod (K:PySem.W.Frag)(mg:Str->Option Value)(base:Heap):Prop where
 kin:K.In base
 glob:base.Ns mainGlobals mg
 blt:∃mb,base.Ns builtinsNs mb/\∀x:Str,x≠"__name__"->mb x=bootBuiltins x
 nolimit:base.NoLimit
structure Cx where
 prog:Program
 w:World
 K:PySem.W.Frag
 mg:Str->Option Value
 base:Heap
 A:Around
 N:List Str
 s₀:Shared
 H₀:Hp
 env:Env
 outer:List Env
 stack:List Env
 ex:List Addr
 fn:Str->Bool
 calm:Bool
 pn:List (Addr×Obj)
 xe:Value->Shared->Prop
def frs(l:List Env):List Addr:=l.filterMap (·.frame)
abbrev Cx.fs(X:Cx):List Addr:=frs X.outer
noncomputable def Vis(sc:Scope)(x:Str):Prop:=sc.names.lookup x=some .local\/sc.names.lookup x=some .cell\/sc.names.lookup x=some .free
def Loc(sc:Scope)(x:Str):Prop:=sc.names.lookup x=some .local\/sc.names.lookup x=some .cell
noncomputable def Look(env:Env)(h:Heap)(m:Str->Option Value)(x:Str)(u:Value):Prop:=
 (env.kindOf x=some .local/\m x=some u)\/((env.kindOf x=some .cell\/env.kindOf x=some .free)/\∃c,env.cells.lookup x=some c/\h.IsCell c (some u))
structure Cx.Ok (X:Cx):Prop where
 mod:Mod X.K X.mg X.base
 kind:X.env.scope.kind=.function
 glob:X.env.globals=mainGlobals
 blt:X.env.builtins=builtinsNs
 above:X.s₀.heap.objs.size<=X.env.locals
 inj:∀x y c,X.env.cells.lookup x=some c->X.env.cells.lookup y=some c->x=y
 has:∀x,(X.env.kindOf x=some .cell\/X.env.kindOf x=some .free)->∃c,X.env.cells.lookup x=some c
 cab:∀x c,X.fn x=true->X.env.cells.lookup x=some c->X.s₀.heap.objs.size<=c
 hd:X.calm=true->X.A.handled=none
 frames:X.A.frames=some X.stack
 stk:X.stack=X.outer\/(X.stack=X.env::X.outer/\X.env.frame=some X.env.locals)
 exf:∀b∈X.ex,b≠X.env.locals/\∀x c,X.env.cells.lookup x=some c->c≠b
 bs:∀b o,X.base.get? b=some o->X.s₀.heap.get? b=some o/\X.H₀ b=none
 bsz:X.base.objs.size<=X.s₀.heap.objs.size
 noex:∀b o,X.base.get? b=some o->b∉X.ex
 exfs:∀b∈X.ex,b∉X.fs
 funs:X.s₀.heap.FunFrames X.base X.outer
 frf:∀b∈X.fs,X.H₀ b=none
structure Inv (X:Cx)(pins:List (Addr×Obj))(σ:List (Option V))(H:Hp)(s:Shared):Prop where
 ok:X.Ok
 os:s.os=X.s₀.os
 bare:AllBare s.gens
 base:Un X.fs X.ex X.H₀ H X.s₀.heap s.heap
 loc:∃m,s.heap.Ns X.env.locals m/\∀(i:Nat) (x:Str) (v:V),X.N[i]?=some x->σ[i]?=some (some v)->Vis X.env.scope x->∃u,RelV v u/\Look X.env s.heap m x u
 cell:∀x c,X.env.cells.lookup x=some c->∃v,s.heap.IsCell c v
 free:H X.env.locals=none
 freeC:∀x c,X.env.cells.lookup x=some c->H c=none
 pin:∀p∈X.pn++pins,s.heap.get? p.1=some p.2/\H p.1=none/\p.1≠X.env.locals/\p.1∉X.fs/\∀v,p.2.data≠.cell v
 hok:HOk X.prog X.w H s.heap
 len:σ.length=X.N.length
section
variable {X:Cx}{pins:List (Addr×Obj)}{σ:List (Option V)}{H H':Hp}{s:Shared}{h':Heap}
theorem Cx.Ok.nofr(ok:X.Ok){b:Addr}{o:Obj}(e:X.base.get? b=some o):b∉X.fs:=λhb=>by
 have:=(ok.funs.mem hb).1;rw[e]at this;cases this
theorem Inv.bs(I:Inv X pins σ H s):∀b o,X.base.get? b=some o->s.heap.get? b=some o/\H b=none:=λb o e=>
 ⟨I.base.keep b o (I.ok.bs b o e).1 (I.ok.bs b o e).2 (I.ok.nofr e) (I.ok.noex b o e),I.base.free b o (I.ok.bs b o e).1 (I.ok.bs b o e).2 (I.ok.noex b o e)⟩
theorem Inv.bk(I:Inv X pins σ H s):∀b o,X.base.get? b=some o->s.heap.get? b=some o:=λb o e=>(I.bs b o e).1
theorem Inv.mod(I:Inv X pins σ H s):Mod X.K X.mg X.base:=I.ok.mod
theorem Inv.kIn(I:Inv X pins σ H s):X.K.In s.heap:=I.ok.mod.kin.keeps I.bk
theorem Inv.lt(I:Inv X pins σ H s):X.env.locals<s.heap.objs.size:=let ⟨_,hn,_⟩:=I.loc;hn.lt
theorem Inv.sz(I:Inv X pins σ H s):X.s₀.heap.objs.size<=s.heap.objs.size:=Xw I.ok.above (Nat.le_of_lt I.lt)
theorem Inv.nofs(I:Inv X pins σ H s){a:Addr}(h:s.heap.objs.size<=a):a∉X.fs:=λhb=>by
 obtain⟨_,o,ho,_⟩:=I.ok.funs.mem hb;exact absurd (Xi (Xd ho) (Xw I.sz h)) (Yd _)
theorem Inv.cne(I:Inv X pins σ H s):∀x c,X.env.cells.lookup x=some c->c≠X.env.locals:=λx c e z=>by
 obtain⟨v,o,ho,hd⟩:=I.cell x c e;obtain⟨m,⟨o',es,ep,ib,ny,_⟩,_⟩:=I.loc;rw[z,ib]at ho;cases ho;rw[ny]at hd;cases hd
theorem Inv.funs(I:Inv X pins σ H s):s.heap.FunFrames X.base X.outer:=by
 have all:∀(l:List Env),(∀b∈frs l,b∈X.fs)->X.s₀.heap.FunFrames X.base l->s.heap.FunFrames X.base l:=by
  intro l
  induction l with
  |nil=>intro _ _;trivial
  |cons env r ih=>
   intro hs hl;obtain⟨hk,⟨L,o,hf,hn,ho,hd⟩,hr⟩:=hl;have hL:L∈X.fs:=hs L (by unfold frs;rw[List.filterMap_cons,hf];exact X3);obtain⟨sl,e⟩:=I.base.slot L o ho (I.ok.frf L hL) hL λz=>I.ok.exfs L z hL
   exact⟨hk,⟨L,_,hf,hn,e,hd⟩,ih (λb hb=>hs b (by unfold frs;rw[List.filterMap_cons,hf];exact lc9 _ hb)) hr⟩
 exact all X.outer (λ_ hb=>hb) I.ok.funs
theorem Inv.stack(I:Inv X pins σ H s):s.heap.FunFrames X.base X.stack:=by
 rcases I.ok.stk with e|⟨e,hf⟩
 ·rw[e];exact I.funs
 ·rw[e];obtain⟨m,hn,_⟩:=I.loc;refine .cons (by rw[I.ok.kind];decide) hf hn ?_ I.funs;exact Heap.get?_none_of_le (Xw I.ok.bsz I.ok.above)
theorem Inv.stkSub(I:Inv X pins σ H s):∀b∈frs X.stack,b∈X.env.locals::X.fs:=λb hb=>by
 rcases I.ok.stk with e|⟨e,hf⟩
 ·rw[e]at hb;exact lc9 _ hb
 ·rw[e]at hb;unfold frs at hb;rw[List.filterMap_cons,hf]at hb;exact hb
theorem Inv.stkFree(I:Inv X pins σ H s):∀b∈frs X.stack,H b=none:=λb hb=>by
 rcases List.mem_cons.mp (I.stkSub b hb)with e|hb
 ·rw[e];exact I.free
 ·obtain⟨_,o,ho,_⟩:=I.ok.funs.mem hb;exact I.base.free b o ho (I.ok.frf b hb) λz=>I.ok.exfs b z hb
theorem Inv.step{g':Array GenState}{t':Nat}{d':Drawn}{ch:List Addr}(I:Inv X pins σ H s)
  (fy:∀b∈ch,(b∈X.ex\/X.s₀.heap.objs.size<=b)/\b≠X.env.locals/\(∀x c,X.env.cells.lookup x=some c->c≠b)/\∀p∈X.pn++pins,p.1≠b)
  (keep:∀b o,b≠X.env.locals->b∉X.fs->b∉ch->s.heap.get? b=some o->H b=none->h'.get? b=some o)
  (slot:∀b o,b≠X.env.locals->b∈X.fs->b∉ch->s.heap.get? b=some o->H b=none->∃sl,h'.get? b=some { o with slots:=sl }) (free:∀b o,b∉ch->s.heap.get? b=some o->H b=none->H' b=none)
  (there:∀b o,b∉ch->s.heap.get? b=some o->∃o',h'.get? b=some o')
  (tups:∀b xs,H b=some (.tup xs)->H' b=some (.tup xs)) (frzs:∀b o u,H b=some (.frz o u)->H' b=some (.frz o u)) (tbls:∀b ps,H b=some (.tbl ps)->∃more,H' b=some (.tbl (ps++more)))
  (ns:∀m,s.heap.Ns X.env.locals m->h'.Ns X.env.locals m) (hok:HOk X.prog X.w H' h') (hg:AllBare g'):
  Inv X pins σ H' { s with heap:=h',gens:=g',drawn:=d',toks:=t' }:=by
 have qd:∀b o,X.s₀.heap.get? b=some o->b≠X.env.locals:=λb o e=>Xq (Xi (Xd e) I.ok.above)
 have mn:∀b o,X.s₀.heap.get? b=some o->b∉X.ex->b∉ch:=λb o e hx hb=>by
  rcases(fy b hb).1 with z|z
  ·exact hx z
  ·exact absurd (Xi (Xd e) z) (Yd _)
 have ik:∀x c,X.env.cells.lookup x=some c->∀v,s.heap.IsCell c v->h'.IsCell c v:=λx c e v ⟨o,ho,hd⟩=>by
  have ld:c∉ch:=λz=>(fy c z).2.2.1 x c e rfl
  by_cases hc:c∈X.fs
  ·obtain⟨sl,q⟩:=slot c o (I.cne x c e) hc ld ho (I.freeC x c e);exact⟨_,q,hd⟩
  ·exact⟨o,keep c o (I.cne x c e) hc ld ho (I.freeC x c e),hd⟩
 refine⟨I.ok,I.os,hg,⟨λb o e n hb hx=>?_,λb o e n hb hx=>?_,λb o e n hx=>?_,λb o e hx=>?_,λb xs e=>tups b xs (I.base.tups b xs e),λb o xs e=>frzs b o xs (I.base.frzs b o xs e),λb ps e=>?_⟩,?_,λx c e=>?_,?_,λx c e=>?_,λp hp=>?_,hok,I.len⟩
 ·exact keep b o (qd b o e) hb (mn b o e hx) (I.base.keep b o e n hb hx) (I.base.free b o e n hx)
 ·obtain⟨sl,e1⟩:=I.base.slot b o e n hb hx;obtain⟨sl',e2⟩:=slot b _ (qd b o e) hb (mn b o e hx) e1 (I.base.free b o e n hx);exact⟨sl',e2⟩
 ·obtain⟨o',e1⟩:=I.base.there b o e hx;exact free b o' (mn b o e hx) e1 (I.base.free b o e n hx)
 ·obtain⟨o',e1⟩:=I.base.there b o e hx;exact there b o' (mn b o e hx) e1
 ·obtain⟨m1,e1⟩:=I.base.tbls b ps e;obtain⟨m2,e2⟩:=tbls b _ e1;exact⟨m1++m2,by rw[e2,Array.append_assoc]⟩
 ·obtain⟨m,hn,hl⟩:=I.loc;refine⟨m,ns m hn,λi x v e1 e2 e3=>?_⟩;obtain⟨u,r,l⟩:=hl i x v e1 e2 e3;refine⟨u,r,?_⟩;rcases l with l|⟨k,c,e,z⟩
  ·exact .inl l
  ·exact .inr ⟨k,c,e,ik x c e _ z⟩
 ·obtain⟨v,z⟩:=I.cell x c e;exact⟨v,ik x c e v z⟩
 ·obtain⟨m,⟨o,_,_,ho,_⟩,_⟩:=I.loc;exact free _ o (λz=>(fy _ z).2.1 rfl) ho I.free
 ·obtain⟨v,o,ho,hd⟩:=I.cell x c e;exact free c o (λz=>(fy c z).2.2.1 x c e rfl) ho (I.freeC x c e)
 ·obtain⟨e,n,ne,nf,d⟩:=I.pin p hp;have ld:p.1∉ch:=λz=>(fy p.1 z).2.2.2 p hp rfl
  exact⟨keep p.1 p.2 ne nf ld e n,free p.1 p.2 ld e n,ne,nf,d⟩
theorem Inv.un{t':Nat}(I:Inv X pins σ H s)(u:Un X.fs [] H H' s.heap h')(hok:HOk X.prog X.w H' h'):Inv X pins σ H' { s with heap:=h',toks:=t' }:=by
 obtain⟨m,⟨o,es,ep,ho,r⟩,_⟩:=id I.loc;obtain⟨sl,hL⟩:=u.any ho I.free (by simp);exact I.step (g':=s.gens) (d':=s.drawn) (ch:=[]) (λ_ z=>nomatch z) (λb o _ hb _ e n=>u.keep b o e n hb (by simp)) (λb o _ hb _ e n=>u.slot b o e n hb (by simp)) (λb o _ e n=>u.free b o e n (by simp)) (λb o _ e=>u.there b o e (by simp)) u.tups u.frzs u.tbls (λm' hm=>by
  obtain⟨o',es',qt,ib,r'⟩:=hm;rw[ho]at ib;cases ib;exact⟨_,es',qt,hL,r'⟩) hok I.bare
theorem Inv.call{g':Array GenState}{t':Nat}{d':Drawn}{ch:List Addr}(I:Inv X pins σ H s)(u:Un (frs X.stack) ch H H' s.heap h')(hok:HOk X.prog X.w H' h')(hg:AllBare g')
  (fy:∀b∈ch,(b∈X.ex\/X.s₀.heap.objs.size<=b)/\b≠X.env.locals/\(∀x c,X.env.cells.lookup x=some c->c≠b)/\∀p∈X.pn++pins,p.1≠b):
  Inv X pins σ H' { s with heap:=h',gens:=g',drawn:=d',toks:=t' }:=by
 obtain⟨m,⟨o,es,ep,ho,r⟩,_⟩:=id I.loc;obtain⟨sl,hL⟩:=u.any ho I.free λz=>(fy _ z).2.1 rfl
 exact I.step (ch:=ch) fy (λb o hL hb hc e n=>u.keep b o e n (λz=>(List.mem_cons.mp (I.stkSub b z)).elim hL hb) hc) (λb o _ _ hc e n=>u.any e n hc) (λb o hc e n=>u.free b o e n hc) (λb o hc e=>u.there b o e hc) u.tups u.frzs u.tbls (λm' hm=>by
  obtain⟨o',es',qt,ib,r'⟩:=hm;rw[ho]at ib;cases ib;exact⟨_,es',qt,hL,r'⟩) hok hg
theorem Inv.turned{t':Nat}{it:Addr}(I:Inv X pins σ H s)(k:∀b o,b≠it->s.heap.get? b=some o->h'.get? b=some o)(hn:H it=none)(hL:it≠X.env.locals)
  (h1:it∈X.ex\/X.s₀.heap.objs.size<=it) (h2:∀x c,X.env.cells.lookup x=some c->c≠it) (h3:∀p∈X.pn++pins,p.1≠it):Inv X pins σ H { s with heap:=h',toks:=t' }:=by
 have se:∀b u,H b=some u->b≠it:=λb u e z=>by rw[z,hn]at e;cases e
 refine I.step (g':=s.gens) (d':=s.drawn) (ch:=[it]) (λb hb=>?_) (λb o _ _ hc e _=>k b o (λz=>hc (by simp[z])) e) (λb o _ _ hc e _=>⟨o.slots,k b o (λz=>hc (by simp[z])) e⟩) (λ_ _ _ _ n=>n)
  (λb o hc e=>⟨o,k b o (λz=>hc (by simp[z])) e⟩) (λ_ _ e=>e) (λ_ _ _ e=>e) (λb ps e=>⟨#[],by rw[e];simp⟩) (λm hm=>?_) (λb u e=>?_) I.bare
 ·have e:b=it:=by simpa using hb
  subst e;exact⟨h1,hL,h2,h3⟩
 ·obtain⟨o,es,ep,ho,r⟩:=hm;exact⟨o,es,ep,k _ o (Ne.symm hL) ho,r⟩
 ·refine(I.hok b u e).stay (λc v hc q=>k c v ?_ q) (λ_ q=>q) λ_ _ q=>q
  rcases hc with z|z
  ·rw[z];exact se b u e
  ·exact se c _ z
theorem Inv.tok(I:Inv X pins σ H s)(t:Nat):Inv X pins σ H { s with toks:=t }:=I.un (h':=s.heap) (t':=t) Un.refl I.hok
theorem Inv.kept{t':Nat}(I:Inv X pins σ H s)(k:∀b u,s.heap.get? b=some u->h'.get? b=some u):Inv X pins σ H { s with heap:=h',toks:=t' }:=I.un (Un.kept k) (I.hok.kept k)
theorem Inv.laid{a:Addr}{o:HO}{t':Nat}(I:Inv X pins σ H s)(k:∀b u,s.heap.get? b=some u->h'.get? b=some u)(hp:s.heap.objs.size<=a)(new:ObjOk X.prog X.w (upd H a o) h' a o):
  Inv X pins σ (upd H a o) { s with heap:=h',toks:=t' }:=I.un (Un.laid k hp (I.hok.fresh hp)) (I.hok.laid k hp new)
theorem Inv.write{x e:Addr}{o:HO}{t':Nat}(I:Inv X pins σ H s)(mu:Mut (H x))(he:e=x\/H e=some (.own x))(k:∀b u,b≠e->s.heap.get? b=some u->h'.get? b=some u)(pi:∃u,h'.get? e=some u)
  (new:ObjOk X.prog X.w (upd H x o) h' x o):Inv X pins σ (upd H x o) { s with heap:=h',toks:=t' }:=I.un (Un.write mu he k pi) (I.hok.write mu he k pi new)
theorem Inv.pins_of{ck:List (Addr×Obj)}(I:Inv X pins σ H s)(h:∀p∈ck,s.heap.get? p.1=some p.2/\H p.1=none/\p.1≠X.env.locals/\p.1∉X.fs/\∀v,p.2.data≠.cell v):Inv X ck σ H s:=
 ⟨I.ok,I.os,I.bare,I.base,I.loc,I.cell,I.free,I.freeC,λp hp=>(List.mem_append.mp hp).elim (λz=>I.pin p (ll9 _ z)) (h p),I.hok,I.len⟩
theorem qk6{N:List Str}(hN:N.Nodup){i j:Nat}{x:Str}(a:N[i]?=some x)(b:N[j]?=some x):i=j:=by
 obtain⟨h1,e1⟩:=List.getElem?_eq_some_iff.mp a;obtain⟨h2,e2⟩:=List.getElem?_eq_some_iff.mp b;exact(List.getElem_inj hN).mp (e1.trans e2.symm)
theorem qvb{M:Model}{A:Around}{E:Value->Shared->Prop}{i:Nat}{x:Str}{v:V}{u:Value}{Q:Unit->Shared->Prop}(I:Inv X pins σ H s)(hN:X.N.Nodup)(hi:X.N[i]?=some x)(hx:Loc X.env.scope x)(r:RelV v u)
  (h:∀s',Inv X pins (σ.set i (some v)) H s'->(∃a,Heap.SameBut a s.heap s'.heap/\(a=X.env.locals\/X.env.cells.lookup x=some a))->Q () s') (hf:autoParam (X.fn x=true\/X.env.scope.names.lookup x=some .local) Ř):wpAny M A (storeName X.env x u) Q E s:=by
 obtain⟨m,hn,hl⟩:=id I.loc;have hcls:(X.env.scope.kind == .class||(X.env.scope.kind == .module&&X.env.locals != X.env.globals))=false:=by rw[I.ok.kind];rfl
 have hiσ:i < σ.length:=by rw[I.len];exact(List.getElem?_eq_some_iff.mp hi).1
 have cne:=I.cne;have jd:∀{a:Addr} {h':Heap},(∃o,s.heap.get? a=some o/\H a=none)->Heap.SameBut a s.heap h'->HOk X.prog X.w H h':=fun {a h'} ha hs b ob e=>by
  obtain⟨_,_,bj⟩:=ha;refine(I.hok b ob e).stay (λc w' hc q=>(hs.2 c ?_).trans q) (λ_ q=>q) λ_ _ q=>q
  rintro rfl;rcases hc with rfl|hc
  ·rw[bj]at e;cases e
  ·rw[bj]at hc;cases hc
 rcases hx with hk|hk
 ·refine wpAny_storeName_local hk hn (λh' hn' hs=>?_) hcls;obtain⟨oL,_,_,rk,_⟩:=id hn;refine h _ ⟨I.ok,I.os,I.bare,⟨λb o e n hb hx=>?_,λb o e n hb hx=>?_,I.base.free,λb o e hx=>?_,I.base.tups,I.base.frzs,I.base.tbls⟩,⟨_,hn',λj y v' e1 e2 e3=>?_⟩,λy c e=>?_,I.free,I.freeC,λp hp=>?_,jd ⟨oL,rk,I.free⟩ hs,by simpa using I.len⟩ ⟨_,hs,.inl rfl⟩
  ·exact(hs.2 b (Xq (Xi (Xd e) I.ok.above))).trans (I.base.keep b o e n hb hx)
  ·obtain⟨sl,e1⟩:=I.base.slot b o e n hb hx;exact⟨sl,(hs.2 b (Xq (Xi (Xd e) I.ok.above))).trans e1⟩
  ·obtain⟨o',e1⟩:=I.base.there b o e hx;exact⟨o',(hs.2 b (Xq (Xi (Xd e) I.ok.above))).trans e1⟩
  ·by_cases hj:j=i
   ·subst hj;rw[hi]at e1;cases e1;rw[Y5 hiσ]at e2;cases e2;exact⟨u,r,.inl ⟨hk,by simp⟩⟩
   ·rw[Xu (Ne.symm hj)]at e2;obtain⟨u',r',q⟩:=hl j y v' e1 e2 e3;refine⟨u',r',?_⟩;rcases q with⟨k,e⟩|⟨k,c,e,z⟩
    ·refine .inl ⟨k,?_⟩;have:y≠x:=λe=>hj (qk6 hN e1 (e▸hi))
     simp[this,e]
    ·exact .inr ⟨k,c,e,z.sameBut hs (cne y c e)⟩
  ·obtain⟨w',z⟩:=I.cell y c e;exact⟨w',z.sameBut hs (cne y c e)⟩
  ·obtain⟨e,n,ne,nf,d⟩:=I.pin p hp;exact⟨(hs.2 p.1 ne).trans e,n,ne,nf,d⟩
 ·have hfn:X.fn x=true:=by
   rcases hf with z|z
   ·exact z
   ·rw[z]at hk;cases hk
  obtain⟨c,hc⟩:=I.ok.has x (.inl hk);obtain⟨w',z⟩:=I.cell x c hc;refine wpAny_storeName_cell I.ok.kind hk hc z (λh' oz hs=>?_);obtain⟨oc,hoc,hocd⟩:=id z;refine h { s with heap:=h' } ⟨I.ok,I.os,I.bare,⟨λb o e n hb hx=>?_,λb o e n hb hx=>?_,I.base.free,λb o e hx=>?_,I.base.tups,I.base.frzs,I.base.tbls⟩,⟨m,hn.sameBut hs (Ne.symm (cne x c hc)),λj y v' e1 e2 e3=>?_⟩,λy c' e=>?_,I.free,I.freeC,λp hp=>?_,jd ⟨oc,hoc,I.freeC x c hc⟩ hs,by simpa using I.len⟩ ⟨c,hs,.inr hc⟩
  ·exact(hs.2 b (Xq (Xi (Xd e) (I.ok.cab x c hfn hc)))).trans (I.base.keep b o e n hb hx)
  ·obtain⟨sl,e1⟩:=I.base.slot b o e n hb hx;exact⟨sl,(hs.2 b (Xq (Xi (Xd e) (I.ok.cab x c hfn hc)))).trans e1⟩
  ·obtain⟨o',e1⟩:=I.base.there b o e hx;exact⟨o',(hs.2 b (Xq (Xi (Xd e) (I.ok.cab x c hfn hc)))).trans e1⟩
  ·by_cases hj:j=i
   ·subst hj;rw[hi]at e1;cases e1;rw[Y5 hiσ]at e2;cases e2;exact⟨u,r,.inr ⟨.inl hk,c,hc,oz⟩⟩
   ·rw[Xu (Ne.symm hj)]at e2;obtain⟨u',r',q⟩:=hl j y v' e1 e2 e3;refine⟨u',r',?_⟩;rcases q with q|⟨k,c',e,z'⟩
    ·exact .inl q
    ·refine .inr ⟨k,c',e,z'.sameBut hs ?_⟩;rintro rfl;exact hj (qk6 hN e1 (I.ok.inj _ _ _ e hc▸hi))
  ·by_cases ba:c'=c
   ·subst ba;exact⟨_,oz⟩
   ·obtain⟨w2,z2⟩:=I.cell y c' e;exact⟨w2,z2.sameBut hs ba⟩
  ·obtain⟨e,n,ne,nf,d⟩:=I.pin p hp;refine⟨(hs.2 p.1 ?_).trans e,n,ne,nf,d⟩;intro q;rw[q,hoc]at e;have q':oc=p.2:=oq9 e;exact d w' (by rw[<-q'];exact hocd)
theorem kvi{M:Model}{A:Around}{E:Value->Shared->Prop}{i:Nat}{x:Str}{v:V}{u:Value}{Q:Unit->Shared->Prop}(I:Inv X pins σ H s)(hN:X.N.Nodup)(hi:X.N[i]?=some x)(hx:Loc X.env.scope x)(r:RelV v u)
  (h:∀s',Inv X pins (σ.set i (some v)) H s'->Q () s') (hf:autoParam (X.fn x=true\/X.env.scope.names.lookup x=some .local) Ř):wpAny M A (storeName X.env x u) Q E s:=
 qvb I hN hi hx r (λs' I' _=>h s' I') hf
theorem Inv.call'{s':Shared}{ch:List Addr}(I:Inv X pins σ H s)(ho:s'.os=s.os)(u:Un (frs X.stack) ch H H' s.heap s'.heap)(hok:HOk X.prog X.w H' s'.heap)(hg:AllBare s'.gens)
  (fy:∀b∈ch,(b∈X.ex\/X.s₀.heap.objs.size<=b)/\b≠X.env.locals/\(∀x c,X.env.cells.lookup x=some c->c≠b)/\∀p∈X.pn++pins,p.1≠b):Inv X pins σ H' s':=by
 obtain⟨h',g',d',t',o'⟩:=s';have e:o'=s.os:=ho;subst e;exact I.call (g':=g') (t':=t') (d':=d') u hok hg fy
end
abbrev XK:=Value->Option Addr->Hp->Prop
abbrev St:=List (Option V)
abbrev VK:=V->Hp->Prop
abbrev TE:=St->Hp->VK->Prop
abbrev TT:=St->Hp->(Bool->Hp->Prop)->Prop
abbrev TA:=St->Hp->(List V->Hp->Prop)->Prop
structure Ends where
 nx:St->Hp->Prop
 rt:VK
 bk:St->Hp->Prop:=λ_ _=>False
 ct:St->Hp->Prop:=λ_ _=>False
abbrev TS:=Ends->St->Hp->Prop
noncomputable def EP(X:Cx)(pins:List (Addr×Obj))(σ:St)(Q:VK)(u:Value)(s':Shared):Prop:=∃v H',Inv X pins σ H' s'/\RelV v u/\Q v H'
noncomputable def TP(X:Cx)(pins:List (Addr×Obj))(σ:St)(Q:Bool->Hp->Prop)(b:Bool)(s':Shared):Prop:=∃H',Inv X pins σ H' s'/\Q b H'
noncomputable def AP(X:Cx)(pins:List (Addr×Obj))(σ:St)(Q:List V->Hp->Prop)(us:List Value)(s':Shared):Prop:=∃vs H',Inv X pins σ H' s'/\Vals vs us/\Q vs H'
noncomputable def SP(X:Cx)(pins:List (Addr×Obj))(D:Ends)(f:Flow)(s':Shared):Prop:=
 match f with
 |.next=>∃ σ' H',Inv X pins σ' H' s'/\D.nx σ' H'
 |.brk=>∃ σ' H',Inv X pins σ' H' s'/\D.bk σ' H'
 |.cont=>∃ σ' H',Inv X pins σ' H' s'/\D.ct σ' H'
 |.ret u=>∃v σ' H',Inv X pins σ' H' s'/\RelV v u/\D.rt v H'
noncomputable def PE(X:Cx)(e:Expr)(t:TE):Prop:=
 ∀(pins:List (Addr×Obj)) (s:Shared) (σ:St) (H:Hp) (Q:VK),Inv X pins σ H s->t σ H Q->wpAny (model X.prog X.w) X.A (eval e X.env) (EP X pins σ Q) X.xe s
noncomputable def PT(X:Cx)(e:Expr)(t:TT):Prop:=
 ∀(pins:List (Addr×Obj)) (s:Shared) (σ:St) (H:Hp) (Q:Bool->Hp->Prop),Inv X pins σ H s->t σ H Q->wpAny (model X.prog X.w) X.A (isTrue e X.env (eval e X.env)) (TP X pins σ Q) X.xe s
noncomputable def PW(X:Cx)(e:Expr)(t:TT):Prop:=
 ∀(gc:Sem Value) (pins:List (Addr×Obj)) (s:Shared) (σ:St) (H:Hp) (Q:Bool->Hp->Prop),Inv X pins σ H s->t σ H Q->wpAny (model X.prog X.w) X.A (isTrue e X.env gc) (TP X pins σ Q) X.xe s
theorem PW.pt{X:Cx}{e:Expr}{t:TT}(h:PW X e t):PT X e t:=h _
noncomputable def PA(X:Cx)(es:List Expr)(t:TA):Prop:=
 ∀(pos:Pos) (pins:List (Addr×Obj)) (s:Shared) (σ:St) (H:Hp) (Q:List V->Hp->Prop),Inv X pins σ H s->t σ H Q->wpAny (model X.prog X.w) X.A (spliced (backTo pos (starEach es X.env))) (AP X pins σ Q) X.xe s
noncomputable def PS(X:Cx)(st:Stmt)(t:TS):Prop:=
 ∀(pins:List (Addr×Obj)) (s:Shared) (σ:St) (H:Hp) (D:Ends),Inv X pins σ H s->t D σ H->wpAny (model X.prog X.w) X.A (exec st X.env) (SP X pins D) X.xe s
noncomputable def PSs(X:Cx)(st:List Stmt)(t:TS):Prop:=
 ∀(pins:List (Addr×Obj)) (s:Shared) (σ:St) (H:Hp) (D:Ends),Inv X pins σ H s->t D σ H->wpAny (model X.prog X.w) X.A (execs st X.env) (SP X pins D) X.xe s
theorem thn{α:Type}{t:Sem α}{Q Q':α->Shared->Prop}{M:Model}{A:Around}{E:Value->Shared->Prop}{s:Shared}(h:wpAny M A t Q E s)(hQ:∀a s,Q a s->Q' a s):wpAny M A t Q' E s:=wpAny_mono h hQ λ_ _ x=>x
section
variable {X:Cx}
abbrev J8(i:Nat):TE:=fun σ H Q=>∃v,σ[i]?=some (some v)/\Q v H
abbrev tC(v:V):TE:=λ_ H Q=>Q v H
theorem vzs{i:Nat}{x:Str}{pos:Pos}(hN:X.N[i]?=some x)(hv:Vis X.env.scope x)(hd:autoParam ((x==("__debug__":Str))=false) ŕ)(il:autoParam ((x==("__classdict__":Str))=false) ŕ):PE X (.Name x pos) (J8 i):=by
 intro pins s σ H Q I h;obtain⟨v,e,h⟩:=h;obtain⟨m,hn,hl⟩:=I.loc;obtain⟨u,r,l⟩:=hl i x v hN e hv;have fin:EP X pins σ Q u s:=⟨v,H,I,r,h⟩;rcases l with⟨hk,hm⟩|⟨hk,c,hc,hcell⟩
 ·exact wpAny_Name (wpAny_loadName_local I.ok.kind hk hn hm fin) hd
 ·rcases hk with hk|hk
  ·exact wpAny_Name (wpAny_loadName_cell I.ok.kind hk hc hcell fin) hd
  ·exact wpAny_Name (wpAny_loadName_free I.ok.kind hk hc hcell fin il) hd
theorem qk1{i j pos}:PE X (.Constant (.int i) j pos) (tC (.int i)):=λ_ _ _ H _ I h=>wpAny_Constant_int ⟨.int i,H,I.tok _,⟨_,rfl⟩,h⟩
theorem vx{b j pos}:PE X (.Constant (.bool b) j pos) (tC (.bl b)):=λ_ _ _ H _ I h=>Constant_bool ⟨.bl b,H,I,rfl,h⟩
theorem vzv{j pos}:PE X (.Constant .none j pos) (tC .non):=λ_ _ _ H _ I h=>Constant_none ⟨.non,H,I,rfl,h⟩
theorem zJ{x j pos}:PE X (.Constant (.str x) j pos) (tC (.str x)):=λ_ _ _ H _ I h=>Calls.Constant_str ⟨.str x,H,I.tok _,⟨_,rfl⟩,h⟩
def Gl(X:Cx)(x:Str):Prop:=X.env.kindOf x=some .globalImplicit
theorem qwx{E:Value->Shared->Prop}{pins:List (Addr×Obj)}{s:Shared}{σ:St}{H:Hp}{x:Str}{u:Value}{pos:Pos}{Q:Value->Shared->Prop}(I:Inv X pins σ H s)(hg:Gl X x)(hm:X.mg x=some u)(h:Q u s)
  (hd:autoParam ((x==("__debug__":Str))=false) ŕ):wpAny (model X.prog X.w) X.A (eval (.Name x pos) X.env) Q E s:=
 Calls.Name_function_global I.ok.kind hg (Calls.loadGlobal_global (by rw[I.ok.glob];exact I.mod.glob.keeps I.bk) hm h) hd
theorem V4{E:Value->Shared->Prop}{pins:List (Addr×Obj)}{s:Shared}{σ:St}{H:Hp}{x:Str}{u:Value}{pos:Pos}{Q:Value->Shared->Prop}(I:Inv X pins σ H s)(hg:Gl X x)(hm:X.mg x=none)(hv:bootBuiltins x=some u)(h:Q u s)
  (hn:autoParam (x≠"__name__") ŕ) (hd:autoParam ((x==("__debug__":Str))=false) ŕ):wpAny (model X.prog X.w) X.A (eval (.Name x pos) X.env) Q E s:=by
 obtain⟨mb,h1,h2⟩:=I.mod.blt;exact Calls.Name_function_global I.ok.kind hg (Calls.loadGlobal_builtin (by rw[I.ok.glob];exact I.mod.glob.keeps I.bk) hm (by rw[I.ok.blt];exact h1.keeps I.bk) ((h2 x hn).trans hv) h) hd
theorem vvk{x:Str}{v:V}{u:Value}{pos:Pos}(hg:Gl X x)(hm:X.mg x=some u)(r:RelV v u)(hd:autoParam ((x==("__debug__":Str))=false) ŕ):PE X (.Name x pos) (tC v):=
 λ_ _ _ H _ I h=>qwx I hg hm ⟨v,H,I,r,h⟩ hd
theorem vvn{x:Str}{v:V}{u:Value}{pos:Pos}(hg:Gl X x)(hm:X.mg x=none)(hv:bootBuiltins x=some u)(r:RelV v u)(hn:autoParam (x≠"__name__") ŕ)(hd:autoParam ((x==("__debug__":Str))=false) ŕ):PE X (.Name x pos) (tC v):=
 λ_ _ _ H _ I h=>V4 I hg hm hv ⟨v,H,I,r,h⟩ hn hd
variable {a b:Expr}{ta tb:TE}{pos:Pos}
variable {tA tB':TT}{j9:List Expr}
abbrev tAnd(t u:TT):TT:=fun σ H Q=>t σ H λc H1=>if c=true then u σ H1 Q else Q false H1
abbrev tOr(t u:TT):TT:=fun σ H Q=>t σ H λc H1=>if c=true then Q true H1 else u σ H1 Q
abbrev tNot(t:TT):TT:=fun σ H Q=>t σ H λc H1=>Q (!c) H1
theorem vva(ha:PT X a tA):PW X (.BoolOp .And [a] pos) tA:=by
 intro wh pins s σ H Q I h;refine isTrue_and (thn (ha pins s σ H Q I h) λc s1 e=>?_);cases c with
 |true=>exact isTrue_and_nil e
 |false=>exact e
theorem vzj(ha:PT X a tA):PW X (.BoolOp .Or [a] pos) tA:=by
 intro wh pins s σ H Q I h;refine isTrue_or (thn (ha pins s σ H Q I h) λc s1 e=>?_);cases c with
 |false=>exact isTrue_or_nil e
 |true=>exact e
theorem vzk(ha:PT X a tA)(hb:PW X (.BoolOp .And (b::j9) pos) tB'):PW X (.BoolOp .And (a::b::j9) pos) (tAnd tA tB'):=by
 intro wh pins s σ H Q I h;refine isTrue_and (thn (ha pins s σ H _ I h) λc s1 ⟨H1,I1,q1⟩=>?_);cases c with
 |true=>exact hb wh pins s1 σ H1 Q I1 q1
 |false=>exact⟨H1,I1,q1⟩
theorem wva(ha:PT X a tA)(hb:PW X (.BoolOp .Or (b::j9) pos) tB'):PW X (.BoolOp .Or (a::b::j9) pos) (tOr tA tB'):=by
 intro wh pins s σ H Q I h;refine isTrue_or (thn (ha pins s σ H _ I h) λc s1 ⟨H1,I1,q1⟩=>?_);cases c with
 |true=>exact⟨H1,I1,q1⟩
 |false=>exact hb wh pins s1 σ H1 Q I1 q1
theorem vzl(ha:PT X a tA):PT X (.UnaryOp .Not a pos) (tNot tA):=by
 intro pins s σ H Q I h;exact isTrue_not (ha pins s σ H (λc H1=>Q (!c) H1) I h)
abbrev wql(ta tb:TE):TE:=fun σ H Q=>ta σ H λx H1=>∃c,x=.bl c/\if c=true then tb σ H1 Q else Q (.bl false) H1
abbrev tOrV(ta tb:TE):TE:=fun σ H Q=>ta σ H λx H1=>∃c,x=.bl c/\if c=true then Q (.bl true) H1 else tb σ H1 Q
theorem vzu{op}{t:TE}(h:PE X a t):PE X (.BoolOp op [a] pos) t:=λpins s σ H Q I hw=>BoolOp_one (h pins s σ H Q I hw)
theorem wj1(ha:PE X a ta)(hb:PE X (.BoolOp .And (b::j9) pos) tb):PE X (.BoolOp .And (a::b::j9) pos) (wql ta tb):=by
 intro pins s σ H Q I h;refine BoolOp_and (thn (ha pins s σ H _ I h) λv s1 ⟨x,H1,I1,r1,q1⟩=>?_);obtain⟨c,rfl,q1⟩:=q1;cases r1;refine Ym ?_;cases c with
 |true=>exact hb pins s1 σ H1 Q I1 q1
 |false=>exact⟨.bl false,H1,I1,rfl,q1⟩
theorem wvd(ha:PE X a ta)(hb:PE X (.BoolOp .Or (b::j9) pos) tb):PE X (.BoolOp .Or (a::b::j9) pos) (tOrV ta tb):=by
 intro pins s σ H Q I h;refine BoolOp_or (thn (ha pins s σ H _ I h) λv s1 ⟨x,H1,I1,r1,q1⟩=>?_);obtain⟨c,rfl,q1⟩:=q1;cases r1;refine Ym ?_;cases c with
 |false=>exact hb pins s1 σ H1 Q I1 q1
 |true=>exact⟨.bl true,H1,I1,rfl,q1⟩
abbrev tIf(t:TT)(ta tb:TE):TE:=fun σ H Q=>t σ H λc H1=>if c=true then ta σ H1 Q else tb σ H1 Q
theorem vj8{c:Expr}(hc:PT X c tA)(ha:PE X a ta)(hb:PE X b tb):PE X (.IfExp c a b pos) (tIf tA ta tb):=by
 intro pins s σ H Q I h;refine wpAny_IfExp (thn (hc pins s σ H _ I h) λd s1 ⟨H1,I1,q1⟩=>?_);cases d with
 |true=>exact ha pins s1 σ H1 Q I1 q1
 |false=>exact hb pins s1 σ H1 Q I1 q1
end
noncomputable def SqL(K:PySem.W.Frag)(H:Hp)(a:Addr)(xs:List V):Prop:=
 Rd H a (.lst xs) \/
  ∃(o:Obj) (aa:Array Value) (n:Nat),K.lookup a=some o/\o.cls=.type "list"/\o.dict=none/\o.data=.seq aa n/\aa.size<=sizeLine/\Vals xs aa.toList
noncomputable def SqT(K:PySem.W.Frag)(H:Hp)(a:Addr)(xs:List V):Prop:=
 Rd H a (.tup xs) \/
  ∃(o:Obj) (aa:Array Value) (n:Nat),K.lookup a=some o/\o.cls=.type "tuple"/\o.dict=none/\o.data=.seq aa n/\aa.size<=sizeLine/\Vals xs aa.toList
noncomputable def absV:Value->Option V
 |.none=>some .non
 |.bool b=>some (.bl b)
 |.int i _=>some (.int i)
 |.str x _=>some (.str x)
 |.bytes b _=>some (.byt b)
 |.float b _=>some (.flt b)
 |.ref a=>some (.ref a)
 |.type n=>some (.ty n)
 |_=>none
theorem RelV.abs{x:V}{u:Value}(r:RelV x u):absV u=some x:=by
 cases x with
 |non=>cases r;rfl
 |bl _=>cases r;rfl
 |int _=>obtain⟨t,rfl⟩:=r;rfl
 |str _=>obtain⟨t,rfl⟩:=r;rfl
 |byt _=>obtain⟨t,rfl⟩:=r;rfl
 |flt _=>obtain⟨t,rfl⟩:=r;rfl
 |ref _=>cases r;rfl
 |ty _=>cases r;rfl
theorem RelV.inj{x y:V}{u:Value}(r:RelV x u)(q:RelV y u):x=y:=oq9 (r.abs.symm.trans q.abs)
theorem Vals.inj:∀{xs ys:List V} {us:List Value},Vals xs us->Vals ys us->xs=ys
 |_,_,_,.nil,.nil=>rfl
 |_,_,_,.cons r t,.cons r' t'=>by rw[r.inj r',Vals.inj t t']
section
variable {X:Cx}{pins:List (Addr×Obj)}{σ:St}{H:Hp}{s:Shared}{a:Addr}{xs ys:List V}
theorem SqL.of{K:PySem.W.Frag}(h:H a=some (.lst xs)):SqL K H a xs:=.inl (.inl h)
theorem SqT.of{K:PySem.W.Frag}(h:H a=some (.tup xs)):SqT K H a xs:=.inl (.inl h)
theorem Inv.list(I:Inv X pins σ H s)(h:SqL X.K H a xs):∃aa:List Value,Vals xs aa/\PlainL s.heap a aa.toArray/\xs.length<=sizeLine:=by
 rcases h with h|⟨o,aa,n,hk,hc,hd,hs,hz,r⟩
 ·obtain⟨z,aa,n,r,e⟩:=h.ok I.hok;exact⟨aa,r,⟨_,n,e,rfl,rfl,rfl⟩,z⟩
 ·refine⟨aa.toList,r,⟨o,n,I.kIn a o hk,hc,hd,by simpa using hs⟩,?_⟩;have e:=r.length;simp only[Xa]at e;omega
theorem Inv.tuple(I:Inv X pins σ H s)(h:SqT X.K H a xs):∃aa:List Value,Vals xs aa/\IsTup s.heap a aa.toArray/\xs.length<=sizeLine:=by
 rcases h with h|⟨o,aa,n,hk,hc,_,hs,hz,r⟩
 ·obtain⟨z,aa,r,p⟩:=h.ok I.hok;exact⟨aa,r,p.tup,z⟩
 ·refine⟨aa.toList,r,⟨o,I.kIn a o hk,hc,n,by simpa using hs⟩,?_⟩;have e:=r.length;simp only[Xa]at e;omega
theorem Inv.list_inj(I:Inv X pins σ H s)(h:SqL X.K H a xs)(h':SqL X.K H a ys):xs=ys:=by
 obtain⟨aa,r,⟨o,n,e,_,_,d⟩,_⟩:=I.list h;obtain⟨its',r',⟨o',n',e',_,_,d'⟩,_⟩:=I.list h';rw[e]at e';cases e';rw[d]at d';injection d' with d1 _;have:aa=its':=by simpa using congrArg Array.toList d1
 subst this;exact r.inj r'
theorem Inv.tuple_inj(I:Inv X pins σ H s)(h:SqT X.K H a xs)(h':SqT X.K H a ys):xs=ys:=by
 obtain⟨aa,r,⟨o,e,_,n,d⟩,_⟩:=I.tuple h;obtain⟨its',r',⟨o',e',_,n',d'⟩,_⟩:=I.tuple h';rw[e]at e';cases e';rw[d]at d';injection d' with d1 _;have:aa=its':=by simpa using congrArg Array.toList d1
 subst this;exact r.inj r'
end
abbrev Cx.wish(X:Cx)(E:Value->Shared->Prop):Cx:={ X with xe:=E }
theorem Cx.Ok.wish{X:Cx}(ok:X.Ok)(E:Value->Shared->Prop):(X.wish E).Ok:=
 ⟨ok.mod,ok.kind,ok.glob,ok.blt,ok.above,ok.inj,ok.has,ok.cab,ok.hd,ok.frames,ok.stk,ok.exf,ok.bs,ok.bsz,ok.noex,ok.exfs,ok.funs,ok.frf⟩
theorem Cx.Ok.unwish{X:Cx}{E:Value->Shared->Prop}(ok:(X.wish E).Ok):X.Ok:=
 ⟨ok.mod,ok.kind,ok.glob,ok.blt,ok.above,ok.inj,ok.has,ok.cab,ok.hd,ok.frames,ok.stk,ok.exf,ok.bs,ok.bsz,ok.noex,ok.exfs,ok.funs,ok.frf⟩
section
variable {X:Cx}{pins:List (Addr×Obj)}{σ:St}{H:Hp}{s:Shared}{E:Value->Shared->Prop}
theorem Inv.wish(I:Inv X pins σ H s)(E:Value->Shared->Prop):Inv (X.wish E) pins σ H s:=⟨I.ok.wish E,I.os,I.bare,I.base,I.loc,I.cell,I.free,I.freeC,I.pin,I.hok,I.len⟩
theorem Inv.unwish(I:Inv (X.wish E) pins σ H s):Inv X pins σ H s:=⟨I.ok.unwish,I.os,I.bare,I.base,I.loc,I.cell,I.free,I.freeC,I.pin,I.hok,I.len⟩
theorem SP.unwish{D:Ends}{f:Flow}{s':Shared}(h:SP (X.wish E) pins D f s'):SP X pins D f s':=by
 cases f with
 |next=>obtain⟨σ',H',I,q⟩:=h;exact⟨σ',H',I.unwish,q⟩
 |brk=>obtain⟨σ',H',I,q⟩:=h;exact⟨σ',H',I.unwish,q⟩
 |cont=>obtain⟨σ',H',I,q⟩:=h;exact⟨σ',H',I.unwish,q⟩
 |ret u=>obtain⟨v,σ',H',I,r,q⟩:=h;exact⟨v,σ',H',I.unwish,r,q⟩
end
section
variable {X:Cx}{st:Stmt}{j9:List Stmt}{t u:TS}{e:Expr}{te:TE}{pos:Pos}
abbrev wqj:TS:=λD σ H=>D.nx σ H
abbrev tSeq(t u:TS):TS:=λD σ H=>t { D with nx:=u D } σ H
theorem vve:PSs X [] wqj:=λ_ _ σ H _ I h=>wpAny_execs_nil ⟨σ,H,I,h⟩
theorem vj4(h1:PS X st t)(h2:PSs X j9 u):PSs X (st::j9) (tSeq t u):=by
 intro pins s σ H D I h;refine wpAny_execs_cons (thn (h1 pins s σ H { D with nx:=u D } I h) λf s1 q=>?_);cases f with
 |next=>
  obtain⟨σ',H',I',q⟩:=q;exact h2 pins s1 σ' H' D I' q
 |ret v=>exact q
 |brk=>exact q
 |cont=>exact q
theorem qw6(h1:PS X st t):PSs X [st] t:=by
 intro pins s σ H D I h;refine wpAny_execs_cons (thn (h1 pins s σ H D I h) λf s1 q=>?_);cases f with
 |next=>exact wpAny_execs_nil q
 |ret v=>exact q
 |brk=>exact q
 |cont=>exact q
theorem Inv.quiet{pins:List (Addr×Obj)}{σ:St}{H:Hp}{s:Shared}(I:Inv X pins σ H s):interactive X.env=false:=by simp[interactive,I.ok.kind]
abbrev wqk(te:TE):TS:=λD σ H=>te σ H λ_ H1=>D.nx σ H1
theorem Zq(he:PE X e te)(hs:autoParam (swapsWith e none pos.line X.env=pure false) Ŕ):PS X (.Expr e pos) (wqk te):=by
 intro pins s σ H D I h;exact wpAny_Expr_any (thn (he pins s σ H _ I h) λv s1 ⟨x,H1,I1,r1,q1⟩=>⟨σ,H1,I1,q1⟩) I.quiet hs
abbrev tRet(te:TE):TS:=λD σ H=>te σ H D.rt
theorem vzn(he:PE X e te):PS X (.Return (some e) pos) (tRet te):=by
 intro pins s σ H D I h;exact wpAny_Return_some (thn (he pins s σ H _ I h) λv s1 ⟨x,H1,I1,r1,q1⟩=>⟨x,σ,H1,I1,r1,q1⟩)
abbrev tIfS(c:TT)(t u:TS):TS:=λD σ H=>c σ H λb H1=>if b=true then t D σ H1 else u D σ H1
theorem wvb{c:Expr}{a b:List Stmt}{tc:TT}(hc:PT X c tc)(ha:PSs X a t)(hb:PSs X b u):PS X (.If c a b pos) (tIfS tc t u):=by
 intro pins s σ H D I h;refine wpAny_If (thn (hc pins s σ H _ I h) λd s1 ⟨H1,I1,q1⟩=>?_);cases d with
 |true=>exact ha pins s1 σ H1 D I1 q1
 |false=>exact hb pins s1 σ H1 D I1 q1
end
abbrev TG:=V->St->Hp->(St->Hp->Prop)->Prop
abbrev TGs:=List V->St->Hp->(St->Hp->Prop)->Prop
noncomputable def PG(X:Cx)(fc:Expr)(t:TG):Prop:=
 ∀(pins:List (Addr×Obj)) (s:Shared) (σ:St) (H:Hp) (v:V) (u:Value) (Q:St->Hp->Prop),Inv X pins σ H s->RelV v u->t v σ H Q ->
  wpAny (model X.prog X.w) X.A (assign fc X.env u) (λ_ s'=>∃ σ' H',Inv X pins σ' H' s'/\Q σ' H') X.xe s
noncomputable def PGs(X:Cx)(ts:List Expr)(t:TGs):Prop:=
 ∀(pins:List (Addr×Obj)) (s:Shared) (σ:St) (H:Hp) (vs:List V) (us:List Value) (Q:St->Hp->Prop),Inv X pins σ H s->Vals vs us->t vs σ H Q ->
  wpAny (model X.prog X.w) X.A (assignInOrder ((assignEach ts X.env).map (·.2)) us) (λ_ s'=>∃ σ' H',Inv X pins σ' H' s'/\Q σ' H') X.xe s
section
variable {X:Cx}{pos:Pos}
abbrev qxf(i:Nat):TG:=λv σ H Q=>Q (σ.set i (some v)) H
theorem W7{i:Nat}{x:Str}(hN:X.N.Nodup)(hi:X.N[i]?=some x)(hx:Loc X.env.scope x)(hf:autoParam (X.fn x=true\/X.env.scope.names.lookup x=some .local) Ř):PG X (.Name x pos) (qxf i):=by
 intro pins s σ H v u Q I r h;exact wpAny_assign_Name (kvi I hN hi hx r (λs' I'=>⟨_,H,I',h⟩) hf)
abbrev wx9:TGs:=λvs σ H Q=>vs=[]/\Q σ H
abbrev wk9(t:TG)(u:TGs):TGs:=λvs σ H Q=>∃v r,vs=v::r/\t v σ H fun σ' H'=>u r σ' H' Q
theorem V8:PGs X [] wx9:=by
 intro pins s σ H vs us Q I r h;obtain⟨e,h⟩:=h;subst e;cases r;exact assignInOrder_nil ⟨σ,H,I,h⟩
theorem wK{e:Expr}{es:List Expr}{t:TG}{u:TGs}(h1:PG X e t)(h2:PGs X es u)
  (hs:autoParam ((assignEach (e::es) X.env).map (·.2)=assign e X.env::(assignEach es X.env).map (·.2)) Ŕ):PGs X (e::es) (wk9 t u):=by
 intro pins s σ H vs us Q I r h;obtain⟨v,vr,e1,h⟩:=h;subst e1;cases r with
 |cons r rr=>
  rw[hs];refine assignInOrder_cons (thn (h1 pins s σ H _ _ _ I r h) λ_ s1 ⟨σ1,H1,I1,q1⟩=>?_);exact h2 pins s1 σ1 H1 _ _ Q I1 rr q1
abbrev tAsg(te:TE)(g:TG):TS:=λD σ H=>te σ H λx H1=>g x σ H1 D.nx
theorem vzm{i:Nat}{x:Str}{e:Expr}{te:TE}{d9:Pos}(hN:X.N.Nodup)(hi:X.N[i]?=some x)(hx:Loc X.env.scope x)(he:PE X e te)(hs:autoParam (swapsWith e (some (.Name x d9)) pos.line X.env=pure false) Ŕ)(hf:autoParam (X.fn x=true\/X.env.scope.names.lookup x=some .local) Ř):
  PS X (.Assign [.Name x d9] e pos) (tAsg te (qxf i)):=by
 intro pins s σ H D I h;refine wpAny_Assign_Name (thn (he pins s σ H _ I h) λv s1 ⟨y,H1,I1,r1,q1⟩=>?_) hs;exact kvi I1 hN hi hx r1 (λs2 I2=>⟨_,H1,I2,q1⟩) hf
end
structure It where
 go:Nat->Hp->Prop
 yld:Nat->Hp->V->Hp->Prop
 stop:Nat->Hp->Prop
noncomputable def vJ(X:Cx)(pins:List (Addr×Obj))(H:Hp)(b:Addr):Prop:=
 H b=none/\b≠X.env.locals/\b∉X.fs/\(b∈X.ex\/X.s₀.heap.objs.size<=b)/\(∀x c,X.env.cells.lookup x=some c->c≠b)/\∀p∈X.pn++pins,p.1≠b
theorem Inv.fpOk{X:Cx}{pins:List (Addr×Obj)}{σ:St}{H H':Hp}{s:Shared}{b:Addr}(I:Inv X pins σ H s)(hb:s.heap.objs.size<=b)(hn:H' b=none):vJ X pins H' b:=by
 refine⟨hn,Nat.ne_of_gt (Xi I.lt hb),I.nofs hb,.inr (Xw I.sz hb),λx c e z=>?_,λp hp z=>?_⟩
 ·obtain⟨v,q⟩:=I.cell x c e;exact absurd (Xi q.lt (by rw[z];exact hb)) (Yd _)
 ·exact absurd (Xi (Xd (I.pin p hp).1) (by rw[z];exact hb)) (Yd _)
structure Turn (P:Program)(w:World)(K:PySem.W.Frag)(tg:Expr)(J:It)(fp:List Addr)(it:Addr)(tn:Nat->Heap->Prop):Prop where
 mem:it∈fp
 obj:∀i h,tn i h->∀b∈fp,∃o,h.get? b=some o/\∀v,o.data≠.cell v
 keep:∀i h h',tn i h->(∀b∈fp,∀o,h.get? b=some o->h'.get? b=some o)->tn i h'
 item:∀(X:Cx),X.prog=P->X.w=w->X.K=K->X.calm=true->∀(i:Nat) (pins:List (Addr×Obj)) (s:Shared) (σ:St) (H:Hp) (E:Value->Shared->Prop),Inv X pins σ H s->(∀b∈fp,vJ X pins H b)->tn i s.heap->J.go i H ->
  wpAny (model P w) X.A (pyNext (.ref it)) (λr s1=>∃u,r=some u /\
   wpAny (model P w) X.A (letOwnedTupleGo tg (.ref it) u) (λ_ s2=>∃x H',Inv X pins σ H' s2/\RelV x u/\J.yld i H x H'/\tn (i+1) s2.heap/\∀b∈fp,H' b=none) E s1) E s
 done:∀(X:Cx),X.prog=P->X.w=w->X.K=K->X.calm=true->∀(i:Nat) (pins:List (Addr×Obj)) (s:Shared) (σ:St) (H:Hp) (E:Value->Shared->Prop),Inv X pins σ H s->(∀b∈fp,vJ X pins H b)->tn i s.heap->J.stop i H ->
  wpAny (model P w) X.A (pyNext (.ref it)) (λr s1=>r=none/\Inv X pins σ H s1) E s
 self:∀(A:Around) (i:Nat) (s:Shared) (Q:Value->Shared->Prop) (E:Value->Shared->Prop),tn i s.heap->Q (.ref it) s->wpAny (model P w) A (pyIter (.ref it)) Q E s
abbrev TI:=St->Hp->(It->Hp->Prop)->Prop
noncomputable def PIE(X:Cx)(pins:List (Addr×Obj))(σ:St)(tg:Expr)(R:It->Hp->Prop)(itv:Value)(s2:Shared):Prop:=
 ∃(it:Addr) (fp:List Addr) (tn:Nat->Heap->Prop) (J:It) (H':Hp),itv=.ref it/\Inv X pins σ H' s2/\Turn X.prog X.w X.K tg J fp it tn/\tn 0 s2.heap/\(∀b∈fp,vJ X pins H' b)/\R J H'
noncomputable def PI(X:Cx)(tg av:Expr)(wi:TI):Prop:=
 ∀(pins:List (Addr×Obj)) (s:Shared) (σ:St) (H:Hp) (R:It->Hp->Prop),Inv X pins σ H s->wi σ H R ->
  wpAny (model X.prog X.w) X.A (eval av X.env) (λv s1=>wpAny (model X.prog X.w) X.A (pyIter v) (PIE X pins σ tg R) X.xe s1) X.xe s
theorem vjp {M : Model} {A : Around} {E : Value -> Shared -> Prop} {s : Shared} {tg : Expr} {it : Addr} {u : Value} {o : Obj} {n : String} {vs : Array Value} {Q : Unit -> Shared -> Prop} (ho : s.heap.get? it = some o) (hc : o.cls = .type n) (hd : o.data = .fields vs)
    (hn : ["enumerate", "zip", "dict_itemiterator", "dict_reverseitemiterator", "odict_iterator", "itertools.zip_longest", "itertools.pairwise"].contains n = false) (hQ : Q () s): wpAny M A (letOwnedTupleGo tg (.ref it) u) Q E s:= by
  unfold letOwnedTupleGo;cases tg <;> first
    |exact X5 hQ
    |(cases u <;> first
        |exact X5 hQ
        | (refine X0 (wpAny_load ho ?_)
           rw[hc, hd];show wpAny M A (if(["enumerate", "zip", "dict_itemiterator", "dict_reverseitemiterator", "odict_iterator", "itertools.zip_longest", "itertools.pairwise"].contains n&&vs[0]? == some (rawInt _)) = true then _ else _) Q E s;rw[Xm (by intro h; rw[hn, Bool.false_and]at h; cases h)];exact X5 hQ))
noncomputable def Itl(K:PySem.W.Frag)(a:Addr):It:=
 ⟨λi H=>∃xs x,SqL K H a xs/\xs[i]?=some x,λi H x H'=>H'=H/\∀xs,SqL K H a xs->xs[i]?=some x,λi H=>∃xs,SqL K H a xs/\xs.length<=i⟩
noncomputable def Itt(K:PySem.W.Frag)(a:Addr):It:=
 ⟨λi H=>∃xs x,SqT K H a xs/\xs[i]?=some x,λi H x H'=>H'=H/\∀xs,SqT K H a xs->xs[i]?=some x,λi H=>∃xs,SqT K H a xs/\xs.length<=i⟩
def Itr(lo:Int)(n:Nat):It:=⟨λi _=>i<n,λi H x H'=>H'=H/\x=.int (lo+i),λi _=>n<=i⟩
theorem kwk{P:Program}{w:World}{K:PySem.W.Frag}{tg:Expr}(a it:Addr):Turn P w K tg (Itl K a) [it] it (λi h=>h.IsListIter it a i) where
 mem:=by simp
 obj:=λi h st b hb=>by
  have e:b=it:=by simpa using hb
  subst e;obtain⟨o,e,c,d⟩:=st;exact⟨o,e,λv z=>by rw[d]at z;cases z⟩
 keep:=λi h h' st k=>st.at λo e=>k it (by simp) o e
 item:=by
  intro X hP hw hK hc i pins s σ H E I hf st hg;subst hP hw hK;obtain⟨xs,x,hq,hx⟩:=hg;obtain⟨aa,rv,p,hz⟩:=I.list hq;obtain⟨u,hu,ru⟩:=rv.get hx;obtain⟨f0,f1,f2,f3,f4,f5⟩:=hf it (by simp);refine wpAny_pyNext_list_item st p.isList (x:=u) (by simpa using hu) λh' ff sb=>?_
  have I1:Inv X pins σ H { s with heap:=h' }:=I.turned (t':=s.toks) (λb o hb e=>(sb.2 b hb).trans e) f0 f1 f3 f4 f5;obtain⟨o,e,c,d⟩:=id ff;exact⟨u,rfl,vjp (s:={ s with heap:=h' }) e c d (by decide) ⟨x,H,I1,ru,⟨rfl,λys hy=>by rw[I.list_inj hy hq];exact hx⟩,ff,λb hb=>(hf b hb).1⟩⟩
 done:=by
  intro X hP hw hK hc i pins s σ H E I hf st hg;subst hP hw hK;obtain⟨xs,hq,hx⟩:=hg;obtain⟨aa,rv,p,hz⟩:=I.list hq;obtain⟨f0,f1,f2,f3,f4,f5⟩:=hf it (by simp);have hl:=rv.length;exact wpAny_pyNext_list_end (I.ok.hd hc) st p.isList (by simp;omega) λh' eb=>⟨rfl,I.turned (t':=s.toks) (λb o hb e=>eb b o hb e) f0 f1 f3 f4 f5⟩
 self:=λ_ _ _ _ _ st h=>wpAny_pyIter_listiter st h
theorem qky{P:Program}{w:World}{K:PySem.W.Frag}{tg:Expr}(a it:Addr):Turn P w K tg (Itt K a) [it] it (λi h=>h.IsTupleIter it a i) where
 mem:=by simp
 obj:=λi h st b hb=>by
  have e:b=it:=by simpa using hb
  subst e;obtain⟨o,e,c,d⟩:=st;exact⟨o,e,λv z=>by rw[d]at z;cases z⟩
 keep:=λi h h' st k=>st.at λo e=>k it (by simp) o e
 item:=by
  intro X hP hw hK hc i pins s σ H E I hf st hg;subst hP hw hK;obtain⟨xs,x,hq,hx⟩:=hg;obtain⟨aa,rv,p,hz⟩:=I.tuple hq;obtain⟨u,hu,ru⟩:=rv.get hx;obtain⟨f0,f1,f2,f3,f4,f5⟩:=hf it (by simp);refine wpAny_pyNext_tuple_item st (show s.heap.IsTuple a aa.toArray from p) (x:=u) (by simpa using hu) λh' ff sb=>?_
  have I1:Inv X pins σ H { s with heap:=h' }:=I.turned (t':=s.toks) (λb o hb e=>(sb.2 b hb).trans e) f0 f1 f3 f4 f5;obtain⟨o,e,c,d⟩:=id ff;exact⟨u,rfl,vjp (s:={ s with heap:=h' }) e c d (by decide) ⟨x,H,I1,ru,⟨rfl,λys hy=>by rw[I.tuple_inj hy hq];exact hx⟩,ff,λb hb=>(hf b hb).1⟩⟩
 done:=by
  intro X hP hw hK hc i pins s σ H E I hf st hg;subst hP hw hK;obtain⟨xs,hq,hx⟩:=hg;obtain⟨aa,rv,p,hz⟩:=I.tuple hq;obtain⟨f0,f1,f2,f3,f4,f5⟩:=hf it (by simp);have hl:=rv.length;exact wpAny_pyNext_tuple_end (I.ok.hd hc) st (show s.heap.IsTuple a aa.toArray from p) (by simp;omega) λh' eb=>⟨rfl,I.turned (t':=s.toks) (λb o hb e=>eb b o hb e) f0 f1 f3 f4 f5⟩
 self:=λ_ _ _ _ _ st h=>wpAny_pyIter_tupleiter st h
theorem qkz{P:Program}{w:World}{K:PySem.W.Frag}{tg:Expr}(it:Addr)(lo:Int)(n:Nat):Turn P w K tg (Itr lo n) [it] it (λi h=>IsRangeIter h it (lo+(i:Nat)*1) ((n:Int) - (i:Nat)) 1) where
 mem:=by simp
 obj:=λi h st b hb=>by
  have e:b=it:=by simpa using hb
  subst e;exact⟨_,st,λv z=>by
   have z':Data.fields _=Data.cell v:=z;cases z'⟩
 keep:=λi h h' st k=>k it (by simp) _ st
 item:=by
  intro X hP hw hK hc i pins s σ H E I hf st hg;subst hP hw hK;obtain⟨f0,f1,f2,f3,f4,f5⟩:=hf it (by simp);have W:=Walks.range (prog:=X.prog) (w:=X.w) (I.ok.hd hc) it lo 1 n;refine W.item i s _ _ hg st λv h' tk hv ff kk=>?_
  obtain⟨t,rfl⟩:=hv;have I1:Inv X pins σ H { s with heap:=h',toks:=tk }:=I.turned (λb o hb e=>kk b o (by simpa using hb) e) f0 f1 f3 f4 f5;refine⟨_,rfl,vjp (s:={ s with heap:=h',toks:=tk }) (n:="range_iterator") ff rfl rfl (by decide) ⟨.int (lo+i),H,I1,⟨t,?_⟩,⟨rfl,rfl⟩,ff,λb hb=>(hf b hb).1⟩⟩;rw[Int.mul_one]
 done:=by
  intro X hP hw hK hc i pins s σ H E I hf st hg;subst hP hw hK;obtain⟨f0,f1,f2,f3,f4,f5⟩:=hf it (by simp);exact wpAny_pyNext_range_end (I.ok.hd hc) st (by have:n<=i:=hg;omega) λh' eb=>⟨rfl,I.turned (t':=s.toks) (λb o hb e=>eb b o hb e) f0 f1 f3 f4 f5⟩
 self:=λ_ _ _ _ _ st h=>wpAny_pyIter_rangeiter st h
section
variable {X:Cx}{tg:Expr}
abbrev wvu(K:PySem.W.Frag)(tl:TE):TI:=fun σ H R=>tl σ H λx H1=>∃a,x=.ref a/\(∃xs,SqL K H1 a xs)/\R (Itl K a) H1
theorem vvi{l:Expr}{tl:TE}(hl:PE X l tl):PI X tg l (wvu X.K tl):=by
 intro pins s σ H R I h;refine thn (hl pins s σ H _ I h) λv s1 ⟨x,H1,I1,r1,q1⟩=>?_
 obtain⟨a,e,⟨xs,hq⟩,q⟩:=q1;subst e;cases r1;obtain⟨aa,rv,p,hz⟩:=I1.list hq;refine Yz p.isList ?_;refine⟨s1.heap.objs.size,[s1.heap.objs.size],_,_,H1,rfl,I1.kept (t':=s1.toks) λb o e=>X1 _ e,kwk a _,⟨_,X8 _ rfl,rfl,rfl⟩,λb hb=>?_,q⟩;have e:b=s1.heap.objs.size:=by simpa using hb
 subst e;exact I1.fpOk (Xe _) (I1.hok.fresh (Xe _))
theorem qzw{pins:List (Addr×Obj)}{σ:St}{H:Hp}{s:Shared}{R:It->Hp->Prop}{E:Value->Shared->Prop}{lo hi:Int}{t u v:Tok}{tk:Nat}(I:Inv X pins σ H s)(h1:-(2 ^ 62)<=lo)(h2:lo<2 ^ 62)(h3:-(2 ^ 62)<=hi)(h4:hi<2 ^ 62)
  (q:R (Itr lo (hi - lo).toNat) H):wpAny (model X.prog X.w) X.A (pyIter (.ref s.heap.objs.size)) (PIE X pins σ tg R) E { s with heap:=s.heap.push { cls:=.type "range",data:=.fields #[.int lo t,.int hi u,.int 1 v] },toks:=tk }:=by
 refine wpAny_pyIter_range (IsRange.new ..) (small_one h1 h2 h3 h4) ?_;have I1:Inv X pins σ H { s with heap:=s.heap.push { cls:=.type "range",data:=.fields #[.int lo t,.int hi u,.int 1 v] },toks:=tk }:=I.kept λb o e=>X1 _ e
 refine⟨(s.heap.push { cls:=.type "range",data:=.fields #[.int lo t,.int hi u,.int 1 v] }).objs.size,[(s.heap.push { cls:=.type "range",data:=.fields #[.int lo t,.int hi u,.int 1 v] }).objs.size],_,_,H,rfl,
  I1.kept (t':=tk) λb o e=>X1 _ e,qkz _ lo (hi - lo).toNat,?_,λb hb=>?_,q⟩
 ·have e1:lo+((0:Nat):Int)*1=lo:=by simp
  have e2:(((hi - lo).toNat:Nat):Int) - ((0:Nat):Int)=Builtin.Range.rangeSize lo hi 1:=by rw[rangeSize_one];split<;>omega
  show IsRangeIter _ _ (lo+((0:Nat):Int)*1) ((((hi - lo).toNat:Nat):Int) - ((0:Nat):Int)) 1;rw[e1,e2];exact X8 _ rfl
 ·have e:b=(s.heap.push { cls:=.type "range",data:=.fields #[.int lo t,.int hi u,.int 1 v] }).objs.size:=by simpa using hb
  subst e;exact I1.fpOk (Xe _) (I1.hok.fresh (Xe _))
abbrev wvt(ta:TA):TI:=fun σ H R=>ta σ H λvs H1=>∃j:Int,vs=[.int j]/\-(2 ^ 62)<=j/\j<2 ^ 62/\R (Itr 0 j.toNat) H1
theorem qwb{a:Expr}{ta:TA}{p pos:Pos}(hg:Gl X "range")(hm:X.mg "range"=none)(ha:PA X [a] ta)(hs:autoParam (starEach [a] X.env=[(false,eval a X.env)]) Ŕ):PI X tg (.Call (.Name "range" p) [a] [] pos) (wvt ta):=by
 intro pins s σ H R I h;refine Call_ (V4 I hg hm boot_range (Yk (thn (ha pos pins s σ H _ I h) λus s1 ⟨vs,H1,I1,r1,q1⟩=>?_) hs rfl));obtain⟨j,e,q1,q2,q⟩:=q1;subst e;cases r1 with
 |cons r rr=>
  cases rr;obtain⟨t,rfl⟩:=r;exact call_range_1 (qzw I1 (by omega) (by omega) q1 q2 (by simpa using q))
abbrev tFor(wi:TI)(g:TG)(tb:TS):TS:=λD σ H=>wi σ H λJ H1=>∃W:Nat->Nat->St->Hp->Prop,(∃m,W 0 m σ H1)/\∀i m σ H,W i m σ H ->
 (J.stop i H/\D.nx σ H)\/(J.go i H/\∃N:St->Hp->Prop,(∀ σ' H',N σ' H'->∃m',m'<m/\W (i+1) m' σ' H')/\∀x H',J.yld i H x H'->g x σ H' fun σ2 H2=>tb { D with nx:=N,ct:=N,bk:=D.nx } σ2 H2)
def K8(fp:List Addr)(h:Heap):List (Addr×Obj):=fp.filterMap λb=>(h.get? b).map λo=>(b,o)
theorem jzv{fp:List Addr}{h:Heap}{b:Addr}{o:Obj}(hb:b∈fp)(e:h.get? b=some o):(b,o)∈K8 fp h:=List.mem_filterMap.mpr ⟨b,hb,by rw[e];rfl⟩
theorem kxq{fp:List Addr}{h:Heap}{p:Addr×Obj}(hp:p∈K8 fp h):p.1∈fp/\h.get? p.1=some p.2:=by
 obtain⟨b,hb,e⟩:=List.mem_filterMap.mp hp;cases q:h.get? b with
 |none=>rw[q]at e;cases e
 |some o=>
  rw[q]at e;have e':(b,o)=p:=oq9 e;subst e';exact⟨hb,q⟩
theorem Inv.pinned{pins:List (Addr×Obj)}{σ:St}{H:Hp}{s:Shared}{fp:List Addr}(I:Inv X pins σ H s)(hf:∀b∈fp,vJ X pins H b)(ho:∀b∈fp,∃o,s.heap.get? b=some o/\∀v,o.data≠.cell v):Inv X (pins++K8 fp s.heap) σ H s:=
 I.pins_of λp hp=>(List.mem_append.mp hp).elim (λz=>I.pin p (lr9 _ z)) λz=>by
  obtain⟨hb,e⟩:=kxq z;obtain⟨f0,f1,f2,_⟩:=hf p.1 hb;obtain⟨o,e',d⟩:=ho p.1 hb;rw[e]at e';cases e';exact⟨e,f0,f1,f2,d⟩
theorem Inv.unpinned{pins pl:List (Addr×Obj)}{σ:St}{H:Hp}{s:Shared}(I:Inv X (pins++pl) σ H s):Inv X pins σ H s:=I.pins_of λp hp=>I.pin p (lr9 _ (ll9 _ hp))
theorem vkm{av:Expr}{body:List Stmt}{wi:TI}{g:TG}{tb:TS}{pos:Pos}(hp:PassesOwn (model X.prog X.w) X.A X.env X.xe)(hc:X.calm=true)(hi:PI X tg av wi)(hg:PG X tg g)(hb:PSs X body tb)
  (hs:autoParam (∀x,foldedSetIterable av X.env x=pure x) Ŗ):PS X (.For tg av body [] pos) (tFor wi g tb):=by
 intro pins s σ H D I h;refine wpAny_For (thn (hi pins s σ H _ I h) λv s1 h1=>thn h1 λitv s2 h2=>?_) hs;obtain⟨it,fp,tn,J,H2,e,I2,T,be,f2,W,⟨m0,w0⟩,i6⟩:=h2;subst e;have iq:∀{H':Hp},(∀b∈fp,H' b=none)->∀b∈fp,vJ X pins H' b:=λhn b hb=>⟨hn b hb,(f2 b hb).2⟩
 refine codeAny_forLoop_any (λn s'=>∃i σ' H',Inv X pins σ' H' s'/\tn i s'.heap/\(∀b∈fp,H' b=none)/\W i n σ' H') ?_ m0 ⟨0,σ,H2,I2,be,λb hb=>(f2 b hb).1,w0⟩;rintro n s3 ⟨i,σ3,H3,I3,ef,nw,w3⟩;rcases i6 i n σ3 H3 w3 with⟨stop,qn⟩|⟨go,N,hN,step⟩
 ·refine wpAny_passesOwn hp (thn (T.done X rfl rfl rfl hc i pins s3 σ3 H3 X.xe I3 (iq nw) ef stop) λr s4 ⟨hr,I4⟩=>?_);subst hr;exact wpAny_execs_nil ⟨σ3,H3,I4,qn⟩
 ·refine wpAny_passesOwn hp (thn (T.item X rfl rfl rfl hc i pins s3 σ3 H3 X.xe I3 (iq nw) ef go) λr s4 ⟨u,hr,h4⟩=>?_);subst hr;refine wpAny_passesOwn hp (thn h4 λ_ s5 ⟨x,H5,I5,r5,y5,me,fr5⟩=>?_);have I5':=I5.pinned (iq fr5) (T.obj _ _ me);refine wpAny_passesOwn hp (thn (hg _ s5 σ3 H5 x u _ I5' r5 (step x H5 y5)) λ_ s6 ⟨σ6,H6,I6,q6⟩=>?_);refine wpAny_passesOwn hp (thn (hb _ s6 σ6 H6 _ I6 q6) λf s7 q7=>?_);have again:∀{σ7:St} {H7:Hp},Inv X (pins++K8 fp s5.heap) σ7 H7 s7->N σ7 H7->∃m,m<n/\∃i σ' H',Inv X pins σ' H' s7/\tn i s7.heap/\(∀b∈fp,H' b=none)/\W i m σ' H':=fun {σ7 H7} I7 n7=>by
   obtain⟨m',hm,w7⟩:=hN σ7 H7 n7;refine⟨m',hm,i+1,σ7,H7,I7.unpinned,T.keep _ _ _ me λb hb o e=>(I7.pin (b,o) (lr9 _ (lr9 _ (jzv hb e)))).1,λb hb=>?_,w7⟩;obtain⟨o,e,d⟩:=T.obj _ _ me b hb;exact(I7.pin (b,o) (lr9 _ (lr9 _ (jzv hb e)))).2.1
  cases f with
  |next=>obtain⟨σ7,H7,I7,n7⟩:=q7;exact again I7 n7
  |cont=>obtain⟨σ7,H7,I7,n7⟩:=q7;exact again I7 n7
  |brk=>obtain⟨σ7,H7,I7,q7⟩:=q7;exact⟨σ7,H7,I7.unpinned,q7⟩
  |ret v=>obtain⟨x7,σ7,H7,I7,r7,q7⟩:=q7;exact⟨x7,σ7,H7,I7.unpinned,r7,q7⟩
end
abbrev R2:=V->V->Hp->VK->Prop
noncomputable def OpR(X:Cx)(f:Value->Value->Sem Value)(r:R2):Prop:=
 ∀(pins:List (Addr×Obj)) (s:Shared) (σ:St) (H:Hp) (x y:V) (v u:Value) (Q:VK),Inv X pins σ H s->RelV x v->RelV y u->r x y H Q ->
  wpAny (model X.prog X.w) X.A (f v u) (EP X pins σ Q) X.xe s
noncomputable def UnR(X:Cx)(f:Value->Sem Value)(r:V->Hp->VK->Prop):Prop:=
 ∀(pins:List (Addr×Obj)) (s:Shared) (σ:St) (H:Hp) (x:V) (v:Value) (Q:VK),Inv X pins σ H s->RelV x v->r x H Q ->
  wpAny (model X.prog X.w) X.A (f v) (EP X pins σ Q) X.xe s
noncomputable def CallR(X:Cx)(f:Value)(r:List V->Hp->VK->Prop):Prop:=
 ∀(pins:List (Addr×Obj)) (s:Shared) (σ:St) (H:Hp) (xs:List V) (us:List Value) (Q:VK),Inv X pins σ H s->Vals xs us->r xs H Q ->
  wpAny (model X.prog X.w) X.A (call f us) (EP X pins σ Q) X.xe s
noncomputable def TruR(X:Cx)(r:V->Hp->(Bool->Hp->Prop)->Prop):Prop:=
 ∀(pins:List (Addr×Obj)) (s:Shared) (σ:St) (H:Hp) (x:V) (v:Value) (Q:Bool->Hp->Prop),Inv X pins σ H s->RelV x v->r x H Q ->
  wpAny (model X.prog X.w) X.A (truthy v) (TP X pins σ Q) X.xe s
abbrev tOp(r:R2)(ta tb:TE):TE:=fun σ H Q=>ta σ H λx H1=>tb σ H1 λy H2=>r x y H2 Q
abbrev tUn(r:V->Hp->VK->Prop)(ta:TE):TE:=fun σ H Q=>ta σ H λx H1=>r x H1 Q
def rI(C:Int->Int->Prop)(g:Int->Int->V):R2:=λx y H Q=>∃i j,x=.int i/\y=.int j/\C i j/\Q (g i j) H
def rI0(g:Int->Int->V):R2:=λx y H Q=>∃i j,x=.int i/\y=.int j/\Q (g i j) H
def rU(g:Int->V):V->Hp->VK->Prop:=λx H Q=>∃i,x=.int i/\Q (g i) H
section
variable {X:Cx}{a b c:Expr}{ta tb tc:TE}{pos:Pos}
theorem wwc(ha:PE X a ta)(hb:PE X b tb){pins:List (Addr×Obj)}{s:Shared}{σ:St}{H:Hp}{R:V->V->Hp->Prop}(I:Inv X pins σ H s)
  (h:ta σ H λx H1=>tb σ H1 λy H2=>R x y H2) {Q:Value->Shared->Prop} {f:Value->Value->Sem Value}
  (hf:∀v u s2 x y H2,Inv X pins σ H2 s2->RelV x v->RelV y u->R x y H2->wpAny (model X.prog X.w) X.A (f v u) Q X.xe s2):
  wpAny (model X.prog X.w) X.A (eval a X.env) (λv s₁=>wpAny (model X.prog X.w) X.A (eval b X.env) (λu s₂=>wpAny (model X.prog X.w) X.A (f v u) Q X.xe s₂) X.xe s₁) X.xe s:=by
 refine thn (ha pins s σ H _ I h) λv s1 ⟨x,H1,I1,r1,q1⟩=>?_
 refine thn (hb pins s1 σ H1 _ I1 q1) λu s2 ⟨y,H2,I2,r2,q2⟩=>?_
 exact hf v u s2 x y H2 I2 r1 r2 q2
theorem wve{op:Operator}{r:R2}(ho:OpR X (binaryOp op) r)(ha:PE X a ta)(hb:PE X b tb):PE X (.BinOp a op b pos) (tOp r ta tb):=by
 intro pins s σ H Q I h;exact wpAny_BinOp (wwc ha hb I h λv u s2 x y H2 I2 rx ry q=>ho pins s2 σ H2 x y v u Q I2 rx ry q)
theorem wvc{op:UnaryOp}{r:V->Hp->VK->Prop}(ho:UnR X (unaryOp op) r)(ha:PE X a ta):PE X (.UnaryOp op a pos) (tUn r ta):=by
 intro pins s σ H Q I h;exact UnaryOp_ (thn (ha pins s σ H _ I h) λv s1 ⟨x,H1,I1,r1,q1⟩=>ho pins s1 σ H1 x v Q I1 r1 q1)
theorem opI{f:Value->Value->Sem Value}{C:Int->Int->Prop}{g:Int->Int->Int}
  (rule:∀(i j:Int) (t u:Tok) (s:Shared) (Q:Value->Shared->Prop) (E:Value->Shared->Prop),C i j->Q (.int (g i j) s.toks) { s with toks:=s.toks+1 }->wpAny (model X.prog X.w) X.A (f (.int i t) (.int j u)) Q E s):
  OpR X f (rI C λi j=>.int (g i j)):=by
 intro pins s σ H x y v u Q I rx ry h;obtain⟨i,j,rfl,rfl,hc,q⟩:=h;obtain⟨t,rfl⟩:=rx;obtain⟨t',rfl⟩:=ry;exact rule i j t t' s _ _ hc ⟨.int (g i j),H,I.tok _,⟨_,rfl⟩,q⟩
theorem opI0{f:Value->Value->Sem Value}{g:Int->Int->Int}
  (rule:∀(i j:Int) (t u:Tok) (s:Shared) (Q:Value->Shared->Prop) (E:Value->Shared->Prop),Q (.int (g i j) s.toks) { s with toks:=s.toks+1 }->wpAny (model X.prog X.w) X.A (f (.int i t) (.int j u)) Q E s):
  OpR X f (rI0 λi j=>.int (g i j)):=by
 intro pins s σ H x y v u Q I rx ry h;obtain⟨i,j,rfl,rfl,q⟩:=h;obtain⟨t,rfl⟩:=rx;obtain⟨t',rfl⟩:=ry;exact rule i j t t' s _ _ ⟨.int (g i j),H,I.tok _,⟨_,rfl⟩,q⟩
theorem wvj{f:Value->Value->Sem Value}{g:Int->Int->Bool}
  (rule:∀(i j:Int) (t u:Tok) (s:Shared) (Q:Value->Shared->Prop) (E:Value->Shared->Prop),Q (.bool (g i j)) s->wpAny (model X.prog X.w) X.A (f (.int i t) (.int j u)) Q E s):
  OpR X f (rI0 λi j=>.bl (g i j)):=by
 intro pins s σ H x y v u Q I rx ry h;obtain⟨i,j,rfl,rfl,q⟩:=h;obtain⟨t,rfl⟩:=rx;obtain⟨t',rfl⟩:=ry;exact rule i j t t' s _ _ ⟨.bl (g i j),H,I,rfl,q⟩
def wxg(i j:Int):Prop:=0<=j/\j<=1000000/\i.natAbs<2 ^ 64
theorem op_add:OpR X (binaryOp .Add) (rI0 λi j=>.int (i+j)):=opI0 λ_ _ _ _ _ _ _ q=>add_int q
theorem wj8:OpR X (binaryOp .Mod) (rI (λ_ j=>0<j) λi j=>.int (i % j)):=opI λi j _ _ _ _ _ hc q=>by
 have h1:(0:Int)<j:=hc;exact mod_int' (by omega) (by rw[Int.fmod_eq_emod_of_nonneg i (by omega)];exact q)
theorem wj7:OpR X (binaryOp .LShift) (rI wxg λi j=>.int (i*2 ^ j.toNat)):=opI λ_ _ _ _ _ _ _ hc q=>lshift_int_small hc.1 hc.2.1 hc.2.2 q
theorem unI{f:Value->Sem Value}{g:Int->Int}
  (rule:∀(i:Int) (t:Tok) (s:Shared) (Q:Value->Shared->Prop) (E:Value->Shared->Prop),Q (.int (g i) s.toks) { s with toks:=s.toks+1 }->wpAny (model X.prog X.w) X.A (f (.int i t)) Q E s):
  UnR X f (rU λi=>.int (g i)):=by
 intro pins s σ H x v Q I rx h;obtain⟨i,rfl,q⟩:=h;obtain⟨t,rfl⟩:=rx;exact rule i t s _ _ ⟨.int (g i),H,I.tok _,⟨_,rfl⟩,q⟩
theorem vxf:UnR X (unaryOp .USub) (rU λi=>.int (-i)):=unI λ_ _ _ _ _ q=>neg_int q
end
section
variable {X:Cx}{a b c:Expr}{ta tb tc:TE}{pos:Pos}
theorem vq1{pins:List (Addr×Obj)}{σ:St}{H:Hp}{s:Shared}{Q:VK}{k k':Bool}(I:Inv X pins σ H s)(q:Q (.bl k) H)(e:k=k'):EP X pins σ Q (.bool k') s:=by
 subst e;exact⟨.bl k,H,I,rfl,q⟩
theorem vja:OpR X (compareOp .Lt) (rI0 λi j=>.bl (decide (i<j))):=wvj λ_ _ _ _ _ _ _ q=>lt_int q
theorem Ww:OpR X (compareOp .LtE) (rI0 λi j=>.bl (decide (i<=j))):=wvj λ_ _ _ _ _ _ _ q=>le_int q
theorem vvt:OpR X (compareOp .Gt) (rI0 λi j=>.bl (decide (j<i))):=wvj λ_ _ _ _ _ _ _ q=>gt_int q
theorem qwk:OpR X (compareOp .In) (λx y H Q=>∃i j,x=.str i/\y=.str j/\Q (.bl (!(Builtin.Str.occurrences j i 0 j.length 1).isEmpty)) H):=by
 intro pins s σ H x y v u Q I rx ry h;obtain⟨i,j,rfl,rfl,q⟩:=h;obtain⟨t,rfl⟩:=rx;obtain⟨t',rfl⟩:=ry;exact in_str (vq1 I q rfl)
theorem qwj : OpR X (compareOp .Is) (λx y H Q=>y = .non /\ Q (.bl (decide (x = .non))) H):= by
  intro pins s σ H x y v u Q I rx ry h;obtain⟨rfl, q⟩:= h;cases ry;refine is_none_gen (vq1 I q ?_);cases x <;> first
    |(cases rx; rfl)
    |(obtain⟨t, rfl⟩:= rx; rfl)
theorem OpR.or{f:Value->Value->Sem Value}{r r':R2}(h:OpR X f r)(h':OpR X f r'):OpR X f (λx y H Q=>r x y H Q\/r' x y H Q):=by
 intro pins s σ H x y v u Q I rx ry q;rcases q with q|q
 ·exact h pins s σ H x y v u Q I rx ry q
 ·exact h' pins s σ H x y v u Q I rx ry q
theorem kj(b:Expr){op:CmpOp}(h:autoParam (op≠.In) ŕ)(h2:autoParam (op≠.NotIn) ŕ):behindInMarks op b=false:=by
 have e1:(op==CmpOp.In)=false:=by cases op<;>first|rfl|exact absurd rfl h
 have e2:(op==CmpOp.NotIn)=false:=by cases op<;>first|rfl|exact absurd rfl h2
 cases b<;>simp[behindInMarks,e1,e2]
theorem vvl{op:CmpOp}{r:R2}(ho:OpR X (compareOp op) r)(ha:PE X a ta)(hb:PE X b tb)(hm:behindInMarks op b=false):PE X (.Compare a [op] [b] pos) (tOp r ta tb):=by
 intro pins s σ H Q I h;exact wpAny_Compare1 (wwc ha hb I h λv u s2 x y H2 I2 rx ry q=>ho pins s2 σ H2 x y v u Q I2 rx ry q) hm
abbrev vxh(t:TE):TT:=fun σ H Q=>t σ H λx H'=>∃k,x=.bl k/\Q k H'
theorem vvd{op:CmpOp}{r:R2}(ho:OpR X (compareOp op) r)(ha:PE X a ta)(hb:PE X b tb)(hm:behindInMarks op b=false):PT X (.Compare a [op] [b] pos) (vxh (tOp r ta tb)):=by
 intro pins s σ H Q I h;refine wpAny_isTrue_Compare1 (thn (ha pins s σ H _ I h) λv s1 ⟨x,H1,I1,r1,q1⟩=>thn (hb pins s1 σ H1 _ I1 q1) λu s2 ⟨y,H2,I2,r2,q2⟩=>
  thn (ho pins s2 σ H2 x y v u _ I2 r1 r2 q2) λc s3 ⟨z,H3,I3,r3,k,e,q3⟩=>?_) hm
 subst e;cases r3;exact Ym ⟨H3,I3,q3⟩
abbrev qv7(r r':R2)(ta tb tc:TE):TE:=fun σ H Q=>ta σ H λx H1=>tb σ H1 λy H2=>r x y H2 λz H3=>∃k,z=.bl k /\
 (if k=true then tc σ H3 λw' H4=>r' y w' H4 Q else Q (.bl false) H3)
theorem vj9{op iv:CmpOp}{r r':R2}(ho:OpR X (compareOp op) r)(ib:OpR X (compareOp iv) r')(ha:PE X a ta)(hb:PE X b tb)(hc:PE X c tc)
  (hm:lastMarks [op,iv] [b,c]=false:=by with_unfolding_all rfl):PE X (.Compare a [op,iv] [b,c] pos) (qv7 r r' ta tb tc):=by
 intro pins s σ H Q I h;refine Compare_chain (thn (ha pins s σ H _ I h) λv s1 ⟨x,H1,I1,r1,q1⟩=>chain_link (thn (hb pins s1 σ H1 _ I1 q1) λu s2 ⟨y,H2,I2,r2,q2⟩=>
  thn (ho pins s2 σ H2 x y v u _ I2 r1 r2 q2) λd s3 ⟨z,H3,I3,r3,k,e,q3⟩=>?_)) hm
 subst e;cases r3;refine Ym ?_;cases k with
 |false=>exact ite_ff ⟨.bl false,H3,I3,rfl,q3⟩
 |true=>exact ite_tt (chain_last (thn (hc pins s3 σ H3 _ I3 q3) λw' s4 ⟨z',H4,I4,r4,q4⟩=>ib pins s4 σ H4 y z' u w' Q I4 r2 r4 q4))
theorem vj3{op iv:CmpOp}{r r':R2}(ho:OpR X (compareOp op) r)(ib:OpR X (compareOp iv) r')(ha:PE X a ta)(hb:PE X b tb)(hc:PE X c tc)
  (hm:lastMarks [op,iv] [b,c]=false:=by with_unfolding_all rfl):PT X (.Compare a [op,iv] [b,c] pos) (vxh (qv7 r r' ta tb tc)):=by
 intro pins s σ H Q I h;refine isTrue_chain (thn (ha pins s σ H _ I h) λv s1 ⟨x,H1,I1,r1,q1⟩=>test_link (thn (hb pins s1 σ H1 _ I1 q1) λu s2 ⟨y,H2,I2,r2,q2⟩=>
  thn (ho pins s2 σ H2 x y v u _ I2 r1 r2 q2) λd s3 ⟨z,H3,I3,r3,k,e,q3⟩=>?_)) hm
 subst e;cases r3;refine Ym ?_;cases k with
 |false=>
  obtain⟨k',e',q'⟩:=q3;cases e';exact ite_ff ⟨H3,I3,q'⟩
 |true=>
  refine ite_tt (test_last (thn (hc pins s3 σ H3 _ I3 q3) λw' s4 ⟨z',H4,I4,r4,q4⟩=>thn (ib pins s4 σ H4 y z' u w' _ I4 r2 r4 q4) λd' s5 ⟨z2,H5,I5,r5,k2,e2,q5⟩=>?_));subst e2;cases r5;exact Ym ⟨H5,I5,q5⟩
noncomputable def wqf(K:PySem.W.Frag)(x:V)(H:Hp)(k:Bool):Prop:=
 match x with
 |.non=>k=false
 |.bl b=>k=b
 |.int i=>k=(i != 0)
 |.str y=>y.length<=sizeLine/\k=((y.length:Int) != 0)
 |.byt y=>y.size<=sizeLine/\k=((y.size:Int) != 0)
 |.ref p=>(∃xs,SqL K H p xs/\k=!xs.isEmpty)\/(∃xs,SqT K H p xs/\k=!xs.isEmpty)\/∃ao,H p=some (.dK ao)/\k=!ao.isEmpty
 |_=>False
theorem qqj{κ:Type}{ao:List (κ×V)}{vs:List (κ×Value)}(r:KV ao vs):(!vs.isEmpty)=!ao.isEmpty:=by
 cases r<;>rfl
theorem kva{xs:List V}{aa:List Value}(r:Vals xs aa):(!aa.toArray.isEmpty)=!xs.isEmpty:=by
 cases r<;>simp
theorem Zv:(sizeLine:Nat)<2 ^ 63:=by rw[sizeLine_eq];decide
theorem vka:TruR X (λx H Q=>∃k,wqf X.K x H k/\Q k H):=by
 intro pins s σ H x v Q I rx h;obtain⟨k,e,q⟩:=h;have hl:=Zv;have hs:sizeLine=16777216:=sizeLine_eq;cases x with
 | non=>
  cases rx;have e':k=false:=e;subst e';exact truthy_none ⟨H,I,q⟩
 | bl b=>
  cases rx;have e':k=b:=e;subst e';exact Ym ⟨H,I,q⟩
 | int i=>
  obtain⟨t,rfl⟩:=rx;have e':k=(i != 0):=e;subst e';exact PySem.P.truthy_int ⟨H,I,q⟩
 | str y=>
  obtain⟨t,rfl⟩:=rx;obtain⟨hy,e'⟩:y.length<=sizeLine/\k=((y.length:Int) != 0):=e;subst e';exact PySem.P.truthy_str (by omega) ⟨H,I.tok _,q⟩
 | byt y=>
  obtain⟨t,rfl⟩:=rx;obtain⟨hy,e'⟩:y.size<=sizeLine/\k=((y.size:Int) != 0):=e;subst e';exact PySem.W.truthy_bytes (by omega) ⟨H,I.tok _,q⟩
 | ref p=>
  cases rx;have e':(∃xs,SqL X.K H p xs/\k=!xs.isEmpty)\/(∃xs,SqT X.K H p xs/\k=!xs.isEmpty)\/∃ao,H p=some (.dK ao)/\k=!ao.isEmpty:=e;rcases e' with⟨xs,hx,e'⟩|⟨xs,hx,e'⟩|⟨ao,hx,e'⟩
  ·subst e';obtain⟨aa,r,pl,hz⟩:=I.list hx;have af:=r.length;exact wpAny_truthy_list pl.isList (by simp only[X6];omega) ⟨H,I.tok _,by rw[kva r];exact q⟩
  ·subst e';obtain⟨aa,r,pl,hz⟩:=I.tuple hx;have af:=r.length;exact truthy_tuple pl (by simp only[X6];omega) ⟨H,I.tok _,by rw[kva r];exact q⟩
  ·subst e';obtain⟨hz,hS,vs,r,m⟩:ao.length<=sizeLine/\(p==sysModules)=false/\∃vs,KV ao vs/\s.heap.DictOf (kw3 X.prog X.w) p vs:=I.hok p _ hx;have af:ao.length=vs.length:=Paired.length r;exact wpAny_truthy_dict hS m (by omega) ⟨H,I.tok _,by rw[qqj r];exact q⟩
 |_=>exact(show False from e).elim
theorem vj2(ha:PE X a ta)(he:∀gc,isTrue a X.env gc=(do let v <-gc;standAt a.pos;holding [v] (truthy v))):
  PT X a (fun σ H Q=>ta σ H λx H'=>∃k,wqf X.K x H' k/\Q k H'):=by
 intro pins s σ H Q I h;exact isTrue_plain (thn (ha pins s σ H _ I h) λv s1 ⟨x,H1,I1,r1,q1⟩=>vka pins s1 σ H1 x v Q I1 r1 q1) (he _)
theorem op_add_str:OpR X (binaryOp .Add) (λx y H Q=>∃i j,x=.str i/\y=.str j/\i.length+j.length<=sizeLine/\Q (.str (i++j)) H):=by
 intro pins s σ H x y v u Q I rx ry h;obtain⟨i,j,rfl,rfl,hz,q⟩:=h;obtain⟨t,rfl⟩:=rx;obtain⟨t',rfl⟩:=ry;exact add_str (λt' tk=>⟨.str (i++j),H,I.tok _,⟨_,rfl⟩,q⟩) hz
theorem x8{x:V}{us:List Value}(r:Vals [x] us):∃u,us=[u]/\RelV x u:=by
 cases r with
 |cons r1 r2=>cases r2;exact⟨_,rfl,r1⟩
theorem qv3{x y:V}{us:List Value}(r:Vals [x,y] us):∃u w',us=[u,w']/\RelV x u/\RelV y w':=by
 cases r with
 |cons r1 r2=>
  cases r2 with
  |cons r3 r4=>cases r4;exact⟨_,_,rfl,r1,r3⟩
theorem qxw:CallR X (.type "int") (λxs H Q=>(∃i,xs=[.int i]/\Q (.int i) H)\/∃k,xs=[.bl k]/\Q (.int (if k then 1 else 0)) H):=by
 intro pins s σ H xs us Q I r h;rcases h with⟨i,rfl,q⟩|⟨k,rfl,q⟩
 ·obtain⟨u,rfl,t,rfl⟩:=x8 r;exact call_int_int ⟨.int i,H,I,⟨_,rfl⟩,q⟩
 ·obtain⟨u,rfl,r1⟩:=x8 r;cases r1;exact call_int_bool ⟨.int (if k then 1 else 0),H,I.tok _,⟨_,rfl⟩,q⟩
end
structure ObjM (h:Heap)(x dx C:Addr)(mA:Str->Option Value):Prop where
 obj:h.get? x=some (PySem.W.instObj C dx)
 ns:h.Ns1 dx mA
 ne:dx≠x
theorem qwr{h:Heap}{dx:Addr}{mA:Str->Option Value}(n:h.Ns1 dx mA):∃od,h.get? dx=some od/\∀name,PySem.W.lookIn name od=some (mA name):=by
 obtain⟨o,es,ep,ho,hd,hk,_,hm⟩:=n;refine⟨o,ho,λname=>?_⟩;have e:=hm name;unfold nsFind findBy at e;rw[<-Array.find?_toList]at e;unfold PySem.W.lookIn;rw[hd];dsimp only
 split
 ·rename_i y q;rw[q]at e;exact congrArg some e
 ·rename_i q;rw[q]at e;have a:es.toList.any (·.refKey)=false:=by
   rw[List.any_eq_false];intro y hy;obtain⟨z,t,mj⟩:=hk y (Array.mem_toList_iff.mp hy);simp[DictEntry.refKey,mj]
  have a':¬es.toList.any (·.refKey)=true:=by rw[a];exact Bool.false_ne_true
  rw[Xm a'];exact congrArg some e
theorem ObjM.look{h:Heap}{x dx C:Addr}{mA:Str->Option Value}(I:ObjM h x dx C mA):∃od,PySem.W.InstAt h x (PySem.W.instObj C dx) C (some od)/\∀name,PySem.W.lookIn name od=some (mA name):=
 let ⟨od,ho,hl⟩:=qwr I.ns
 ⟨od,⟨I.obj,rfl,rfl,ho⟩,hl⟩
section
variable {P:Program}{w:World}{H H':Hp}{h h':Heap}{a C dx:Addr}{fs fs':List (Str×V)}
theorem vwd(hok:HOk P w H h)(e:H a=some (.ins C dx fs)):∃mA,ObjM h a dx C mA/\(∀f,wwe (fs.lookup f) (mA f))/\PySem.Within mA (fs.map (·.1))/\fs.length<=1000/\H dx=some (.own a):=by
 obtain⟨d,z,ne,ob,mA,n,r,q⟩:=(show ObjOk P w H h a (.ins C dx fs)from hok a _ e);exact⟨mA,⟨ob,n,ne⟩,r,q,z,d⟩
end
structure Cls (K:PySem.W.Frag)(C:Addr):Prop where
 pg:PySem.W.plainGet K C Str.empty=true
 hd:PySem.W.hasDictIn K C=true
 po:PySem.W.plainOver K C=true
 sa:PySem.W.findIn K (.ref C) "__setattr__"=some (some (.builtin "object.__setattr__"))
theorem Cls.get{K:PySem.W.Frag}{C:Addr}(c:Cls K C)(f:Str):PySem.W.plainGet K C f=true:=c.pg
section
variable {X:Cx}{pins:List (Addr×Obj)}{σ:St}{H:Hp}{s:Shared}{A:Around}{E:Value->Shared->Prop}{Q:Value->Shared->Prop}{c:Value}{b:Bool}
inductive TyOf (K:PySem.W.Frag)(H:Hp):V->Value->Prop where
 | non:TyOf K H .non (.type "NoneType")
 | bl (x:Bool):TyOf K H (.bl x) (.type "bool")
 | int (i:Int):TyOf K H (.int i) (.type "int")
 | str (x:Str):TyOf K H (.str x) (.type "str")
 | flt (x:UInt64):TyOf K H (.flt x) (.type "float")
 | lst {a:Addr} {xs:List V} (e:H a=some (.lst xs)):TyOf K H (.ref a) (.type "list")
 | frz {a:Addr} {o:Obj} {xs:List V} (e:H a=some (.frz o (.lst xs))):TyOf K H (.ref a) (.type "list")
 | tup {a:Addr} {xs:List V} (e:H a=some (.tup xs)):TyOf K H (.ref a) (.type "tuple")
 | dK {a:Addr} {ao:List (Key×V)} (e:H a=some (.dK ao)):TyOf K H (.ref a) (.type "dict")
 | dT {a:Addr} {ao:List (List Key×V)} (e:H a=some (.dT ao)):TyOf K H (.ref a) (.type "dict")
 | ins {a C dx:Addr} {fs:List (Str×V)} (e:H a=some (.ins C dx fs)) (cl:Cls K C) (ha:PySem.W.findIn K (.ref C) "__class__"=some (some (.builtin "object.__class__")))
   (hn:PySem.W.specialIn K (.builtin "object.__class__") "__get__"=some (some (.builtin "getset_descriptor.__get__"))) (htk:PySem.W.takesIn K (.builtin "object.__class__")=some true)
   (hm:PySem.W.mroIn K C (.type "object")=some true):TyOf K H (.ref a) (.ref C)
theorem qx8{x:V}{u t:Value}(I:Inv X pins σ H s)(rx:RelV x u)(ty:TyOf X.K H x t)(e:PySem.W.kitOne X.K t c=some b)(h:∀tk,Q (.bool b) { s with toks:=tk }):
  wpAny (model X.prog X.w) A (call (.builtin "isinstance") [u,c]) Q E s:=by
 cases ty with
 |non=>cases(show u=Value.none from rx);exact Y7 PySem.W.kitx_none I.kIn True.intro e (λz=>nomatch z) h
 |bl y=>cases(show u=Value.bool y from rx);exact Y7 PySem.W.kitx_bool I.kIn True.intro e (λz=>nomatch z) h
 |int i=>obtain⟨t,q⟩:=(show ∃t,u=Value.int i t from rx);cases q;exact Y7 PySem.W.kitx_int I.kIn True.intro e (λz=>nomatch z) h
 |str y=>obtain⟨t,q⟩:=(show ∃t,u=Value.str y t from rx);cases q;exact Y7 PySem.W.kitx_str I.kIn True.intro e (λz=>nomatch z) h
 |flt y=>obtain⟨t,q⟩:=(show ∃t,u=Value.float y t from rx);cases q;exact Y7 PySem.W.kitx_float I.kIn True.intro e (λz=>nomatch z) h
 |@lst a xs ea=>
  cases(show u=Value.ref a from rx);obtain⟨_,_,n,_,h1⟩:=(show ObjOk X.prog X.w H s.heap a (.lst xs)from I.hok a _ ea);exact Y7 PySem.W.kitx_list I.kIn ⟨_,h1,rfl⟩ e (λz=>nomatch z) h
 |@frz a ob xs ea=>
  cases(show u=Value.ref a from rx);obtain⟨_,_,_,n,_,h1⟩:=(show ObjOk X.prog X.w H s.heap a (.frz ob (.lst xs))from I.hok a _ ea);exact Y7 PySem.W.kitx_list I.kIn ⟨_,h1,rfl⟩ e (λz=>nomatch z) h
 |@tup a xs ea=>
  cases(show u=Value.ref a from rx);obtain⟨_,_,_,p⟩:=(show ObjOk X.prog X.w H s.heap a (.tup xs)from I.hok a _ ea);obtain⟨o,h1,h2,_⟩:=p;exact Y7 PySem.W.kitx_tuple I.kIn ⟨o,h1,h2⟩ e (λz=>nomatch z) h
 |@dK a ao ea=>
  cases(show u=Value.ref a from rx);obtain⟨_,_,vs,_,p⟩:=(show ObjOk X.prog X.w H s.heap a (.dK ao)from I.hok a _ ea);obtain⟨o,es,ep,h1,h2,_⟩:=p;exact Y7 PySem.W.kitx_dict I.kIn ⟨o,h1,h2.1⟩ e (λz=>nomatch z) h
 |@dT a ao ea=>
  cases(show u=Value.ref a from rx);obtain⟨_,_,xs,_,o,es,ep,h1,h2,_⟩:=(show ObjOk X.prog X.w H s.heap a (.dT ao)from I.hok a _ ea);exact Y7 PySem.W.kitx_dict I.kIn ⟨o,h1,h2.1⟩ e (λz=>nomatch z) h
 |@ins a C dx fs ea cl ha hn htk hm=>
  cases(show u=Value.ref a from rx);obtain⟨mA,O,_⟩:=vwd I.hok ea;obtain⟨od,J,_⟩:=O.look;exact Y7 (PySem.W.kitx_own (cl.get _) cl.hd ha hn htk hm) I.kIn J e (λz=>nomatch z) h
end
structure Room (k:Nat)(A:Around):Prop where
 hd:A.handled=none
 dp:A.depth+3*k+5<recursionLimit
 un:A.units+16*k+200<cLine
 gd:A.guards=some []
theorem Room.mono{j k:Nat}{A:Around}(r:Room k A)(h:j<=k):Room j A:=⟨r.hd,by have:=r.dp;omega,by have:=r.un;omega,r.gd⟩
theorem Room.deeper{k:Nat}{A:Around}(r:Room (k+1) A)(env:Env):Room k (A.deeper env):=
 ⟨r.hd,by have:=r.dp;show A.depth+1+3*k+5<_;omega,by have:=r.un;show A.units+3+16*k+200<_;omega,r.gd⟩
theorem Room.depth{k:Nat}{A:Around}(r:Room k A):A.depth<recursionLimit:=by have:=r.dp;omega
theorem Room.units{k:Nat}{A:Around}(r:Room k A):A.units+64<cLine:=by have:=r.un;omega
abbrev wqi:TA:=λ_ H Q=>Q [] H
abbrev vqq(ta:TE)(tr:TA):TA:=fun σ H Q=>ta σ H λx H1=>tr σ H1 λxs H2=>Q (x::xs) H2
section
variable {X:Cx}{e:Expr}{es:List Expr}{te:TE}{t:TA}{pos:Pos}
theorem wW:PA X [] wqi:=λ_ _ _ _ H Q I h=>Calls.spliced_nil ⟨[],H,I,.nil,h⟩
theorem vZ(ha:PE X e te)(hr:PA X es t)(hs:autoParam (starEach (e::es) X.env=(false,eval e X.env)::starEach es X.env) Ŕ):PA X (e::es) (vqq te t):=by
 intro pos pins s σ H Q I h;rw[hs];show wpAny _ _ (spliced ((false,eval e X.env)::backTo pos (starEach es X.env))) _ _ s;refine Calls.spliced_cons (thn (ha pins s σ H _ I h) λu s1 ⟨x,H1,I1,r1,q1⟩=>?_);exact thn (hr pos pins s1 σ H1 _ I1 q1) λus s2 ⟨xs,H2,I2,r2,q2⟩=>⟨x::xs,H2,I2,.cons r1 r2,q2⟩
abbrev tTup(t:TA):TE:=fun σ H Q=>t σ H λxs H1=>xs.length<=sizeLine/\∀p,H1 p=none->Q (.ref p) (upd H1 p (.tup xs))
abbrev tLst(t:TA):TE:=fun σ H Q=>t σ H λxs H1=>xs.length<=sizeLine/\∀p,H1 p=none->Q (.ref p) (upd H1 p (.lst xs))
theorem vzt{x1}(h:PA X es t):PE X (.Tuple es x1 pos) (tTup t):=by
 intro pins s σ H Q I hq;refine wpAny_Tuple_spliced (thn (h pos pins s σ H _ I hq) λus s1 ⟨xs,H1,I1,r,z,q⟩=>⟨by rw[<-r.length];exact z,?_⟩);have hf:H1 s1.heap.objs.size=none:=I1.hok.fresh (Xe _);refine⟨.ref s1.heap.objs.size,upd H1 s1.heap.objs.size (.tup xs),I1.laid (t':=s1.toks) (λb u e=>X1 _ e) (Xe _) ?_,rfl,q _ hf⟩;exact⟨z,us,r,⟨_,X8 _ rfl,rfl,rfl,_,rfl⟩⟩
theorem vzw(h:PA X es t):PE X (.List es pos) (tLst t):=by
 intro pins s σ H Q I hq;refine wpAny_List_spliced (thn (h pos pins s σ H _ I hq) λus s1 ⟨xs,H1,I1,r,z,q⟩=>⟨by rw[<-r.length];exact z,?_⟩);have hf:H1 s1.heap.objs.size=none:=I1.hok.fresh (Xe _);refine⟨.ref s1.heap.objs.size,upd H1 s1.heap.objs.size (.lst xs),I1.laid (t':=s1.toks) (λb u e=>X1 _ e) (Xe _) ?_,rfl,q _ hf⟩;exact⟨z,us,0,r,X8 _ rfl⟩
end
abbrev Sp:=List V->Hp->VK->XK->Prop
abbrev CXT:=List Env->Hp->Shared->XK->Value->Shared->Prop
structure Env0 (P:Program)(w:World)(K:PySem.W.Frag)(mg:Str->Option Value)(base:Heap)(A:Around)(outer:List Env)(s:Shared)(H:Hp):Prop where
 frames:A.frames=some outer
 mod:Mod K mg base
 bs:∀b o,base.get? b=some o->s.heap.get? b=some o/\H b=none
 bsz:base.objs.size<=s.heap.objs.size
 funs:s.heap.FunFrames base outer
 frf:∀b∈frs outer,H b=none
 hok:HOk P w H s.heap
 bare:AllBare s.gens
noncomputable def CE(outer:List Env)(P:Program)(w:World)(H:Hp)(s:Shared)(Q:VK)(u:Value)(s':Shared):Prop:=
 ∃v H',s'.os=s.os/\AllBare s'.gens/\Un (frs outer) [] H H' s.heap s'.heap/\HOk P w H' s'.heap/\RelV v u/\Q v H'
noncomputable def CR(CX:CXT)(outer:List Env)(P:Program)(w:World)(H:Hp)(s:Shared)(Q:VK)(E:XK)(r:Result)(s':Shared):Prop:=
 match r with
 |.ok (.ret u)=>CE outer P w H s Q u s'
 |.ok _=>False
 |.error e=>CX outer H s E e s'
structure FnOk (P:Program)(w:World)(K:PySem.W.Frag)(mg:Str->Option Value)(base:Heap)(CX:CXT)(k:Nat)(f:Addr)(fd:FuncData)(ps:List Str)(sp:Sp):Prop where
 len:∀vs H Q E,sp vs H Q E->vs.length=ps.length
 run:∀(A:Around) (outer:List Env) (s:Shared) (H:Hp) (args:Args) (us:List Value) (vs:List V) (Q:VK) (E:XK),Room k A->Env0 P w K mg base A outer s H->BindsTo s fd args (ps.zip us)->Vals vs us->sp vs H Q E ->
  codeAny (model P w) A (.call (.ref f) args) (CR CX outer P w H s Q E) s
section
variable {X:Cx}{pins:List (Addr×Obj)}{σ:St}{H:Hp}{s s':Shared}
theorem Inv.env0(I:Inv X pins σ H s):Env0 X.prog X.w X.K X.mg X.base X.A X.stack s H:=
 ⟨I.ok.frames,I.ok.mod,I.bs,Xw I.ok.bsz I.sz,I.stack,I.stkFree,I.hok,I.bare⟩
theorem Inv.after{Q:VK}{u:Value}(I:Inv X pins σ H s)(h:CE X.stack X.prog X.w H s Q u s'):EP X pins σ Q u s':=by
 obtain⟨v,H',os,bare,un,hok,r,q⟩:=h;obtain⟨hh,g,d,t,os'⟩:=s';obtain rfl:os'=s.os:=os;exact⟨v,H',I.call (h':=hh) (g':=g) (d':=d) (t':=t) (ch:=[]) un hok bare (λb z=>absurd z (by simp)),r,q⟩
end
abbrev vxj(sp:Sp)(nj:List V)(E:XK)(t:TA):TE:=fun σ H Q=>t σ H λvs H1=>sp (vs++nj) H1 Q E
noncomputable def Binds(K:PySem.W.Frag)(fd:FuncData)(ps:List Str)(ds:List Value):Prop:=
 ∀(s:Shared) (us:List Value),K.In s.heap->(us++ds).length=ps.length->BindsTo s fd ⟨us,[]⟩ (ps.zip (us++ds))
theorem Binds.all{K:PySem.W.Frag}{fd:FuncData}{ps:List Str}(h:∀us:List Value,us.length=ps.length->bindArgs fd ⟨us,[]⟩=pure (ps.zip us)):Binds K fd ps []:=λs us _ hl=>by
 rw[Xv]at hl ⊢;exact .of_eq (h us hl)
noncomputable def qzb(CX:CXT)(X:Cx)(E:XK):Prop:=∀(pins:List (Addr×Obj)) (σ:St) (H:Hp) (s:Shared) (e:Value) (s':Shared),Inv X pins σ H s->CX X.stack H s E e s'->X.xe e s'
section
variable {X:Cx}{CX:CXT}{k:Nat}{f C:Addr}{fd:FuncData}{ps:List Str}{sp:Sp}{nj:List V}{ds:List Value}{E:XK}{x m:Str}{p pos ak:Pos}{e o:Expr}{es:List Expr}{ta:TE}{t:TA}
theorem vxy{pins:List (Addr×Obj)}{σ:St}{H:Hp}{s:Shared}{Q:VK}{us:List Value}{vs:List V}(F:FnOk X.prog X.w X.K X.mg X.base CX k f fd ps sp)(hr:Room k X.A)(hb:Binds X.K fd ps ds)(hd:Vals nj ds)(hx:qzb CX X E)
  (I:Inv X pins σ H s) (r:Vals vs us) (h:sp (vs++nj) H Q E):wpAny (model X.prog X.w) X.A (call (.ref f) us) (EP X pins σ Q) X.xe s:=by
 have r2:Vals (vs++nj) (us++ds):=r.append hd;have hl:(us++ds).length=ps.length:=by rw[<-r2.length];exact F.len _ _ _ _ h
 refine wpAny_call (codeAny_mono (F.run X.A X.stack s H ⟨us,[]⟩ (us++ds) (vs++nj) Q E hr I.env0 (hb s us I.kIn hl) r2 h) λr s' hq=>?_);cases r with
 |error e=>exact hx pins σ H s e s' I hq
 |ok fl=>
  cases fl with
  |ret u=>exact I.after hq
  |next=>exact False.elim hq
  |brk=>exact False.elim hq
  |cont=>exact False.elim hq
theorem vvm(F:FnOk X.prog X.w X.K X.mg X.base CX k f fd ps sp)(hr:Room k X.A)(hg:Gl X x)(hm:X.mg x=some (.ref f))(hk:PySem.W.keepIn X.K (.ref f)=true)(hb:Binds X.K fd ps ds)(hd:Vals nj ds)(hx:qzb CX X E)
  (ha:PA X (e::es) t) (i7:autoParam ((x==("__debug__":Str))=false) ŕ) (he:autoParam (starEach (e::es) X.env=(false,eval e X.env)::starEach es X.env) Ŕ) (bt:autoParam ((backTo pos (starEach es X.env)).any (·.1)=false) Ŕ):
  PE X (.Call (.Name x p) (e::es) [] pos) (vxj sp nj E t):=by
 intro pins s σ H Q I h;refine wpAny_Call_Name_kw (qwx I hg hm ?_ i7);refine PySem.W.callWith_K (h₀:=X.base) I.ok.mod.kin hk (thn (ha pos pins s σ H _ I h) λus s1 ⟨vs,H1,I1,r,q⟩=>⟨I1.kIn,?_⟩) he bt;exact vxy F hr hb hd hx I1 r q
end
structure FnScope (N P:List Str)(sc:Scope):Prop where
 kind:sc.kind=.function
 co:sc.isCoroutine=false
 gen:sc.isGenerator=false
 nd:N.Nodup
 pre:N.take P.length=P
 par:∀x∈P,sc.names.lookup x=some .local\/sc.names.lookup x=some .cell
 nofree:∀y∈sc.names,y.2≠.free
theorem kz9{kindOf : Str -> Option NameKind}{x : Str}: ∀{binds : List (Str × Value)} {m : Str -> Option Value}, (∀v, (x, v)∉binds) -> bindL kindOf binds m x = m x
  | [], _, _=>rfl
  | (n, v)::r, m, h=>by
    unfold bindL;rw[kz9 λw hw=>h w (lc9 _ hw)]
    split
    · have : x≠n:= by rintro rfl; exact h v X3
      simp[this]
    · rfl
theorem kzb{kindOf : Str -> Option NameKind}{x : Str}: ∀{binds : List (Str × Value)} {m : Str -> Option Value}, (∀v, (x, v)∉binds) -> bindC kindOf binds m x = m x
  | [], _, _=>rfl
  | (n, v)::r, m, h=>by
    unfold bindC;rw[kzb λw hw=>h w (lc9 _ hw)]
    split
    · rfl
    · have : x≠n:= by rintro rfl; exact h v X3
      simp[this]
theorem kza{kindOf:Str->Option NameKind}{x:Str}{v:Value}:∀{P:List Str} {vs:List Value} {i:Nat} {m:Str->Option Value},P.Nodup->P[i]?=some x->vs[i]?=some v->kindOf x=some .local ->
  bindL kindOf (P.zip vs) m x=some v
 |[],_,_,_,_,h,_,_=>by simp at h
 |_::_,[],_,_,_,_,h,_=>by simp at h
 |p::P,w::vs,0,m,nd,h1,h2,hk=>by
  simp at h1 h2;subst h1;subst h2;show bindL kindOf ((p,w)::P.zip vs) m p=_;unfold bindL;rw[kz9 λv hv=>(List.nodup_cons.mp nd).1 (List.of_mem_zip hv).1,Xf hk];simp
 |p::P,w::vs,i+1,m,nd,h1,h2,hk=>by
  show bindL kindOf ((p,w)::P.zip vs) m x=_;unfold bindL;exact kza (i:=i) (List.nodup_cons.mp nd).2 (by simpa using h1) (by simpa using h2) hk
theorem kzc{kindOf:Str->Option NameKind}{x:Str}{v:Value}:∀{P:List Str} {vs:List Value} {i:Nat} {m:Str->Option Value},P.Nodup->P[i]?=some x->vs[i]?=some v->kindOf x≠some .local ->
  bindC kindOf (P.zip vs) m x=some v
 |[],_,_,_,_,h,_,_=>by simp at h
 |_::_,[],_,_,_,_,h,_=>by simp at h
 |p::P,w::vs,0,m,nd,h1,h2,hk=>by
  simp at h1 h2;subst h1;subst h2;show bindC kindOf ((p,w)::P.zip vs) m p=_;unfold bindC;rw[kzb λv hv=>(List.nodup_cons.mp nd).1 (List.of_mem_zip hv).1,Xm hk];simp
 |p::P,w::vs,i+1,m,nd,h1,h2,hk=>by
  show bindC kindOf ((p,w)::P.zip vs) m x=_;unfold bindC;exact kzc (i:=i) (List.nodup_cons.mp nd).2 (by simpa using h1) (by simpa using h2) hk
def start(N:List Str)(vs:List V):St:=vs.map some++List.replicate (N.length - vs.length) none
noncomputable def Jj(CX:CXT)(P:Program)(w:World)(K:PySem.W.Frag)(mg:Str->Option Value)(base:Heap)(N:List Str)(qual:Str)(scope:Scope)(f:Addr)(cd:Value)(A:Around)(outer:List Env)(s:Shared)(H:Hp)(E:XK):Cx where
 prog:=P
 w:=w
 K:=K
 mg:=mg
 base:=base
 A:=A.deeper (envOfC qual scope s.heap.objs.size f cd)
 N:=N
 s₀:=s
 H₀:=H
 env:=envOfC qual scope s.heap.objs.size f cd
 outer:=outer
 stack:=envOfC qual scope s.heap.objs.size f cd::outer
 ex:=[]
 calm:=true
 fn:=λ_=>true
 pn:=[]
 xe:=λe s'=>wpAny (model P w) (A.deeper (envOfC qual scope s.heap.objs.size f cd)) (leaving (envOfC qual scope s.heap.objs.size f cd) e) (λ_ m8=>CX outer H s E e m8) (λe' m8=>CX outer H s E e' m8) s'
theorem qkq{sc:Scope}{n:Nat}{x:Str}(h:sc.names.lookup x=some .cell):∃c,(cellsFrom n sc.names []).lookup x=some c:=by
 have q:=PySem.W.cellsFrom_some sc.names n [] (.inl h);exact Option.isSome_iff_exists.mp q
theorem qx9{CX:CXT}{P:Program}{w:World}{K:PySem.W.Frag}{mg:Str->Option Value}{base:Heap}{N ps:List Str}{qual:Str}{scope:Scope}{f:Addr}{cd:Value}{A:Around}{outer:List Env}{s s1:Shared}{H:Hp}{E:XK}{us:List Value}{vs:List V}
  (S:FnScope N ps scope) (hd:A.handled=none) (e0:Env0 P w K mg base A outer s H) (hl:vs.length=ps.length) (r:Vals vs us)
  (x:InCallC s s.heap.objs.size (bindL (envOfC qual scope s.heap.objs.size f cd).kindOf (ps.zip us) λ_=>none) (cellsFrom (s.heap.objs.size+1) scope.names []) (bindC (envOfC qual scope s.heap.objs.size f cd).kindOf (ps.zip us) λ_=>none) s1):
  Inv (Jj CX P w K mg base N qual scope f cd A outer s H E) [] (start N vs) H s1:=by
 have bt:ps.length<=N.length:=by have:=congrArg List.length S.pre;rw[Yh]at this;omega
 obtain⟨h1,tk,rfl,hk⟩:=x.done;have pp:∀b:Addr,b∉(Jj CX P w K mg base N qual scope f cd A outer s H E).ex:=λb z=>absurd (show b∈([]:List Addr)from z) (by simp)
 refine⟨⟨e0.mod,S.kind,rfl,rfl,Xe _,λy z c h1 h2=>?_,λy hy=>?_,λy c _ h=>?_,λ_=>hd,Around.frames_deeper e0.frames,.inr ⟨rfl,rfl⟩,λb z=>absurd z (pp b),e0.bs,e0.bsz,λb _ _=>pp b,λb z=>absurd z (pp b),e0.funs,e0.frf⟩,
  rfl,e0.bare,Un.kept hk,⟨_,x.toInCall.ns,λi y v h1 h2 h3=>?_⟩,λy c h=>⟨_,x.cell y c h⟩,e0.hok.fresh (Xe _),λy c h=>?_,λp hp=>absurd (show p∈([]:List (Addr×Obj))from hp) (by simp),e0.hok.kept hk,?_⟩
 ·exact name_of_addr x.apart (Yo h1) (Yo h2)
 ·have hy:scope.names.lookup y=some .cell\/scope.names.lookup y=some .free:=hy;rcases hy with hy|hy
  ·exact qkq hy
  ·exact absurd rfl (S.nofree _ (Yo hy))
 ·exact Nat.le_of_lt (x.above y c (Yo h))
 ·have hi:i<vs.length:=by
   unfold start at h2
   by_cases hi:i<vs.length
   ·exact hi
   ·rw[List.getElem?_append_right (by simpa using hi)]at h2;rw[List.getElem?_replicate]at h2
    split at h2<;>cases h2
  have ha:vs[i]?=some v:=by
   unfold start at h2;rw[List.getElem?_append_left (by simpa using hi),Xp]at h2;cases e:vs[i]? with
   |none=>rw[e]at h2;cases h2
   |some a=>rw[e]at h2;cases h2;rfl
  obtain⟨u,hu,rv⟩:=r.get ha;have hp:ps[i]?=some y:=by
   rw[<-S.pre,List.getElem?_take_of_lt (by omega)];exact h1
  have ndP:ps.Nodup:=by rw[<-S.pre];exact S.nd.sublist (List.take_sublist _ _)
  refine⟨u,rv,?_⟩;rcases S.par y (Yi hp)with k|k
  ·exact .inl ⟨k,kza ndP hp hu k⟩
  ·obtain⟨c,e⟩:=qkq (n:=s.heap.objs.size+1) k;refine .inr ⟨.inl k,c,e,?_⟩;have q:=x.cell y c e;rw[kzc ndP hp hu (by show scope.names.lookup y≠_;rw[k];decide)]at q;exact q
 ·exact e0.hok.fresh (Nat.le_of_lt (x.above y c (Yo h)))
 ·unfold start;show _=N.length;rw[Xn,X4,Yf];omega
theorem wvx{CX:CXT}{P:Program}{w:World}{K:PySem.W.Frag}{mg:Str->Option Value}{base:Heap}{k:Nat}{f:Addr}{name qual:Str}{params:Arguments}{body:List Stmt}{scope:Scope}{dV kV ia pm b8 ct oc:Value}{an od:Option Addr}
  {nh:Array (Option Value)} {N ps:List Str} {sp:Sp} (lk:K.lookup f=some ⟨oc,od,.func (PySem.W.fnOf name qual params body scope dV kV ia pm an b8 ct),nh⟩) (il:PySem.W.codeIn K b8 qual=true) (S:FnScope N ps scope)
  (len:∀vs H Q E,sp vs H Q E->vs.length=ps.length)
  (lj:∀(A:Around) (outer:List Env) (s:Shared) (H:Hp) (vs:List V) (Q:VK) (E:XK),Room k (A.deeper (envOfC qual scope s.heap.objs.size f b8))->sp vs H Q E ->
   ∃t,PSs (Jj CX P w K mg base N qual scope f b8 A outer s H E) body t/\t { nx:=λ_ H'=>Q .non H',rt:=Q } (start N vs) H):
  FnOk P w K mg base CX (k+1) f (PySem.W.fnOf name qual params body scope dV kV ia pm an b8 ct) ps sp:=by
 refine⟨len,λA outer s H args us vs Q E hr e0 hb r lq=>?_⟩;have hl:=len _ _ _ _ lq;have KX:K.In s.heap:=e0.mod.kin.keeps λb o e=>(e0.bs b o e).1
 have lim:s.heap.NoLimit:=e0.mod.nolimit.keeps λb o e=>(e0.bs b o e).1
 have ro:∀y∈ps.zip us,scope.names.lookup y.1=some .local\/(scope.names.lookup y.1=some .cell/\((cellsFrom (s.heap.objs.size+1) scope.names []).lookup y.1).isSome=true):=λ⟨n,v⟩ hy=>by
  rcases S.par n (List.of_mem_zip hy).1 with q|q
  ·exact .inl q
  ·exact .inr ⟨q,PySem.W.cellsFrom_some _ _ _ (.inl q)⟩
 refine codeAny_call_function hr.depth (KX _ _ lk) rfl S.co S.gen rfl (PySem.W.codeRec_of KX il) (hb _ _ _ _ ?_);refine wpAny_newFunctionEnv_cells S.kind ro λenv he s1 x=>?_
 subst he;refine⟨lim.keeps x.toInCall.keep,codeAny_func ?_⟩;obtain⟨t,ht,hq⟩:=lj A outer s H vs Q E (hr.deeper _) lq;have I:Inv (Jj CX P w K mg base N qual scope f b8 A outer s H E) [] (start N vs) H s1:=qx9 S hr.hd e0 hl r x;refine wpAny_mono (ht [] s1 (start N vs) H _ I hq) (λfl s' hs=>?_) λe s' hs=>hs
 have fin:∀{σ':St} {H':Hp} {v:V} {u:Value},Inv (Jj CX P w K mg base N qual scope f b8 A outer s H E) [] σ' H' s'->RelV v u->Q v H'->CE outer P w H s Q u s':=
  fun {σ' H' v u} J rv q=>⟨v,H',J.os,J.bare,J.base,J.hok,rv,q⟩
 cases fl with
 |ret u=>
  obtain⟨v,σ',H',J,rv,q⟩:=hs;exact fin J rv q
 |next=>
  obtain⟨σ',H',J,q⟩:=hs;exact fin (v:=V.non) (u:=Value.none) J rfl q
 |brk=>
  obtain⟨_,_,_,q⟩:=hs;exact False.elim q
 |cont=>
  obtain⟨_,_,_,q⟩:=hs;exact False.elim q
section
variable {X:Cx}{x:Str}{p pos:Pos}{e:Expr}{es:List Expr}{t:TA}{id T:String}{r:List V->Hp->VK->Prop}
abbrev tCB(r:List V->Hp->VK->Prop)(t:TA):TE:=fun σ H Q=>t σ H λvs H1=>r vs H1 Q
theorem qk2(hc:CallR X (.builtin id) r)(hg:Gl X x)(hm:X.mg x=none)(hv:bootBuiltins x=some (.builtin id))(ha:PA X (e::es) t)(hn:autoParam (x≠"__name__") ŕ)(i7:autoParam ((x==("__debug__":Str))=false) ŕ)
  (he:autoParam (starEach (e::es) X.env=(false,eval e X.env)::starEach es X.env) Ŕ) (bt:autoParam ((backTo pos (starEach es X.env)).any (·.1)=false) Ŕ):PE X (.Call (.Name x p) (e::es) [] pos) (tCB r t):=by
 intro pins s σ H Q I h;refine wpAny_Call_Name_kw (V4 I hg hm hv ?_ hn i7);exact PyProof.Rows.callWith_builtin1 (thn (ha pos pins s σ H _ I h) λus s1 ⟨vs,H1,I1,r1,q1⟩=>hc pins s1 σ H1 vs us Q I1 r1 q1) he bt
theorem qwd(hc:CallR X (.type T) r)(hg:Gl X x)(hm:X.mg x=none)(hv:bootBuiltins x=some (.type T))(ha:PA X (e::es) t)(hn:autoParam (x≠"__name__") ŕ)(i7:autoParam ((x==("__debug__":Str))=false) ŕ)
  (he:autoParam (starEach (e::es) X.env=(false,eval e X.env)::starEach es X.env) Ŕ) (bt:autoParam ((backTo pos (starEach es X.env)).any (·.1)=false) Ŕ):PE X (.Call (.Name x p) (e::es) [] pos) (tCB r t):=by
 intro pins s σ H Q I h;refine wpAny_Call_Name_kw (V4 I hg hm hv ?_ hn i7);exact Yk (thn (ha pos pins s σ H _ I h) λus s1 ⟨vs,H1,I1,r1,q1⟩=>hc pins s1 σ H1 vs us Q I1 r1 q1) he bt
end
end L2
namespace HT
open PySem PyProof.Rows
section
variable {prog:Program}{w:World}{A:Around}{E:Value->Shared->Prop}{s:Shared}
theorem cat_tup{t b:Addr}{vs ws:List Value}{Q:Value->Shared->Prop}(ht:IsTup s.heap t vs.toArray)(hb:IsTup s.heap b ws.toArray)(hv:vs≠[])
  (h1:ws=[]->Q (.ref t) s) (h2:ws≠[]->Q (.ref s.heap.objs.size) { s with heap:=s.heap.push { cls:=.type "tuple",data:=.seq (vs++ws).toArray } })
  (hsz:vs.length+ws.length<=sizeLine):wpAny (model prog w) A (binaryOp .Add (.ref t) (.ref b)) Q E s:=by
 obtain⟨⟨cls,dd,data,sl⟩,ho,hc,n,hd⟩:=id ht;obtain⟨⟨cls2,dd2,data2,m5⟩,jh,mz,n2,gm⟩:=id hb;simp only at hc hd mz gm;subst hc hd mz gm;have e:vs.toArray++ws.toArray=(vs++ws).toArray:=by simp
 by_cases hw:ws=[]
 ·exact concat_meets ⟨_,ho,rfl⟩ ⟨_,jh,rfl⟩ noFill_tuple_add seq_tuple_add PySem.F.slot_tuple_add PySem.F.entry_tuple_add (PySem.F.args_tuple_add_2 _ _)
   (tuple_addW1 t b vs.toArray ws.toArray n n2 dd dd2 sl m5 (by simpa using hv) (by simp[hw])) ⟨ho,jh,h1 hw⟩
 ·refine concat_meets ⟨_,ho,rfl⟩ ⟨_,jh,rfl⟩ noFill_tuple_add seq_tuple_add PySem.F.slot_tuple_add PySem.F.entry_tuple_add (PySem.F.args_tuple_add_2 _ _)
   (tuple_addW2 t b vs.toArray ws.toArray n n2 dd dd2 sl m5 (by simpa using hv) (by simpa using hw) (by rw[X6,X6];exact hsz)) ⟨ho,jh,?_⟩
  rw[e];exact h2 hw
def sIx(n d:Nat):Option Int->Nat
 |none=>d
 |some v=>if v<0 then(v+(n:Int)).toNat else min v.toNat n
theorem vxx(n d:Nat)(hd:d<=n)(o:Option Int):sIx n d o<=n:=by
 cases o with
 |none=>exact hd
 |some v=>
  show(if v<0 then(v+(n:Int)).toNat else min v.toNat n)<=n
  by_cases hv:v<0
  ·rw[Xf hv];omega
  ·rw[Xm hv];exact Nat.min_le_right _ _
theorem qxt(v:Int)(n d:Nat):(if v<0 then max (v+(n:Int)) 0 else min v (n:Int))=((sIx n d (some v):Nat):Int):=by
 show(if v<0 then max (v+(n:Int)) 0 else min v (n:Int))=(((if v<0 then(v+(n:Int)).toNat else min v.toNat n):Nat):Int)
 by_cases hv:v<0
 ·simp only[Xf hv];omega
 ·simp only[Xm hv];omega
theorem qqs(lo hi:Option Int)(n:Nat):Builtin.Slice.sliceAdjust lo hi 1 (n:Int)=(((sIx n 0 lo:Nat):Int),((sIx n n hi:Nat):Int)):=by
 have h1:¬((1:Int)<0):=by omega
 unfold Builtin.Slice.sliceAdjust;simp only[h1,if_false];refine Prod.ext ?_ ?_
 ·cases lo with
  |none=>rfl
  |some v=>exact qxt v n 0
 ·cases hi with
  |none=>rfl
  |some v=>exact qxt v n n
theorem qqa(i j:Nat):Builtin.Slice.slicePlaces (i:Int) (j:Int) 1=j - i:=by
 unfold Builtin.Slice.slicePlaces;have h1:(1:Int)>0:=by omega
 simp only[h1,if_true,Int.ediv_one]
 split<;>omega
theorem kv3{v:Value}{o:Option Int}{Q:Option Int->Shared->Prop}(p:IsPart v o)(h:Q o s):wpAny (model prog w) A (Builtin.Slice.slicePartIndex v) Q E s:=by
 cases p with
 |none=>exact slicePart_none h
 |int i t=>exact slicePart_int h
theorem kjg{sl:Addr}{vl vu:Value}{lo hi:Option Int}{n:Nat}{Q:Int×Int×Nat->Shared->Prop}(hs:s.heap.IsSliceOf sl vl vu .none)(pl:IsPart vl lo)(pu:IsPart vu hi)
  (h:Q (((sIx n 0 lo:Nat):Int),1,sIx n n hi - sIx n 0 lo) s):wpAny (model prog w) A (Builtin.Slice.sliceApplied (.ref sl) (pure (n:Int))) Q E s:=by
 obtain⟨os,jo,ju,gi⟩:=id hs;unfold Builtin.Slice.sliceApplied Builtin.Slice.sliceFields;refine X0 (X0 (Y3 jo gi (x:=vl) rfl (X0 (Y3 jo gi (x:=vu) rfl (X0 (Y3 jo gi (x:=.none) rfl (X5 ?_)))))));refine X0 (slicePart_none ?_);show wpAny _ _ (if((1:Int)==0)=true then _ else _) _ _ s;rw[Xm (by decide)];refine X0 (kv3 pl (X0 (kv3 pu (X0 (X5 ?_)))));show wpAny _ _ (match Builtin.Slice.sliceAdjust lo hi 1 (n:Int)with|(lo,hi)=>pure (lo,(1:Int),Builtin.Slice.slicePlaces lo hi 1)) _ _ s;rw[qqs lo hi n];show wpAny _ _ (pure (((sIx n 0 lo:Nat):Int),(1:Int),Builtin.Slice.slicePlaces ((sIx n 0 lo:Nat):Int) ((sIx n n hi:Nat):Int) 1)) _ _ s;rw[qqa];exact X5 h
theorem vj6(xs:Array Value)(i k:Nat):((List.range k).filterMap λ(m:Nat)=>xs[((i:Int)+(m:Int)*1).toNat]?).toArray=((xs.toList.drop i).take k).toArray:=by
 have e:(λ(m:Nat)=>xs[((i:Int)+(m:Int)*1).toNat]?)=λm=>xs[i+m]?:=by
  funext m;have:((i:Int)+(m:Int)*1).toNat=i+m:=by omega
  rw[this]
 rw[e];have:=pick_run xs i k;rw[List.filterMap_map]at this;have e2:((λx=>xs[x]?)∘λx=>i+x)=λm=>xs[i+m]?:=rfl
 rw[e2]at this;rw[this]
theorem getItem_tuple_cut{t sl:Addr}{items:Array Value}{vl vu:Value}{lo hi:Option Int}{Q:Value->Shared->Prop}(ht:IsTup s.heap t items)(hs:s.heap.IsSliceOf sl vl vu .none)(pl:IsPart vl lo)(pu:IsPart vu hi)
  (hw:¬(sIx items.size 0 lo=0/\sIx items.size items.size hi=items.size))
  (h:Q (.ref s.heap.objs.size) { s with heap:=s.heap.push { cls:=.type "tuple",data:=.seq ((items.toList.drop (sIx items.size 0 lo)).take (sIx items.size items.size hi - sIx items.size 0 lo)).toArray } })
  (hsz:items.size<=sizeLine):wpAny (model prog w) A (getItem (.ref t) (.ref sl)) Q E s:=by
 have jc:sizeOk (.seq ((items.toList.drop (sIx items.size 0 lo)).take (sIx items.size items.size hi - sIx items.size 0 lo)).toArray):=by
  show((items.toList.drop (sIx items.size 0 lo)).take (sIx items.size items.size hi - sIx items.size 0 lo)).toArray.size<=sizeLine;rw[X6,Yh,Z4,Xa];omega
 have hj:sIx items.size items.size hi<=items.size:=vxx _ _ (Xe _) hi;obtain⟨os,jo,ju,gi⟩:=id hs;have hTs:s.TypeIs (.ref sl) "slice":=⟨os,jo,ju⟩;unfold getItem
 try with_reducible refine Yl ?_
 first|refine X0 (X5 ?_)|skip
 refine X0 (wpAny_sequenceKey ht.typeIs (by decide) ?_);refine X0 (Y4 (name:=Str.ofString "__getitem__") ht.typeIs PyProof.Rows.slot_tuple_getitem
  (Xz PyProof.Rows.slot_tuple_getitem ht.typeIs entry_tuple_getitem ?_ (args_tuple_getitem _ _)))
 show wpAny _ _ (Builtin.Tuple.tupleItemsOf (.ref t) >>= _) _ _ s;refine X0 (tupleItemsOf_ ht ?_);refine X0 (wpAny_typeOf hTs ?_);rw[Xf (by decide)];refine X0 (kjg hs pl pu ?_);have ll:¬((((sIx items.size 0 lo:Nat):Int)==0&&(1:Int)==1&&(sIx items.size items.size hi - sIx items.size 0 lo)==items.size)=true):=by
  intro q;rw[Bool.and_eq_true,Bool.and_eq_true]at q;have q1:((sIx items.size 0 lo:Nat):Int)=0:=eq_of_beq q.1.1;have q2:sIx items.size items.size hi - sIx items.size 0 lo=items.size:=eq_of_beq q.2;exact hw ⟨by omega,by omega⟩
 show wpAny _ _ (if(((sIx items.size 0 lo:Nat):Int)==0&&(1:Int)==1&&(sIx items.size items.size hi - sIx items.size 0 lo)==items.size)=true then _ else _) _ _ s;rw[Xm ll,vj6]
 first
  |exact X0 (m:=Builtin.Tuple.tupleExact _) (Xs (X5 ⟨_,rfl,X5 h⟩) jc)
  |exact X0 (m:=Builtin.Tuple.tupleExact _) (Xs (X0 (X5 (X5 ⟨_,rfl,X5 h⟩))) jc)
  |exact X0 (X0 (m:=Builtin.Tuple.tupleExact _) (Xs (X5 (X5 ⟨_,rfl,X5 h⟩)) jc))
  |exact X0 (X0 (m:=Builtin.Tuple.tupleExact _) (Xs (X5 ⟨_,rfl,X5 h⟩) jc))
end
end HT
namespace L2
open PySem PySem.Spec PyProof.Rows
abbrev TO:=St->Hp->(Option Int->Hp->Prop)->Prop
noncomputable def PO(X:Cx)(e:Option Expr)(t:TO):Prop:=
 ∀(pins:List (Addr×Obj)) (s:Shared) (σ:St) (H:Hp) (Q:Option Int->Hp->Prop),Inv X pins σ H s->t σ H Q ->
  wpAny (model X.prog X.w) X.A (evalPart e X.env) (λu s'=>∃o H',Inv X pins σ H' s'/\IsPart u o/\Q o H') X.xe s
abbrev qv6:TO:=λ_ H Q=>Q none H
abbrev vxi(t:TE):TO:=fun σ H Q=>t σ H λx H1=>∃i,x=.int i/\Q (some i) H1
theorem qqk{ns:List Int}:∀{us:List Value},Vals (ns.map V.int) us->IntsAre us ns:=by
 induction ns with
 | nil=>intro us r;rw[List.map_nil]at r;cases r;exact .nil
 | cons n ns ih=>
  intro us r;rw[List.map_cons]at r;cases r with
  |cons r1 r2=>
   obtain⟨t,e⟩:=r1;subst e;exact .cons n t (ih r2)
section
variable {X:Cx}{e:Expr}{te:TE}{lo hi:Option Expr}{tl th:TO}{pos p2:Pos}
theorem vvg:PO X none qv6:=by
 intro pins s σ H Q I h;rw[evalPart_none];exact X5 ⟨none,H,I,.none,h⟩
theorem vvf(h:PE X e te):PO X (some e) (vxi te):=by
 intro pins s σ H Q I hw;rw[evalPart_some];refine thn (h pins s σ H _ I hw) λu s1 ⟨x,H1,I1,r1,q1⟩=>?_
 obtain⟨i,rfl,q⟩:=q1;obtain⟨t,rfl⟩:=r1;exact⟨some i,H1,I1,.int i t,q⟩
noncomputable def SlR(X:Cx)(r:V->Option Int->Option Int->Hp->VK->Prop):Prop:=
 ∀(pins:List (Addr×Obj)) (s:Shared) (σ:St) (H:Hp) (x:V) (v vl vu:Value) (lo hi:Option Int) (sl:Addr) (Q:VK),Inv X pins σ H s->RelV x v->s.heap.IsSliceOf sl vl vu .none->IsPart vl lo->IsPart vu hi->r x lo hi H Q ->
  ∃T id,typeLookup (.type T) "__getitem__"=pure (some (.builtin id))/\s.TypeIs v T/\wpAny (model X.prog X.w) X.A (getItem v (.ref sl)) (EP X pins σ Q) X.xe s
theorem SlR.or{r r':V->Option Int->Option Int->Hp->VK->Prop}(h:SlR X r)(h':SlR X r'):SlR X (λx lo hi H Q=>r x lo hi H Q\/r' x lo hi H Q):=by
 intro pins s σ H x v vl vu lo hi sl Q I rx hs pl pu q;rcases q with q|q
 ·exact h pins s σ H x v vl vu lo hi sl Q I rx hs pl pu q
 ·exact h' pins s σ H x v vl vu lo hi sl Q I rx hs pl pu q
abbrev tSl(r:V->Option Int->Option Int->Hp->VK->Prop)(te:TE)(tl th:TO):TE:=fun σ H Q=>te σ H λx H1=>tl σ H1 λl H2=>th σ H2 λu H3=>r x l u H3 Q
theorem vj7{r:V->Option Int->Option Int->Hp->VK->Prop}(hr:SlR X r)(he:PE X e te)(hl:PO X lo tl)(hu:PO X hi th):PE X (.Subscript e (.Slice lo hi none p2) pos) (tSl r te tl th):=by
 intro pins s σ H Q I h;refine Subscript_ (thn (he pins s σ H _ I h) λv s1 ⟨x,H1,I1,r1,q1⟩=>?_);refine wpAny_Slice (thn (hl pins s1 σ H1 _ I1 q1) λvl s2 ⟨l,H2,I2,pl,q2⟩=>thn (hu pins s2 σ H2 _ I2 q2) λvu s3 ⟨u,H3,I3,pu,q3⟩=>?_);rw[evalPart_none];refine X5 ?_;have I4:Inv X pins σ H3 { s3 with heap:=s3.heap.push { cls:=.type "slice",data:=.fields #[vl,vu,.none] } }:=I3.kept (t':=s3.toks) λb ob q=>X1 _ q
 obtain⟨T,id,hT,ht,hg⟩:=hr pins { s3 with heap:=s3.heap.push { cls:=.type "slice",data:=.fields #[vl,vu,.none] } } σ H3 x v vl vu l u s3.heap.objs.size Q I4 r1 (Heap.IsSliceOf.new ..) pl pu q3;show wpAny (model X.prog X.w) X.A (subscriptTail e (.Slice lo hi none p2) v (.ref s3.heap.objs.size)) (EP X pins σ Q) X.xe { s3 with heap:=s3.heap.push { cls:=.type "slice",data:=.fields #[vl,vu,.none] } };exact tail_any (ops:=[.ref s3.heap.objs.size,v]) ht hT hg (by with_unfolding_all rfl)
noncomputable def Qv(xs:List V)(lo hi:Option Int):List V:=(xs.drop (HT.sIx xs.length 0 lo)).take (HT.sIx xs.length xs.length hi - HT.sIx xs.length 0 lo)
theorem kkz(xs:List V)(lo hi:Option Int):(Qv xs lo hi).length<=xs.length:=by
 unfold Qv;rw[Yh,Z4];omega
noncomputable def wwp(K:PySem.W.Frag):V->Option Int->Option Int->Hp->VK->Prop:=λx lo hi H Q=>∃a xs,x=.ref a/\SqT K H a xs /\
 ¬(HT.sIx xs.length 0 lo=0/\HT.sIx xs.length xs.length hi=xs.length)/\∀p,H p=none->Q (.ref p) (upd H p (.tup (Qv xs lo hi)))
theorem sl_tup:SlR X (wwp X.K):=by
 intro pins s σ H x v vl vu lo hi sl Q I rx hs pl pu h;obtain⟨a,xs,rfl,hx,hw,q⟩:=h;cases rx;obtain⟨aa,r,ht,hz⟩:=I.tuple hx;have af:aa.toArray.size=xs.length:=by rw[X6];exact r.length.symm
 refine⟨"tuple",_,PyProof.Rows.slot_tuple_getitem.lookup,ht.typeIs,?_⟩;refine HT.getItem_tuple_cut ht hs pl pu (by rw[af];exact hw) ?_ (by rw[af];exact hz);rw[af];refine⟨.ref s.heap.objs.size,_,I.laid (t':=s.toks) (o:=.tup (Qv xs lo hi)) (λb ob q=>X1 _ q) (Xe _) ?_,rfl,q _ (I.hok.fresh (Xe _))⟩;exact⟨Xw (kkz xs lo hi) hz,_,(r.drop (HT.sIx xs.length 0 lo)).take (HT.sIx xs.length xs.length hi - HT.sIx xs.length 0 lo),IsTupD.new _ _⟩
noncomputable def vz6(K:PySem.W.Frag):R2:=λx y H Q=>∃a b xs ys,x=.ref a/\y=.ref b/\SqT K H a xs/\SqT K H b ys/\xs≠[]/\xs.length+ys.length<=sizeLine /\
 (ys=[]->Q (.ref a) H)/\(ys≠[]->∀p,H p=none->Q (.ref p) (upd H p (.tup (xs++ys))))
theorem Vals.nil_iff{xs:List V}{us:List Value}(r:Vals xs us):us=[]↔xs=[]:=by
 cases r with
 |nil=>simp
 |cons _ _=>simp
theorem vvu:OpR X (binaryOp .Add) (vz6 X.K):=by
 intro pins s σ H x y v u Q I rx ry h;obtain⟨a,b,xs,ys,rfl,rfl,ha,hb,hx,hz,q1,q2⟩:=h;cases rx;cases ry;obtain⟨aa,r1,p1,_⟩:=I.tuple ha;obtain⟨bu,r2,p2,_⟩:=I.tuple hb;refine HT.cat_tup p1 p2 (λz=>hx (r1.nil_iff.mp z)) (λz=>⟨.ref a,H,I,rfl,q1 (r2.nil_iff.mp z)⟩) (λz=>?_) (by rw[<-r1.length,<-r2.length];exact hz);refine⟨.ref s.heap.objs.size,_,I.laid (t':=s.toks) (o:=.tup (xs++ys)) (λb ob q=>X1 _ q) (Xe _) ?_,rfl,q2 (λw=>z (r2.nil_iff.mpr w)) _ (I.hok.fresh (Xe _))⟩;exact⟨by rw[Xn];exact hz,_,r1.append r2,IsTupD.new _ _⟩
end
noncomputable def ixN(n:Nat)(i:Int):Option Nat:=if 0<=i then(if i<n then some i.toNat else none)else if -(n:Int)<=i then some (i+n).toNat else none
def atI{α:Type}(xs:List α)(i:Int):Option α:=(ixN xs.length i).bind λj=>xs[j]?
theorem qx4{n:Nat}{i:Int}{j:Nat}(h:ixN n i=some j):seqIndex? i n=some j/\j<n/\-(n:Int)<=i/\i<n:=by
 unfold ixN at h
 by_cases h0:0<=i
 ·rw[Xf h0]at h
  by_cases h1:i<n
  ·rw[Xf h1]at h;have e:i.toNat=j:=oq9 h;exact⟨by rw[seqIndex_of h0 h1,e],by omega,by omega,h1⟩
  ·rw[Xm h1]at h;cases h
 ·rw[Xm h0]at h
  by_cases h1:-(n:Int)<=i
  ·rw[Xf h1]at h;have e:(i+n).toNat=j:=oq9 h;exact⟨by rw[seqIndex_neg (by omega) h1,e],by omega,h1,by omega⟩
  ·rw[Xm h1]at h;cases h
theorem qjc{α:Type}{xs:List α}{i:Int}{v:α}(h:atI xs i=some v):∃j,seqIndex? i xs.length=some j/\xs[j]?=some v/\j<xs.length/\-(xs.length:Int)<=i/\i<xs.length:=by
 unfold atI at h;cases e:ixN xs.length i with
 |none=>rw[e]at h;cases h
 |some j=>
  rw[e]at h;obtain⟨h1,h2,h3,h4⟩:=qx4 e;exact⟨j,h1,h,h2,h3,h4⟩
def W4(b:Expr):Prop:=∀o i,subscripted b false o i=operate [o,i] (getItem o i)
noncomputable def IxR(X:Cx)(r:R2):Prop:=
 ∀(value slice:Expr) (pins:List (Addr×Obj)) (s:Shared) (σ:St) (H:Hp) (x y:V) (v u:Value) (Q:VK),Inv X pins σ H s->RelV x v->RelV y u->r x y H Q ->
  subscripted slice false v u=operate [v,u] (getItem v u)->wpAny (model X.prog X.w) X.A (subscriptTail value slice v u) (EP X pins σ Q) X.xe s
noncomputable def MtR(X:Cx)(id:String)(r:V->List V->Hp->VK->Prop):Prop:=
 ∀(pins:List (Addr×Obj)) (s:Shared) (σ:St) (H:Hp) (x:V) (xs:List V) (v:Value) (us:List Value) (Q:VK),Inv X pins σ H s->RelV x v->Vals xs us->r x xs H Q ->
  wpAny (model X.prog X.w) X.A (call (.builtin id) (v::us)) (EP X pins σ Q) X.xe s
section
variable {X:Cx}{a b:Expr}{ta tb:TE}{pos:Pos}
theorem IxR.or{r r':R2}(h:IxR X r)(h':IxR X r'):IxR X (λx y H Q=>r x y H Q\/r' x y H Q):=by
 intro value slice pins s σ H x y v u Q I rx ry q hs;rcases q with q|q
 ·exact h value slice pins s σ H x y v u Q I rx ry q hs
 ·exact h' value slice pins s σ H x y v u Q I rx ry q hs
theorem ZQ{r:R2}(hr:IxR X r)(ha:PE X a ta)(hb:PE X b tb)(hs:W4 b):PE X (.Subscript a b pos) (tOp r ta tb):=by
 intro pins s σ H Q I h;exact Subscript_ (wwc ha hb I h λv u s2 x y H2 I2 rx ry q=>hr a b pins s2 σ H2 x y v u Q I2 rx ry q (hs _ _))
def wwv(K:PySem.W.Frag):R2:=λx y H Q=>∃p xs i v,x=.ref p/\y=.int i/\SqL K H p xs/\atI xs i=some v/\Q v H
def wwt(K:PySem.W.Frag):R2:=λx y H Q=>∃p xs i v,x=.ref p/\y=.int i/\SqT K H p xs/\atI xs i=some v/\Q v H
noncomputable def wwu:R2:=λx y H Q=>∃z i c,x=.str z/\y=.int i/\z.length<=sizeLine/\atI z.cps.toList i=some c/\Q (.str ⟨#[c]⟩) H
theorem ix_list:IxR X (wwv X.K):=by
 intro value slice pins s σ H x y v u Q I rx ry h hs;obtain⟨p,xs,i,z,rfl,rfl,hq,he,q⟩:=h;cases rx;obtain⟨t,rfl⟩:=ry;obtain⟨aa,r,pl,hz⟩:=I.list hq;obtain⟨j,h1,h2,h3,h4,h5⟩:=qjc he;obtain⟨w,ew,qc⟩:=r.get h2;have hl:=r.length;have hn:=Zv;have fin:EP X pins σ Q w s:=⟨z,H,I,qc,q⟩
 by_cases h0:0<=i
 ·have hj:i.toNat=j:=by
   rw[seqIndex_of h0 h5]at h1;exact oq9 h1
  exact item_listR pl.isList h0 (by omega) (by rw[hj];simpa using ew) fin hs
 ·have hj:(i+(aa.toArray.size:Int)).toNat=j:=by
   rw[seqIndex_neg (by omega) h4]at h1;rw[X6,<-hl];exact oq9 h1
  exact subscriptTail_builtinR (x:=w) pl.isList.typeIs slot_list_getitem.lookup
   (wpAny_getItem_list_neg (Q:=λr s'=>r=w/\EP X pins σ Q r s') pl.isList (by omega) (by rw[X6]<;>omega) (by omega) (by rw[hj];simpa using ew) ⟨rfl,fin⟩) hs
theorem ix_tup:IxR X (wwt X.K):=by
 intro value slice pins s σ H x y v u Q I rx ry h hs;obtain⟨p,xs,i,z,rfl,rfl,hq,he,q⟩:=h;cases rx;obtain⟨t,rfl⟩:=ry;obtain⟨aa,r,pl,hz⟩:=I.tuple hq;obtain⟨j,h1,h2,h3,h4,h5⟩:=qjc he;obtain⟨w,ew,qc⟩:=r.get h2;have hl:=r.length;have hn:=Zv;have fin:EP X pins σ Q w s:=⟨z,H,I,qc,q⟩;exact subscriptTail_builtinR (x:=w) pl.typeIs slot_tuple_getitem.lookup
  (getItem_tuple (j:=j) (Q:=λr s'=>r=w/\EP X pins σ Q r s') pl (by omega) (by omega) (by rw[X6,<-hl];exact h1) (by simpa using ew) ⟨rfl,fin⟩) hs
theorem wjw:IxR X wwu:=by
 intro value slice pins s σ H x y v u Q I rx ry h hs;obtain⟨z,i,c,rfl,rfl,hz,he,q⟩:=h;obtain⟨t,rfl⟩:=rx;obtain⟨t',rfl⟩:=ry;obtain⟨j,h1,h2,h3,h4,h5⟩:=qjc he;have hl:z.cps.toList.length=z.length:=by simp[Str.length]
 rw[hl]at h1 h4 h5;have hn:=Zv;exact tail_any (typeIs_str s z t) slot_str_getitem.lookup (getItem_str (c:=c) (by
  have e1:decide (i < -(2 ^ 63:Int))=false:=Y8 (by omega);have e2:decide (i>=2 ^ 63)=false:=Y8 (by omega);rw[e1,e2,Bool.or_false]) (by rw[h1];simpa using h2) ⟨.str ⟨#[c]⟩,H,I.tok _,⟨_,rfl⟩,q⟩) hs
def rIx(K:PySem.W.Frag):R2:=λx y H Q=>wwv K x y H Q\/wwt K x y H Q\/wwu x y H Q
theorem kxx:IxR X (rIx X.K):=ix_list.or (ix_tup.or wjw)
theorem kwr(lo hi:Option Int)(n:Nat):(sliceBounds lo hi none n).1=((HT.sIx n 0 lo:Nat):Int)/\(sliceBounds lo hi none n).2.1=((HT.sIx n n hi:Nat):Int)/\(sliceBounds lo hi none n).2.2=1:=by
 refine⟨?_,?_,rfl⟩
 ·cases lo with
  |none=>simp[sliceBounds,HT.sIx]
  |some i=>
   simp only[sliceBounds,HT.sIx,Option.getD_none,show(1:Int)>0 by decide,if_true]
   by_cases h:i<0
   ·simp only[h,if_true]<;>omega
   ·simp only[h,if_false]<;>omega
 ·cases hi with
  |none=>simp[sliceBounds,HT.sIx]
  |some i=>
   simp only[sliceBounds,HT.sIx,Option.getD_none,show(1:Int)>0 by decide,if_true]
   by_cases h:i<0
   ·simp only[h,if_true]<;>omega
   ·simp only[h,if_false]<;>omega
theorem kvj(aa:List Value)(lo hi:Option Int):slicePick aa.toArray lo hi none=((aa.drop (HT.sIx aa.length 0 lo)).take (HT.sIx aa.length aa.length hi - HT.sIx aa.length 0 lo)).toArray:=by
 obtain⟨h1,h2,h3⟩:=kwr lo hi aa.toArray.size;unfold slicePick;rw[h1,h2,h3];simp only[sliceRange_one,pick_run,X6]<;>rfl
noncomputable def wwr(K:PySem.W.Frag):V->Option Int->Option Int->Hp->VK->Prop:=λx lo hi H Q=>∃a xs,x=.ref a/\SqL K H a xs/\∀p,H p=none->Q (.ref p) (upd H p (.lst (Qv xs lo hi)))
theorem sl_list:SlR X (wwr X.K):=by
 intro pins s σ H x v vl vu lo hi sl Q I rx hs pl pu h;obtain⟨a,xs,rfl,hx,q⟩:=h;cases rx;obtain⟨aa,r,ht,hz⟩:=I.list hx;have af:=r.length;refine⟨"list",_,slot_list_getitem.lookup,ht.isList.typeIs,?_⟩;refine wpAny_getItem_list_slice ht.isList hs pl pu .none (by simp) ?_ (by rw[X6]<;>omega);rw[kvj,<-af];refine⟨.ref s.heap.objs.size,_,I.laid (t':=s.toks) (o:=.lst (Qv xs lo hi)) (λb ob q=>X1 _ q) (Xe _) ?_,rfl,q _ (I.hok.fresh (Xe _))⟩;exact⟨Xw (kkz xs lo hi) hz,_,0,(r.drop (HT.sIx xs.length 0 lo)).take (HT.sIx xs.length xs.length hi - HT.sIx xs.length 0 lo),X8 _ rfl⟩
theorem call_len_seq:CallR X (.builtin "len") (λxs H Q=>∃p ys,xs=[.ref p]/\(SqL X.K H p ys\/SqT X.K H p ys)/\Q (.int ys.length) H):=by
 intro pins s σ H xs us Q I r h;obtain⟨p,ys,rfl,hq,q⟩:=h;obtain⟨u,rfl,rx⟩:=x8 r;cases rx;have hn:=Zv;rcases hq with hq|hq
 ·obtain⟨aa,r',pl,hz⟩:=I.list hq;have af:=r'.length;exact Calls.call_len_list pl.isList (by simp only[X6]<;>omega) ⟨.int ys.length,H,I.tok _,⟨s.toks+1,by rw[X6,af]⟩,q⟩
 ·obtain⟨aa,r',pl,hz⟩:=I.tuple hq;have af:=r'.length;exact len_tuple pl (by simp only[X6]<;>omega) ⟨.int ys.length,H,I.tok _,⟨s.toks+1,by rw[X6,af]⟩,q⟩
theorem call_len_str:CallR X (.builtin "len") (λxs H Q=>∃z,xs=[.str z]/\z.length<=sizeLine/\Q (.int z.length) H):=by
 intro pins s σ H xs us Q I r h;obtain⟨z,rfl,hz,q⟩:=h;obtain⟨u,rfl,t,rfl⟩:=x8 r;have hn:=Zv;exact len_str (by omega) ⟨.int z.length,H,I.tok _,⟨_,rfl⟩,q⟩
theorem CallR.or{f:Value}{r r':List V->Hp->VK->Prop}(h:CallR X f r)(h':CallR X f r'):CallR X f (λxs H Q=>r xs H Q\/r' xs H Q):=by
 intro pins s σ H xs us Q I rs q;rcases q with q|q
 ·exact h pins s σ H xs us Q I rs q
 ·exact h' pins s σ H xs us Q I rs q
theorem kz7:CallR X (.type "list") (λxs H Q=>∃p ys,xs=[.ref p]/\(SqL X.K H p ys\/SqT X.K H p ys)/\∀l,H l=none->Q (.ref l) (upd H l (.lst ys))):=by
 intro pins s σ H xs us Q I r h;obtain⟨p,ys,rfl,hq,q⟩:=h;obtain⟨u,rfl,rx⟩:=x8 r;cases rx;have fin:∀(aa:List Value),Vals ys aa->ys.length<=sizeLine->∀(h':Heap) (c':Nat),(∀b o',s.heap.get? b=some o'->h'.get? b=some o') ->
   h'.get? s.heap.objs.size=some { cls:=.type "list",dict:=none,data:=.seq aa.toArray c',slots:=#[] }->EP X pins σ Q (.ref s.heap.objs.size) { s with heap:=h' }:=λaa r' hz h' c' kp e=>
  ⟨.ref s.heap.objs.size,_,I.laid (t':=s.toks) kp (Xe _) (show ObjOk X.prog X.w _ h' _ (.lst ys)from⟨hz,aa,c',r',e⟩),rfl,q _ (I.hok.fresh (Xe _))⟩
 rcases hq with hq|hq
 ·obtain⟨aa,r',pl,hz⟩:=I.list hq;have af:=r'.length;obtain⟨o,ho,hc,n,hd⟩:=pl.isList;exact call_list_seq p (.inl rfl) ho hc hd (λh' c' kp e=>fin aa r' hz h' c' kp e) (by simp only[X6]<;>omega)
 ·obtain⟨aa,r',pl,hz⟩:=I.tuple hq;have af:=r'.length;obtain⟨o,ho,hc,n,hd⟩:=pl;exact call_list_seq p (.inr rfl) ho hc hd (λh' c' kp e=>fin aa r' hz h' c' kp e) (by simp only[X6]<;>omega)
theorem kwd:CallR X (.type "tuple") (λxs H Q=>∃p ys,xs=[.ref p]/\((SqL X.K H p ys/\∀l,H l=none->Q (.ref l) (upd H l (.tup ys)))\/(SqT X.K H p ys/\Q (.ref p) H))):=by
 intro pins s σ H xs us Q I r h;obtain⟨p,ys,rfl,h⟩:=h;obtain⟨u,rfl,rx⟩:=x8 r;cases rx;rcases h with⟨hq,q⟩|⟨hq,q⟩
 ·obtain⟨aa,r',pl,hz⟩:=I.list hq;have af:=r'.length;refine call_tuple_list pl.isList (λh' kp=>?_) (by simp only[X6]<;>omega);have I1:Inv X pins σ H { s with heap:=h' }:=I.kept (t':=s.toks) kp;have I2:Inv X pins σ (upd H h'.objs.size (.tup ys)) { s with heap:=h'.push { cls:=.type "tuple",data:=.seq aa.toArray } }:=
   I1.laid (t':=s.toks) (λb o e=>X1 _ e) (Xe _) (show ObjOk X.prog X.w _ _ _ (.tup ys)from⟨hz,aa,r',IsTupD.new _ _⟩)
  exact⟨.ref h'.objs.size,_,I2,rfl,q _ (I1.hok.fresh (Xe _))⟩
 ·obtain⟨aa,r',pl,hz⟩:=I.tuple hq;exact call_tuple_same pl ⟨.ref p,H,I,rfl,q⟩
noncomputable def tyV(K : PySem.W.Frag)(T : String)(x : V)(H : Hp): Prop:= match x with
  |.str _=>T = "str"
  |.int _=>T = "int"
  |.ref p=>(T = "list" /\ ∃xs, SqL K H p xs) \/ (T = "tuple" /\ ∃o, K.lookup p = some o /\ o.cls = .type "tuple" /\ o.dict = none) \/
      (T = "dict" /\ ((∃ao, H p = some (.dK ao)) \/ ∃ao, H p = some (.dT ao))) \/ (T = "set" /\ ∃S n, H p = some (.set S n))
  |_=>False
theorem vk9{pins:List (Addr×Obj)}{σ:St}{H:Hp}{s:Shared}{T:String}{x:V}{v:Value}(I:Inv X pins σ H s)(r:RelV x v)(ty:tyV X.K T x H):
  s.TypeIs v T/\∀a,v=.ref a->∃ob,s.heap.get? a=some ob/\ob.dict=none:=by
 cases x with
 | str z=>
  obtain⟨t,rfl⟩:=r;cases(show T="str" from ty);exact⟨typeIs_str s z t,λ_ e=>nomatch e⟩
 | int i=>
  obtain⟨t,rfl⟩:=r;cases(show T="int" from ty);exact⟨typeIs_int s i t,λ_ e=>nomatch e⟩
 | ref p=>
  cases r;rcases ty with⟨rfl,xs,hq⟩|⟨rfl,o,hk,hc,hd⟩|⟨rfl,hk⟩|⟨rfl,S,n,hk⟩
  ·obtain⟨aa,_,pl,_⟩:=I.list hq;refine⟨pl.isList.typeIs,λa e=>?_⟩;cases e;obtain⟨o,n,e,c,hd,_⟩:=pl;exact⟨o,e,hd⟩
  ·refine⟨⟨o,I.kIn p o hk,hc⟩,λa e=>?_⟩;cases e;exact⟨o,I.kIn _ o hk,hd⟩
  ·have z:∃o,s.heap.get? p=some o/\o.ExactDict:=by
    rcases hk with⟨ao,hk⟩|⟨ao,hk⟩
    ·obtain⟨_,_,_,_,o,_,_,e,ex,_⟩:=I.hok p _ hk;exact⟨o,e,ex⟩
    ·obtain⟨_,_,_,_,o,_,_,e,ex,_⟩:=I.hok p _ hk;exact⟨o,e,ex⟩
   obtain⟨o,e,ex⟩:=z;refine⟨⟨o,e,ex.1⟩,λa e2=>?_⟩;cases e2;exact⟨o,e,ex.2.1⟩
  ·obtain⟨o,_,_,_,e,ex,_⟩:=I.hok p _ hk;refine⟨⟨o,e,ex.1⟩,λa e2=>?_⟩;cases e2;exact⟨o,e,ex.2.1⟩
 |_=>exact False.elim ty
abbrev wwk(K:PySem.W.Frag)(T:String)(r:V->List V->Hp->VK->Prop)(to:TE):TE:=fun σ H Q=>to σ H λx H1=>tyV K T x H1/\r x [] H1 Q
abbrev tBM(K:PySem.W.Frag)(T:String)(r:V->List V->Hp->VK->Prop)(to:TE)(t:TA):TE:=fun σ H Q=>to σ H λx H1=>tyV K T x H1/\t σ H1 λxs H2=>r x xs H2 Q
variable {o e:Expr}{es:List Expr}{to:TE}{t:TA}{name:Str}{ak ab:Pos}{T id:String}{r:V->List V->Hp->VK->Prop}
theorem wj0(pa:PlainAttrs T)(slot:Slot T name id)(mf:typeOf (.builtin id)=pure (.type "method_descriptor"))(hm:MtR X id r)(ho:PE X o to)
  (ax:autoParam (attributeBase o name X.env (eval o X.env)=eval o X.env) Ŕ) (az:autoParam ((ak.endLine==ab.line)=true) Ŕ):PE X (.Call (.Attribute o name ak) [] [] ab) (wwk X.K T r to):=by
 intro pins s σ H Q I h;refine wpAny_Call_method0_late ax az (thn (ho pins s σ H _ I h) λv s1 ⟨x,H1,I1,r1,ty,q1⟩=>?_);obtain⟨h1,h2⟩:=vk9 I1 r1 ty;exact⟨T,id,pa,slot,mf,h1,h2,Calls.callWith_builtin rfl (PySem.evalArgs_none (hm pins s1 σ H1 x [] v [] Q I1 r1 .nil q1))⟩
theorem qwf(pa:PlainAttrs T)(slot:Slot T name id)(mf:typeOf (.builtin id)=pure (.type "method_descriptor"))(hm:MtR X id r)(ho:PE X o to)(ha:PA X (e::es) t)
  (ax:autoParam (attributeBase o name X.env (eval o X.env)=eval o X.env) Ŕ)
  (cb:autoParam (((backTo ab (starEach (e::es) X.env)).all (λx=>!x.1)&&(backToKw ab (keywordEach [] X.env)).all (λx=>x.1.isSome)
   && decide ((e::es).length+([]:List Keyword).length+(if([]:List Keyword).isEmpty then 0 else 1)<30))=true) Ŕ)
  (az:autoParam ((ak.endLine==ab.line)=true) Ŕ) (hs:autoParam (starEach (e::es) X.env=(false,eval e X.env)::starEach es X.env) Ŕ) (b6:autoParam ((backTo ab (starEach es X.env)).any (·.1)=false) Ŕ):
  PE X (.Call (.Attribute o name ak) (e::es) [] ab) (tBM X.K T r to t):=by
 intro pins s σ H Q I h;refine wpAny_Call_method_late ax cb az rfl (thn (ho pins s σ H _ I h) λv s1 ⟨x,H1,I1,r1,ty,q1⟩=>?_);obtain⟨h1,h2⟩:=vk9 I1 r1 ty;refine⟨T,id,pa,slot,mf,h1,h2,?_⟩;have hA:=ha ab pins s1 σ H1 _ I1 q1;rw[hs]at hA ⊢;refine Calls.callWith_builtin (by show(false||(backTo ab (starEach es X.env)).any (·.1))=false;rw[b6]<;>rfl) (Calls.evalArgs_plain ?_);exact thn hA λus s2 ⟨vs,H2,I2,r2,q2⟩=>hm pins s2 σ H2 x vs v us Q I2 r1 r2 q2
end
noncomputable def MtM(X:Cx)(id:String)(r:V->List V->Hp->VK->Prop):Prop:=
 ∀(pins:List (Addr×Obj)) (s:Shared) (σ:St) (H:Hp) (x:V) (xs:List V) (v:Value) (us:List Value) (Q:VK),Inv X pins σ H s->RelV x v->Vals xs us->r x xs H Q ->
  wpAny (model X.prog X.w) X.A (call (.builtin id) (v::us)) (EP X pins σ Q) X.xe s
theorem Vals.one:∀{x:V} {us:List Value},Vals [x] us->∃u,us=[u]/\RelV x u
 |_,_,.cons r .nil=>⟨_,rfl,r⟩
theorem Vals.zero:∀{us:List Value},Vals [] us->us=[]
 |_,.nil=>rfl
theorem Vals.rep{xs:List V}{us:List Value}(h:Vals xs us):∀k:Nat,Vals (List.replicate k xs).flatten (List.replicate k us).flatten
 |0=>.nil
 |k+1=>by
  rw[List.replicate_succ,List.replicate_succ,Z0,Z0];exact Vals.append h (Vals.rep h k)
theorem kks(aa:List Value):∀(k:Nat) (ah:List Value),
  List.foldl (λx1 x2=>x1++x2) ah.toArray (List.replicate k aa.toArray)=(ah++(List.replicate k aa).flatten).toArray
 | 0,ah=>by simp
 | k+1,ah=>by
  have e:ah.toArray++aa.toArray=(ah++aa).toArray:=by simp
  have e2:(ah++aa)++(List.replicate k aa).flatten=ah++(List.replicate (k+1) aa).flatten:=by
   rw[List.replicate_succ,Z0,Xk]
  rw[<-e2,<-kks aa k (ah++aa),<-e,List.replicate_succ,List.foldl_cons]
section
variable {X:Cx}{pins:List (Addr×Obj)}{σ:St}{H:Hp}{s:Shared}{l b:Addr}{xs ys zs:List V}
theorem Inv.lset{aa its':List Value}{n:Nat}{f:Array Value->Array Value}{t':Nat}(I:Inv X pins σ H s)(hH:H l=some (.lst xs))
  (e:s.heap.get? l=some { cls:=.type "list",data:=.seq aa.toArray n }) (hf:f aa.toArray=its'.toArray) (hv:Vals ys its') (hz:ys.length<=sizeLine):
  Inv X pins σ (upd H l (.lst ys)) { s with heap:=s.heap.update l (Obj.mapSeq f),toks:=t' }:=by
 have q:=PySem.IsL.update e f;rw[hf]at q;refine I.write (x:=l) (e:=l) (by rw[hH];exact trivial) (.inl rfl) (λb' u hb hu=>(Heap.get?_update_other s.heap (Obj.mapSeq f) (Ne.symm hb)).trans hu) ⟨_,q⟩ ?_;exact⟨hz,its',_,hv,q⟩
theorem Inv.lnew{aa:List Value}{t':Nat}(I:Inv X pins σ H s)(hv:Vals ys aa)(hz:ys.length<=sizeLine):
  Inv X pins σ (upd H s.heap.objs.size (.lst ys)) { s with heap:=s.heap.push { cls:=.type "list",data:=.seq aa.toArray },toks:=t' }:=
 I.laid (λ_ _ q=>X1 _ q) (Xe _) ⟨hz,aa,0,hv,X8 _ rfl⟩
theorem Inv.fresh(I:Inv X pins σ H s):H s.heap.objs.size=none:=I.hok.fresh (Xe _)
theorem Inv.lstM(I:Inv X pins σ H s)(hH:H l=some (.lst xs)):xs.length<=sizeLine/\∃(aa:List Value) (n:Nat),Vals xs aa/\xs.length=aa.length/\s.heap.get? l=some { cls:=.type "list",data:=.seq aa.toArray n }:=by
 obtain⟨z,aa,n,r,e⟩:=I.hok l _ hH;exact⟨z,aa,n,r,r.length,e⟩
theorem qk5{n:Nat}(h:n<=sizeLine):Builtin.List.listTooLong n=false:=by
 unfold Builtin.List.listTooLong;exact Y8 (by omega)
end
section
variable {X:Cx}
noncomputable def kk8:V->List V->Hp->VK->Prop:=λx vs H Q=>∃l xs y,x=.ref l/\vs=[y]/\H l=some (.lst xs)/\xs.length<sizeLine/\Q .non (upd H l (.lst (xs++[y])))
theorem jzb:MtM X "list.append" kk8:=by
 intro pins s σ H x vs v us Q I rx rv h;obtain⟨l,xs,y,rfl,rfl,hH,hz,q⟩:=h;cases rx;obtain⟨u,rfl,ru⟩:=rv.one;obtain⟨z,aa,n,r,hl,e⟩:=I.lstM hH;refine call_meets F.slot_list_append ⟨_,e,rfl⟩ F.entry_list_append (F.args_list_append_2 _ _) (PySem.list_append l aa.toArray n u (by rw[X6];omega)) ⟨e,?_⟩;refine⟨.non,_,I.lset (its':=aa++[u]) hH e (by simp) (r.append (.cons ru .nil)) ?_,rfl,q⟩;rw[Xn,List.length_singleton];omega
noncomputable def qvy:V->List V->Hp->VK->Prop:=λx vs H Q=>∃l b xs zs,x=.ref l/\vs=[.ref b]/\H l=some (.lst xs)/\H b=some (.lst zs)/\xs.length+zs.length<=sizeLine/\Q .non (upd H l (.lst (xs++zs)))
theorem qwo:MtM X "list.extend" qvy:=by
 intro pins s σ H x vs v us Q I rx rv h;obtain⟨l,b,xs,zs,rfl,rfl,hH,hB,hz,q⟩:=h;cases rx;obtain⟨u,rfl,ru⟩:=rv.one;cases ru;obtain⟨z,aa,n,r,hl,e⟩:=I.lstM hH;obtain⟨z2,bu,n2,r2,im,e2⟩:=I.lstM hB;have hsz:aa.toArray.size+bu.toArray.size<=sizeLine:=by rw[X6,X6];omega
 have lp:¬(!aa.toArray.isEmpty&&Builtin.List.listTooLong (aa.toArray.size+bu.toArray.size))=true:=by
  rw[qk5 hsz,Bool.and_false];exact Bool.false_ne_true
 refine call_meets F.slot_list_extend ⟨_,e,rfl⟩ F.entry_list_extend (F.args_list_extend_2 _ _)
  (AutoSeq1.list_extend_list_list_0 l aa.toArray n b bu.toArray n2 lp (by rw[X6];omega) (by omega)) ⟨e,e2,?_⟩
 refine⟨.non,_,I.lset (its':=aa++bu) hH e (by simp) (r.append r2) ?_,rfl,q⟩;rw[Xn];omega
noncomputable def qvz:V->List V->Hp->VK->Prop:=λx vs H Q=>∃l xs,x=.ref l/\vs=[]/\H l=some (.lst xs)/\Q .non (upd H l (.lst []))
theorem qk7:MtM X "list.clear" qvz:=by
 intro pins s σ H x vs v us Q I rx rv h;obtain⟨l,xs,rfl,rfl,hH,q⟩:=h;cases rx;have hus:=rv.zero;subst hus;obtain⟨z,aa,n,r,hl,e⟩:=I.lstM hH;refine call_meets F.slot_list_clear ⟨_,e,rfl⟩ F.entry_list_clear (F.args_list_clear_1 _) (AutoSeq1.list_clear_list_0 l aa.toArray n (by rw[X6];omega)) ⟨e,?_⟩;exact⟨.non,_,I.lset (its':=[]) (ys:=[]) hH e rfl .nil (Z1 _),rfl,q⟩
theorem qwu{α:Type}(xs:List α)(k:Nat):(List.replicate k xs).flatten.length=k*xs.length:=by
 induction k with
 |zero=>simp
 |succ k ih=>rw[List.replicate_succ,Z0,Xn,ih,Nat.succ_mul,Nat.add_comm]
end
end L2
namespace Att
open PySem PySem.W PySem.Calls PyProof.Rows
theorem kko{P:Params}{h:Heap}:∀(ns:List Int) (vs:List Value),WellAll P h vs (ns.map WData.int)->IntsAre vs ns:=by
 intro ns
 induction ns with
 | nil=>
  intro vs w;rw[List.map_nil]at w;cases w;exact .nil
 | cons n ns ih=>
  intro vs w;rw[List.map_cons]at w;cases w with
  |cons a b=>
   cases a;exact .cons _ _ (ih _ b)
theorem script_of{l : OpenLaw}{n : Nat}(hn : l.most = some n){P : Params}{h : Heap}{args : List WData}{cf : List Value}
    (lx : l.row.toRowW.claim.pre args = true) (hwl : WellAll P h cf args):
    ∃ a vs ns, cf = [Value.ref a] /\ args = [WData.list (ns.map WData.int)] /\ h.get? a = some { cls:= .type "list", data:= .seq vs.toArray } /\ IntsAre vs ns /\ ns.length<=n:= by
  have hsh : WShape.hasAll [] args [.list .int] = true:= (pre_splitW lx).1;have hc : l.pre.holds [] { args:= args } = true:= (pre_splitW lx).2;obtain⟨d, r, rfl, h1, h2⟩:= hasAllW_cons hsh;obtain rfl:= hasAllW_nil h2;obtain⟨xs, rfl, h3⟩:= hasW_list h1;obtain⟨ns, rfl⟩:= items_int h3;have af : ns.length<=n:= by
    unfold OpenLaw.pre at hc;have h4 : (WTm.not (.lt (.lit (.int (n : Int))) (.len (.arg 0)))).holds [] { args:= [.list (ns.map .int)] } = true:= by
      have h4:= (holds_andW hc).1;rw[hn]at h4;exact h4
    have h5:= condW_of h4 (w_not (w_lt w_lit (w_len_list (w_arg rfl))));rw[X4]at h5;refine Nat.le_of_not_lt λq=> ?_
    have q' : (n : Int)<((ns.length : Nat): Int):= by omega
    first
      |(rw[Yc q']at h5; exact absurd h5 (by decide))
      |(simp at h5; omega)
  cases hwl with
  | cons w1 w2=>
    cases w2;cases w1 with
    |list ho og=>exact⟨_, _, ns, rfl, rfl, ho, kko ns _ og, af⟩
theorem post_true(l:OpenLaw)(args:List WData):l.row.toRowW.claim.post args (.bool true) args=true:=
 postW_of (r:=l.row.toRowW) (X:=(true==true))
  (show WShape.has [] (.bool true) .bool=true by first|rfl|decide|simp[WShape.has,WShape.arms,WShape.armsAll])
  (show(WTm.eq .res (.lit (.bool true))).value [] { args:=args,res:=some (.bool true),after:=args }=some (.bool (true==true))from w_eq_bool (w_res rfl) w_lit) rfl
end Att
namespace L2
open PySem PySem.Spec PyProof.Rows
def wwf(H:Hp):Prop:=∀b,H b=none\/∃o xs,H b=some (.frz o (.lst xs))
noncomputable def QJ(s:Stmt):Arguments:=match s with
 |.FunctionDef _ a _ _ _ _ _ _ _ _=>a
 |_=>{ posonlyargs:=[],args:=[],vararg:=none,kwonlyargs:=[],kw_defaults:=[],kwarg:=none,defaults:=[] }
def Q4(s:Stmt):List Stmt:=match s with
 |.FunctionDef _ _ b _ _ _ _ _ _ _=>b
 |_=>[]
noncomputable def k4(s:Stmt):Scope:=match s with
 |.FunctionDef _ _ _ _ _ _ sc _ _ _=>sc
 |_=>{ kind:=.function,names:=[],isGenerator:=false,isCoroutine:=false }
abbrev E0:XK:=λ_ _ _=>False
structure Fun (K:PySem.W.Frag)(x qual:Str)(st:Stmt)(f:Addr)(fd:FuncData):Prop where
 ex:∃(oc:Value) (od:Option Addr) (kV ia pm:Value) (an:Option Addr) (b8 ct:Value) (nh:Array (Option Value)),
  fd=PySem.W.fnOf x qual (QJ st) (Q4 st) (k4 st) .none kV ia pm an b8 ct/\K.lookup f=some ⟨oc,od,.func fd,nh⟩/\PySem.W.codeIn K b8 qual=true
 kp:PySem.W.keepIn K (.ref f)=true
section
variable {P:Program}{w:World}{K:PySem.W.Frag}{mg:Str->Option Value}{base:Heap}
theorem Fun.binds{x qual:Str}{st:Stmt}{f:Addr}{fd:FuncData}{ps:List Str}(F:Fun K x qual st f fd)
  (h:∀(kV ia pm:Value) (an:Option Addr) (b8 ct:Value) (us:List Value),us.length=ps.length->bindArgs (PySem.W.fnOf x qual (QJ st) (Q4 st) (k4 st) .none kV ia pm an b8 ct) ⟨us,[]⟩=pure (ps.zip us)):Binds K fd ps []:=by
 obtain⟨oc,od,kV,ia,pm,an,b8,ct,nh,rfl,lk,il⟩:=F.ex;exact .all (h kV ia pm an b8 ct)
theorem qxg{x qual:Str}{st:Stmt}{f:Addr}{oc:Value}{od an:Option Addr}{nh:Array (Option Value)}{kV ia pm b8 ct:Value}(l:K.lookup f=some ⟨oc,od,.func (PySem.W.fnOf x qual (QJ st) (Q4 st) (k4 st) .none kV ia pm an b8 ct),nh⟩)
  (c:PySem.W.codeIn K b8 qual=true) (k:PySem.W.keepIn K (.ref f)=true):Fun K x qual st f (PySem.W.fnOf x qual (QJ st) (Q4 st) (k4 st) .none kV ia pm an b8 ct):=⟨⟨oc,od,kV,ia,pm,an,b8,ct,nh,rfl,l,c⟩,k⟩
end
section
variable {X:Cx}
theorem pv(i:Nat){x:Str}{pos:Pos}(hN:autoParam (X.N[i]?=some x) Ŕ)(hv:autoParam (Vis X.env.scope x) ř)(hd:autoParam ((x==("__debug__":Str))=false) ŕ)
  (il:autoParam ((x==("__classdict__":Str))=false) ŕ):PE X (.Name x pos) (J8 i):=vzs hN hv hd il
end
def k9(H H':Hp):Prop:=∀b o,H b=some o->H' b=some o
section
variable {κ:Type}[DecidableEq κ]
theorem KV.length{ao:List (κ×V)}{vs:List (κ×Value)}(r:KV ao vs):ao.length=vs.length:=Paired.length r
end
section
variable {P:Program}{w:World}{H:Hp}{h:Heap}{a:Addr}
theorem wqv{u:HO}(ok:HOk P w H h)(e:Rd H a u):ObjOk P w H h a u:=e.ok ok
theorem ww3{ao:List (Key×V)}(ok:HOk P w H h)(e:Rd H a (.dK ao)):ao.length<=sizeLine/\(a==sysModules)=false/\∃vs,KV ao vs/\h.DictOf (kw3 P w) a vs:=
 show ObjOk P w H h a (.dK ao)from wqv ok e
end
section
variable {X:Cx}{pins:List (Addr×Obj)}{σ:St}{H:Hp}{s:Shared}{a:Addr}{ao:List (Key×V)}{k:Key}{u:Value}{A:Around}{E:Value->Shared->Prop}
theorem ww6{Q:Value->Shared->Prop}(I:Inv X pins σ H s)(e:Rd H a (.dK ao))(h:∀t s',Inv X pins σ H s'->Q (.int ao.length t) s'):wpAny (model X.prog X.w) A (call (.builtin "len") [.ref a]) Q E s:=by
 obtain⟨z,hd,vs,rel,dd⟩:=ww3 I.hok e;refine call_len_dict hd dd (by rw[<-rel.length];rw[sizeLine_eq]at z;omega) ?_;rw[<-rel.length];exact h _ _ (I.tok _)
end
section
variable {X:Cx}
theorem qxu:CallR X (.builtin "len") (λxs H Q=>∃a ao,xs=[V.ref a]/\H a=some (.dK ao)/\Q (.int ao.length) H):=by
 intro pins s σ H xs us Q I r h;obtain⟨a,ao,rfl,ha,q⟩:=h;obtain⟨u,rfl,ru⟩:=x8 r;cases ru;exact ww6 I (.inl ha) λt s' I'=>⟨.int ao.length,H,I',⟨t,rfl⟩,q⟩
end
end L2
set_option maxHeartbeats 4000000
namespace L3
open PySem PySem.Spec PyProof.Rows L2
abbrev qwz(fk:List Expr)(env:Env):Sem Bool:=
 forIn fk true λc r=>if r=true then do let ok <-isTrue c env (eval c env);pure (ForInStep.yield ok)else pure (ForInStep.yield r)
theorem jwz (env : Env): ∀(l : List (Str × NameKind)) (cs : List (Str × Addr)), (∀y ∈ l, y.2 = .free -> ∃c, env.cells.lookup y.1 = some c) ->
    (∀x c, cs.lookup x = some c -> env.cells.lookup x = some c) ->
    ∃ cl, (forIn l cs (λ(x : Str × NameKind) (r : List (Str × Addr))=>if(x.2==NameKind.free) = true then do let a <-cellOf env x.1; pure (ForInStep.yield ((x.1, a)::r))else pure (ForInStep.yield r)): Sem (List (Str × Addr))) = pure cl /\
      (∀x c, cl.lookup x = some c -> env.cells.lookup x = some c) /\ (∀x c, cs.lookup x = some c -> ∃c', cl.lookup x = some c') /\ ∀y ∈ l, y.2 = .free -> ∃c, cl.lookup y.1 = some c
  | [], cs, _, hs=>⟨cs, rfl, hs, λx c h=>⟨c, h⟩, λ_ h=>nomatch h⟩
  | (n, k)::r, cs, hl, hs=>by
    by_cases hk : k = .free
    · subst hk
      obtain⟨c, hc⟩:= hl (n, .free) X3 rfl;have n6 : ∀x d, ((n, c)::cs).lookup x = some d -> env.cells.lookup x = some d:= λx d h=>by
        rw[Z5]at h;cases hx : x==n with
        | true=>
          rw[hx]at h;have e : x = n:= by simpa using hx
          have e2 : c = d:= by simpa using h
          subst e; subst e2;exact hc
        | false=>rw[hx]at h; exact hs x d h
      obtain⟨cl, e, a, b, d⟩:= jwz env r ((n, c)::cs) (λy hy=>hl y (lc9 _ hy)) n6;refine⟨cl, ?_, a, λx c' h=> ?_, λy hy hf=> ?_⟩
      · rw[List.forIn_cons]
        have q : cellOf env n = pure c:= by unfold cellOf; rw[hc]
        simp only[beq_self_eq_true, if_true, q, pure_bind];exact e
      · cases hx : x==n with
        | true=>exact b x c (by rw[Z5, hx])
        | false=>exact b x c' (by rw[Z5, hx]; exact h)
      · rcases List.mem_cons.mp hy with z|z
        · subst z
          exact b n c (by rw[Z5]; simp)
        · exact d y z hf
    · obtain⟨cl, e, a, b, d⟩:= jwz env r cs (λy hy=>hl y (lc9 _ hy)) hs
      refine⟨cl, ?_, a, b, λy hy hf=> ?_⟩
      · rw[List.forIn_cons]
        have q : (k==NameKind.free) = false:= by simpa using hk
        simp only[q, Bool.false_eq_true, if_false, pure_bind];exact e
      · rcases List.mem_cons.mp hy with z|z
        · subst z
          exact absurd hf hk
        · exact d y z hf
theorem kvb{scope:Scope}{env:Env}(h:∀y∈scope.names,y.2=.free->∃c,env.cells.lookup y.1=some c):
  ∃cl,closureFor scope env=pure cl/\(∀x c,cl.lookup x=some c->env.cells.lookup x=some c)/\∀y∈scope.names,y.2=.free->∃c,cl.lookup y.1=some c:=by
 obtain⟨cl,e,a,_,d⟩:=jwz env scope.names [] h (λx c h=>nomatch h);refine⟨cl,?_,a,d⟩;unfold closureFor;have e':=congrArg (λt:Sem (List (Str×Addr))=>t >>= pure) e
 simpa using e'
noncomputable def lcX(X:Cx)(scope:Scope)(N:List Str)(cl:List (Str×Addr))(C:Addr)(s0:Shared)(H0:Hp)(fp:List Addr):Cx:=
 { X with N:=N,s₀:=s0,H₀:=H0,env:=compEnvC scope cl C X.env,outer:=X.stack,ex:=fp,fn:=λ_=>false,pn:=[],xe:=λ_ _=>False }
def JJ(k:Nat)(R:List Nat)(σ:L2.St):L2.St:=List.replicate k none++R.map λj=>(σ[j]?).join
structure LcOk (X:Cx)(scope:Scope)(N:List Str)(k:Nat)(R:List Nat):Prop where
 kind:scope.kind=.function
 nocell:∀y∈scope.names,y.2≠.cell
 names:∀y∈scope.names,y.2=.local->scope.names.lookup y.1=some .local
 caps:∀y∈scope.names,y.2=.free->X.env.kindOf y.1=some .cell\/X.env.kindOf y.1=some .free
 len:N.length=k+R.length
 outs:∀i j x,R[i]?=some j->N[k+i]?=some x->X.N[j]?=some x/\scope.names.lookup x=some .free
noncomputable def V3(XN:List Str)(sc scope:Scope)(N:List Str)(k:Nat)(R:List Nat):Bool:=
 scope.names.all (λy=>y.2 != .cell)&&scope.names.all (λy=>y.2 != .local||scope.names.lookup y.1==some .local) &&
 scope.names.all (λy=>y.2 != .free||(sc.names.lookup y.1==some .cell||sc.names.lookup y.1==some .free)) &&
 (N.length==k+R.length)&&(R.zip (N.drop k)).all (λp=>XN[p.1]? == some p.2&&scope.names.lookup p.2==some .free)
theorem qkc{X:Cx}{scope:Scope}{N:List Str}{k:Nat}{R:List Nat}(hk:scope.kind=.function)(h:V3 X.N X.env.scope scope N k R=true):LcOk X scope N k R:=by
 unfold V3 at h;simp only[Bool.and_eq_true,Yv,bne_iff_ne,Bool.or_eq_true,beq_iff_eq]at h;obtain⟨⟨⟨⟨h1,h2⟩,h3⟩,h4⟩,h5⟩:=h;refine⟨hk,λy hy=>h1 y hy,λy hy e=>(h2 y hy).resolve_left (λz=>z e),λy hy e=>(h3 y hy).resolve_left (λz=>z e),h4,λi j x e1 e2=>?_⟩;have m:(j,x)∈R.zip (N.drop k):=by
  refine Yi (i:=i) ?_;rw[List.getElem?_zip_eq_some];exact⟨e1,by rw[List.getElem?_drop];exact e2⟩
 exact h5 (j,x) m
theorem jku {env : Env} {x : Str} {q : NameKind}: ∀{names : List (Str × NameKind)}, (names.map λ(n, k)=>if(k==NameKind.free&&env.scope.kind == .function&&env.kindOf n==some .cell)then(n, NameKind.cell)else(n, k)).lookup x = some q ->
    (x, q) ∈ names \/ (q = .cell /\ (x, NameKind.free) ∈ names)
  | [], h=>nomatch h
  | (n, k)::r, h=>by
    have h : List.lookup x ((if(k==NameKind.free&&env.scope.kind == .function&&env.kindOf n==some .cell) = true then(n, NameKind.cell)else(n, k))::(r.map λ(n, k)=>if(k==NameKind.free&&env.scope.kind == .function&&env.kindOf n==some .cell)then(n, NameKind.cell)else(n, k))) = some q:= h
    by_cases hc : (k==NameKind.free&&env.scope.kind == .function&&env.kindOf n==some .cell) = true
    · rw[Xf hc, Z5]at h
      cases hx : x==n with
      | true=>
        rw[hx]at h;have e : x = n:= by simpa using hx
        have e2 : NameKind.cell = q:= by simpa using h
        subst e;simp only[Bool.and_eq_true, beq_iff_eq]at hc;obtain⟨⟨e3, _⟩, _⟩:= hc;subst e3;exact .inr ⟨e2.symm, X3⟩
      | false=>
        rw[hx]at h;rcases jku (names:= r) h with z|⟨z, y⟩
        · exact .inl (lc9 _ z)
        · exact .inr ⟨z, lc9 _ y⟩
    · rw[Xm hc, Z5]at h
      cases hx : x==n with
      | true=>
        rw[hx]at h;have e : x = n:= by simpa using hx
        have e2 : k = q:= by simpa using h
        subst e; subst e2;exact .inl X3
      | false=>
        rw[hx]at h;rcases jku (names:= r) h with z|⟨z, y⟩
        · exact .inl (lc9 _ z)
        · exact .inr ⟨z, lc9 _ y⟩
section
variable {X:Cx}{pins:List (Addr×Obj)}{σ:L2.St}{H:Hp}{s:Shared}
theorem wjl{scope:Scope}{N:List Str}{k:Nat}{R:List Nat}{cl:List (Str×Addr)}{C:Addr}(sc:LcOk X scope N k R)(bj:∀y∈scope.names,y.2=.free->∃c,cl.lookup y.1=some c)
  {x:Str} (h:(compEnvC scope cl C X.env).kindOf x=some .cell\/(compEnvC scope cl C X.env).kindOf x=some .free):∃c,cl.lookup x=some c:=by
 rcases h with h|h
 ·rcases jku (env:=X.env) (names:=scope.names) h with z|⟨_,z⟩
  ·exact absurd rfl (sc.nocell _ z)
  ·exact bj _ z rfl
 ·rcases jku (env:=X.env) (names:=scope.names) h with z|⟨z,_⟩
  ·exact bj _ z rfl
  ·cases z
theorem wjm{scope:Scope}{N:List Str}{k:Nat}{R:List Nat}{cl:List (Str×Addr)}{C:Addr}{fp:List Addr}(I:Inv X pins σ H s)(sc:LcOk X scope N k R)(hf:∀b∈fp,vJ X pins H b)(ho:∀b∈fp,∃o,s.heap.get? b=some o)
  (hC:s.heap.objs.size<=C) (i8:∀x c,cl.lookup x=some c->X.env.cells.lookup x=some c) (bj:∀y∈scope.names,y.2=.free->∃c,cl.lookup y.1=some c):(lcX X scope N cl C s H fp).Ok where
 mod:=I.ok.mod
 kind:=sc.kind
 glob:=I.ok.glob
 blt:=I.ok.blt
 above:=hC
 inj:=λx y c h1 h2=>I.ok.inj x y c (i8 _ _ h1) (i8 _ _ h2)
 has:=λx h=>wjl sc bj h
 cab:=λx c h=>by cases h
 hd:=I.ok.hd
 frames:=I.ok.frames
 stk:=.inl rfl
 exf:=λb hb=>by
  obtain⟨o,e⟩:=ho b hb;exact⟨Xq (Xi (Xd e) hC),λx c h=>(hf b hb).2.2.2.2.1 x c (i8 x c h)⟩
 bs:=λb o e=>I.bs b o e
 bsz:=Xw I.ok.bsz I.sz
 noex:=λb o e hb=>by
  rcases(hf b hb).2.2.2.1 with z|z
  ·exact I.ok.noex b o e z
  ·exact absurd (Xi (Xd e) (Xw I.ok.bsz z)) (Yd _)
 exfs:=λb hb hs=>by
  rcases List.mem_cons.mp (I.stkSub b hs)with z|z
  ·exact(hf b hb).2.1 z
  ·exact(hf b hb).2.2.1 z
 funs:=I.stack
 frf:=I.stkFree
theorem vxo(I:Inv X pins σ H s){a:Addr}(h:s.heap.objs.size<=a):a∉frs X.stack:=λz=>by
 rcases List.mem_cons.mp (I.stkSub a z)with e|e
 ·subst e;exact absurd (Xi I.lt h) (Yd _)
 ·exact I.nofs h e
theorem vw5 {scope:Scope} {N:List Str} {k:Nat} {R:List Nat} {cl:List (Str×Addr)} {C D:Addr} {fp:List Addr} {h1:Heap} {t:Nat} {m:Str->Option Value} {oD:Obj} (I:Inv X pins σ H s) (sc:LcOk X scope N k R)
  (hf:∀ b∈fp,vJ X pins H b) (ho:∀b∈fp,∃o,s.heap.get? b=some o)
  (hC:s.heap.objs.size<=C) (hD:s.heap.objs.size<=D) (pk:D≠C) (i8:∀x c,cl.lookup x=some c->X.env.cells.lookup x=some c) (bj:∀y∈scope.names,y.2=.free->∃c,cl.lookup y.1=some c)
  (i4:∀ b o,s.heap.get? b=some o->h1.get? b=some o) (hn:h1.Ns C m) (eD:h1.get? D=some oD) (dD:∀v,oD.data≠.cell v):
  Inv (lcX X scope N cl C s H fp) [(D,oD)] (JJ k R σ) H { s with heap:=h1,toks:=t } where
 ok:=wjm I sc hf ho hC i8 bj
 os:=rfl
 bare:=I.bare
 base:=Un.kept i4
 loc:=⟨m,hn,λi x v e1 e2 vis=>by
  obtain⟨mX,hnX,hl⟩:=I.loc;unfold JJ at e2
  by_cases hi:i<k
  ·rw [List.getElem?_append_left (by rw[Yf];exact hi),List.getElem?_replicate,Xf hi]at e2;cases e2
  ·have hk:k<=i:=Nat.le_of_not_lt hi;rw [List.getElem?_append_right (by rw[Yf];exact hk),Yf,Xp]at e2;cases er:R[i - k]? with
   | none=>rw[er]at e2;cases e2
   | some j=>
    rw [er]at e2;have ej:(σ[j]?).join=some v:=by simpa using e2
    have ej':σ[j]?=some (some v):=by
     cases q:σ[j]? with
     | none=>rw[q]at ej;cases ej
     | some z=>rw[q]at ej;cases z with
      | none=>cases ej
      | some z=>rw[show z=v by simpa using ej]
    obtain⟨o1,o2⟩:=sc.outs (i - k) j x er (by rw[show k+(i - k)=i by omega];exact e1);have cap:=sc.caps (x,.free) (Yo o2) rfl;have visX:Vis X.env.scope x:=cap.elim (λz=>.inr (.inl z)) λz=>.inr (.inr z)
    obtain⟨u,ru,q⟩:=hl j x v o1 ej' visX;refine⟨u,ru,?_⟩;rcases q with⟨q,_⟩|⟨_,c,ec,hc⟩
    ·rcases cap with z|z
     ·rw[z]at q;cases q
     ·rw[z]at q;cases q
    ·obtain⟨c',ec'⟩:=bj (x,.free) (Yo o2) rfl;have e:c'=c:=oq9 ((i8 x c' ec').symm.trans ec);subst e;refine .inr ⟨?_,c',ec',?_⟩
     ·rcases vis with z|z|z
      ·rcases jku (env:=X.env) (names:=scope.names) z with y|⟨y,_⟩
       ·have y':=sc.names _ y rfl;rw[o2]at y';cases y'
       ·cases y
      ·exact .inl z
      ·exact .inr z
     ·obtain⟨o,h1,h2⟩:=hc;exact⟨o,i4 _ _ h1,h2⟩⟩
 cell:=λx c h=>by
  obtain⟨v,o,h1,h2⟩:=I.cell x c (i8 x c h);exact⟨v,o,i4 _ _ h1,h2⟩
 free:=I.hok.fresh hC
 freeC:=λx c h=>I.freeC x c (i8 x c h)
 pin:=λp hp=>by
  have e:p=(D,oD):=by
   have hp:p∈([]++[(D,oD)]:List (Addr×Obj)):=hp
   simpa using hp
  subst e;exact⟨eD,I.hok.fresh hD,pk,vxo I hD,dD⟩
 hok:=I.hok.kept i4
 len:=by
  show(JJ k R σ).length=N.length;unfold JJ;rw[sc.len,Xn,Yf,X4]
theorem kkn{a:Addr}{o:HO}(I:Inv X pins σ H s)(hn:H a=none)(hL:a≠X.env.locals)(h1:a∈X.ex\/X.s₀.heap.objs.size<=a)(h2:∀x c,X.env.cells.lookup x=some c->c≠a)(h3:∀p∈X.pn++pins,p.1≠a)
  (new:ObjOk X.prog X.w (upd H a o) s.heap a o):Inv X pins σ (upd H a o) s:=by
 have hok:HOk X.prog X.w (upd H a o) s.heap:=λb u e=>by
  by_cases hb:b=a
  ·subst hb;rw[xX]at e;cases e;exact new
  ·rw[qx hb]at e;exact(I.hok b u e).stay (λ_ _ _ q=>q) (λc q=>by rw[qx (Jx q hn)];exact q) λc xs q=>by rw[qx (Jx q hn)];exact q
 have na:∀b:Addr,b∉[a]->b≠a:=λb hb z=>hb (by rw[z];exact List.mem_singleton.mpr rfl)
 exact I.step (h':=s.heap) (H':=upd H a o) (g':=s.gens) (t':=s.toks) (d':=s.drawn) (ch:=[a])
  (λb hb=>by rw[List.mem_singleton.mp hb];exact⟨h1,hL,h2,h3⟩) (λb o _ _ _ e _=>e) (λb o _ _ _ e _=>⟨o.slots,e⟩) (λb o hb _ q=>by rw[qx (na b hb)];exact q)
  (λb o _ e=>⟨o,e⟩) (λb xs q=>by rw[qx (Jx q hn)];exact q) (λb o u q=>by rw[qx (Jx q hn)];exact q) (λb ps q=>⟨#[],by rw[qx (Jx q hn),q];simp⟩)
  (λm hm=>hm) hok I.bare
end
noncomputable def PTs(X:Cx)(fk:List Expr)(t:TT):Prop:=
 ∀(pins:List (Addr×Obj)) (s:Shared) (σ:L2.St) (H:Hp) (Q:Bool->Hp->Prop),Inv X pins σ H s->t σ H Q->wpAny (model X.prog X.w) X.A (qwz fk X.env) (TP X pins σ Q) X.xe s
abbrev tYes:TT:=λ_ H Q=>Q true H
theorem vvc{X:Cx}:PTs X [] tYes:=λ_ _ _ H _ I h=>wpAny_tests_nil ⟨H,I,h⟩
noncomputable def LcW(g:TG)(tt:TT)(te:TE)(Q:VK)(J:It)(W:Nat->Nat->List V->L2.St->Hp->Prop):Prop:=∀i m ys σ H,W i m ys σ H ->
 (J.stop i H/\ys.length<=sizeLine/\∀p,H p=none->Q (.ref p) (upd H p (.lst ys))) \/
 (J.go i H/\∀x H1,J.yld i H x H1->g x σ H1 fun σ2 H2=>∃(Ny:VK) (Nn:Hp->Prop),(∀y H4,Ny y H4->ys.length<=sizeLine/\∃m',m'<m/\W (i+1) m' (ys++[y]) σ2 H4) /\
  (∀H4,Nn H4->∃m',m'<m/\W (i+1) m' ys σ2 H4)/\tt σ2 H2 λb H3=>if b=true then te σ2 H3 Ny else Nn H3)
abbrev tLC(wi:TI)(g:TG)(tt:TT)(te:TE)(k:Nat)(R:List Nat):TE:=fun σ H Q=>wi σ H λJ H1=>
 ∃W:Nat->Nat->List V->L2.St->Hp->Prop,(∃m,W 0 m [] (JJ k R σ) H1)/\LcW g tt te Q J W
abbrev Zw(aa:List Value)(n:Nat):Obj:={ cls:=.type "list",data:=.seq aa.toArray n }
section
variable {X:Cx}
theorem op_mulI:OpR X (binaryOp .Mult) (rI IntMulOk λi j=>.int (i*j)):=opI λ_ _ _ _ _ _ _ hc q=>mul_int q hc
def wq4(_i j:Int):Prop:=0<j/\j.natAbs.log2<9000
theorem wZ:OpR X (binaryOp .FloorDiv) (rI wq4 λi j=>.int (i / j)):=opI λi j _ _ _ _ _ hc q=>by
 have h1:(0:Int)<j:=hc.1;exact floordiv_int (by omega) (by rw[Int.fdiv_eq_ediv_of_nonneg i (by omega)];exact q) (.inl (PyProof.noPylong_of_log2 hc.2))
def kinds:List String:=["NoneType","bool","int","str","list","tuple","dict"]
def ZY(T U:String):Bool:=T==U||(T == "bool" && U == "int")
theorem qj4{K:PySem.W.Frag}{T U:String}(hT:T∈kinds)(hU:U∈kinds.tail):PySem.W.kitOne K (.type T) (.type U)=some (ZY T U):=by
 simp only[kinds,List.tail_cons,Xh,Xg,or_false]at hT hU;rcases hT with rfl|rfl|rfl|rfl|rfl|rfl|rfl<;>rcases hU with rfl|rfl|rfl|rfl|rfl|rfl<;>with_unfolding_all rfl
noncomputable def www(K:PySem.W.Frag):List V->Hp->VK->Prop:=λxs H Q=>∃x T U,xs=[x,.ty U]/\TyOf K H x (.type T)/\T∈kinds/\U∈kinds.tail/\Q (.bl (ZY T U)) H
theorem vk1:CallR X (.builtin "isinstance") (www X.K):=by
 intro pins s σ H xs us Q I r h;obtain⟨x,T,U,rfl,ty,hT,hU,q⟩:=h;obtain⟨u,w',rfl,r1,r2⟩:=qv3 r;cases(show w'=Value.type U from r2);exact qx8 I r1 ty (qj4 hT hU) λtk=>⟨.bl _,H,I.tok _,rfl,q⟩
theorem vqb:∀{bs:List Bool} {aa:List Value} {i:Nat} {v:Value},Vals (bs.map V.bl) aa->aa[i]?=some v->∃b,bs[i]?=some b/\v=.bool b
 |[],_,_,_,.nil,e=>by simp at e
 |b::bs,_,0,v,.cons r _,e=>by
  simp at e;subst e;exact⟨b,rfl,r⟩
 |b::bs,_,i+1,v,.cons _ t,e=>by
  obtain⟨b',e1,e2⟩:=vqb (i:=i) t (by simpa using e);exact⟨b',by simpa using e1,e2⟩
theorem kx4(bs:List Bool):((List.range bs.length).all λi=>(bs[i]?).getD true)=bs.all id:=by
 rw[Bool.eq_iff_iff,Yv,Yv];constructor
 ·intro h b hb;obtain⟨i,hi,e⟩:=List.getElem_of_mem hb;have:=h i (List.mem_range.mpr hi);rw[X2 hi,e]at this;exact this
 ·intro h i hi;have qe:=List.mem_range.mp hi;rw[X2 qe];exact h _ (Ye qe)
noncomputable def wv1(K:PySem.W.Frag):List V->Hp->VK->Prop:=λxs H Q=>∃(p:Addr) (bs:List Bool),xs=[.ref p]/\SqL K H p (bs.map V.bl)/\Q (.bl (bs.all id)) H
theorem vk2(hc:X.calm=true):CallR X (.builtin "all") (wv1 X.K):=by
 intro pins s σ H xs us Q I r h;obtain⟨p,bs,rfl,hq,q⟩:=h;obtain⟨u,rfl,ru⟩:=x8 r;cases ru;obtain⟨aa,rv,pl,hz⟩:=I.list hq;have hl:=pl.isList;have em:p<s.heap.objs.size:=by obtain⟨_,e,_⟩:=hl;exact Xd e
 have af:bs.length=aa.length:=by rw[<-rv.length,X4]
 refine call_all_walk (Yz hl ?_);refine⟨s.heap.objs.size,[s.heap.objs.size,p],[s.heap.objs.size],aa.toArray.size,_,_,λi=>(bs[i]?).getD true,rfl,Walks.list (A:=X.A.in1) (I.ok.hd hc) _ p (Xq em) aa.toArray,
  ⟨⟨_,X8 _ rfl,rfl,rfl⟩,hl.push _⟩,λi v s' Q' E' hP hQ=>?_,λh' tk hk=>?_⟩
 ·obtain⟨b,e,rfl⟩:=vqb rv (by simpa using hP);simp only[e,Option.getD_some]at hQ;exact Ym hQ
 ·have e:((List.range aa.toArray.size).all λi=>(bs[i]?).getD true)=bs.all id:=by
   rw[X6,<-af];exact kx4 bs
  rw[e];refine⟨.bl _,H,I.kept (t':=tk) (h':=h') λb o e=>hk b o (λz=>?_) (X1 _ e),rfl,q⟩;exact absurd (Xd e) (by rw[List.mem_singleton.mp z];exact Yd _)
def Its(x:Str):It:=⟨λi _=>i<x.cps.size,λi H v H'=>H'=H/\∃c,x.cps[i]?=some c/\v=.str ⟨#[c]⟩,λi _=>i=x.cps.size⟩
theorem qjf{P:Program}{w:World}{K:PySem.W.Frag}{tg:Expr}{x:Str}{t:Tok}{it:Addr}{ty:String}
  (W:∀A':Around,A'.handled=none->Walks P w A' it [it] [it] x.cps.size (SignAt x) (λi h=>h.IsStrIter it ty x t i))
  (rq:∀(A:Around) (i:Nat) (s:Shared) (Q:Value->Shared->Prop) (E:Value->Shared->Prop),s.heap.IsStrIter it ty x t i->Q (.ref it) s->wpAny (model P w) A (pyIter (.ref it)) Q E s)
  (mf:["enumerate","zip","dict_itemiterator","dict_reverseitemiterator","odict_iterator","itertools.zip_longest","itertools.pairwise"].contains ty=false):
  Turn P w K tg (Its x) [it] it (λi h=>h.IsStrIter it ty x t i) where
 mem:=by simp
 obj:=λi h st b hb=>by
  have e:b=it:=by simpa using hb
  subst e;obtain⟨o,e,c,d⟩:=st;exact⟨o,e,λv z=>by rw[d]at z;cases z⟩
 keep:=λi h h' st k=>by
  obtain⟨o,e,r⟩:=st;exact⟨o,k it (by simp) o e,r⟩
 item:=by
  intro X hP hw hK hc i pins s σ H E I hf st hg;subst hP hw hK;obtain⟨f0,f1,f2,f3,f4,f5⟩:=hf it (by simp);refine(W X.A (I.ok.hd hc)).item i s _ _ hg st λv h' tk hv ff kk=>?_
  obtain⟨c,u,ba,rfl⟩:=hv;have I1:Inv X pins σ H { s with heap:=h',toks:=tk }:=I.turned (λb o hb e=>kk b o (by simpa using hb) e) f0 f1 f3 f4 f5;obtain⟨o,e,c1,d⟩:=id ff;exact⟨_,rfl,vjp (s:={ s with heap:=h',toks:=tk }) e c1 d mf ⟨.str ⟨#[c]⟩,H,I1,⟨u,rfl⟩,⟨rfl,c,ba,rfl⟩,ff,λb hb=>(hf b hb).1⟩⟩
 done:=by
  intro X hP hw hK hc i pins s σ H E I hf st hg;subst hP hw hK;obtain⟨f0,f1,f2,f3,f4,f5⟩:=hf it (by simp);have nr:i=x.cps.size:=hg;subst nr;exact(W X.A (I.ok.hd hc)).done s _ _ st λh' tk kk=>⟨rfl,I.turned (λb o hb e=>kk b o (by simpa using hb) e) f0 f1 f3 f4 f5⟩
 self:=λA i s Q E st hQ=>rq A i s Q E st hQ
noncomputable def wwq:V->Option Int->Option Int->Hp->VK->Prop:=λx lo hi H Q=>∃z,x=.str z/\z.length<=sizeLine/\Q (.str (Txt.slice z lo hi)) H
theorem vxv:SlR X wwq:=by
 intro pins s σ H x v vl vu lo hi sl Q I rx hs pl pu h;obtain⟨z,rfl,hz,q⟩:=h;obtain⟨t,rfl⟩:=rx;refine⟨"str",_,F.slot_str_getitem.lookup,typeIs_str _ _ _,?_⟩;have fin:∀(t':Tok) (k:Nat),EP X pins σ Q (.str (Txt.slice z lo hi) t') { s with toks:=k }:=λt' k=>⟨.str _,H,I.tok k,⟨t',rfl⟩,q⟩
 have gh:(Txt.slice z lo hi).length<=sizeLine:=Xw (Txt.slice_le z _ _) hz;cases pl with
 |none=>cases pu with
  |none=>exact wpAny_getItem_str_slice (l:=none) (u:=none) (st:=none) hs rfl (post_val_or_str ⟨gh,fin⟩)
  |int j tj=>exact wpAny_getItem_str_slice (l:=none) (u:=some (j,tj)) (st:=none) hs rfl (post_val_or_str ⟨gh,fin⟩)
 |int i ti=>cases pu with
  |none=>exact wpAny_getItem_str_slice (l:=some (i,ti)) (u:=none) (st:=none) hs rfl (post_val_or_str ⟨gh,fin⟩)
  |int j tj=>exact wpAny_getItem_str_slice (l:=some (i,ti)) (u:=some (j,tj)) (st:=none) hs rfl (post_val_or_str ⟨gh,fin⟩)
def vz3:R2:=λx y H Q=>∃z n,x=.str z/\y=.int n/\(z.length<=1024/\n<=1024/\-1024<=n)/\Q (.str (Txt.mul z n)) H
theorem vvs:OpR X (binaryOp .Mult) vz3:=by
 intro pins s σ H x y v u Q I rx ry h;obtain⟨z,n,rfl,rfl,⟨h1,h2,h3⟩,q⟩:=h;obtain⟨t,rfl⟩:=rx;obtain⟨t',rfl⟩:=ry;exact SB.mul (mulOk_of 1024 1024 h1 h2 (by omega) (by decide) (by decide)) λt' k=>⟨.str _,H,I.tok k,⟨t',rfl⟩,q⟩
theorem qjl:∀{ys:List Str} {aa:List Value},Vals (ys.map V.str) aa->StrsAre aa ys
 |[],_,.nil=>.nil
 |_::_,_,.cons ⟨t,e⟩ r=>by subst e;exact .cons _ t (qjl r)
noncomputable def wqz(K:PySem.W.Frag):V->List V->Hp->VK->Prop:=λx vs H Q=>∃z p ys,x=.str z/\vs=[.ref p]/\SqL K H p (ys.map V.str)/\(ys.map (·.length)).sum+ys.length*z.length<=16777216/\Q (.str (Txt.join z ys)) H
theorem vvy:MtR X "str.join" (wqz X.K):=by
 intro pins s σ H x xs v us Q I rx rv h;obtain⟨z,p,ys,rfl,rfl,hq,hok,q⟩:=h;obtain⟨t,rfl⟩:=rx;obtain⟨u,rfl,ru⟩:=rv.one;cases ru;obtain⟨aa,rs,pl,hz⟩:=I.list hq;exact join_list pl.isList (qjl rs) hok λt' k=>⟨.str _,H,I.tok k,⟨t',rfl⟩,q⟩
noncomputable def vkg(K:PySem.W.Frag):V->Option Int->Option Int->Hp->VK->Prop:=λx lo hi H Q=>wwr K x lo hi H Q\/wwp K x lo hi H Q\/wwq x lo hi H Q
theorem wqp(K:PySem.W.Frag)(hK:autoParam (X.K=K) Ŕ):SlR X (vkg K):=by subst hK;exact sl_list.or (sl_tup.or vxv)
noncomputable def qvw(K:PySem.W.Frag):List V->Hp->VK->Prop:=λxs H Q=>(∃p ys,xs=[.ref p]/\(SqL K H p ys\/SqT K H p ys)/\Q (.int ys.length) H)\/(∃z,xs=[.str z]/\z.length<=sizeLine/\Q (.int z.length) H)\/(∃a ao,xs=[V.ref a]/\H a=some (.dK ao)/\Q (.int ao.length) H)
theorem vwv(K:PySem.W.Frag)(hK:autoParam (X.K=K) Ŕ):CallR X (.builtin "len") (qvw K):=by subst hK;exact call_len_seq.or (call_len_str.or qxu)
theorem qxy:CallR X (.type "int") (λxs H Q=>(∃i,xs=[.int i]/\Q (.int i) H)\/∃k,xs=[.bl k]/\Q (.int (if k then 1 else 0)) H):=qxw
theorem WK(K:PySem.W.Frag)(hK:autoParam (X.K=K) Ŕ)(hc:autoParam (X.calm=true) Ŕ):CallR X (.builtin "all") (wv1 K):=by subst hK;exact vk2 hc
theorem qk3(K:PySem.W.Frag){o e:Expr}{es:List Expr}{T:String}{name:Str}{id:String}{r:V->List V->Hp->VK->Prop}{to:TE}{t:TA}{ak ab:Pos}
  (pa:PlainAttrs T) (slot:Slot T name id) (mf:typeOf (.builtin id)=pure (.type "method_descriptor")) (hm:MtR X id r) (ho:PE X o to) (ha:PA X (e::es) t)
  (ax:autoParam (attributeBase o name X.env (eval o X.env)=eval o X.env) Ŕ)
  (cb:autoParam (((backTo ab (starEach (e::es) X.env)).all (λx=>!x.1)&&(backToKw ab (keywordEach [] X.env)).all (λx=>x.1.isSome)
   && decide ((e::es).length+([]:List Keyword).length+(if([]:List Keyword).isEmpty then 0 else 1)<30))=true) Ŕ)
  (az:autoParam ((ak.endLine==ab.line)=true) Ŕ) (hs:autoParam (starEach (e::es) X.env=(false,eval e X.env)::starEach es X.env) Ŕ) (b6:autoParam ((backTo ab (starEach es X.env)).any (·.1)=false) Ŕ) (hK:autoParam (X.K=K) Ŕ):
  PE X (.Call (.Attribute o name ak) (e::es) [] ab) (tBM K T r to t):=by subst hK;exact qwf pa slot mf hm ho ha ax cb az hs b6
theorem wkr:bootBuiltins "len"=some (.builtin "len"):=by decide +kernel
theorem kwe:bootBuiltins "isinstance"=some (.builtin "isinstance"):=by decide +kernel
theorem VX:bootBuiltins "all"=some (.builtin "all"):=by decide +kernel
theorem wkq:bootBuiltins "sum"=some (.builtin "sum"):=by decide +kernel
theorem qxz:bootBuiltins "sorted"=some (.builtin "sorted"):=by decide +kernel
theorem qks:bootBuiltins "int"=some (.type "int"):=by decide +kernel
theorem J3:bootBuiltins "str"=some (.type "str"):=by decide +kernel
theorem kq2:bootBuiltins "bool"=some (.type "bool"):=by decide +kernel
theorem V2:bootBuiltins "list"=some (.type "list"):=by decide +kernel
theorem YK:bootBuiltins "tuple"=some (.type "tuple"):=by decide +kernel
theorem vq9:bootBuiltins "zip"=some (.type "zip"):=by decide +kernel
end
def Cst(mg:Str->Option Value)(x:Str)(v:V):Prop:=∃u,mg x=some u/\RelV v u
section
variable {X:Cx}{x:Str}{p pos:Pos}{e:Expr}{es:List Expr}{t:TA}{ps:List Str}{sp:Sp}{k:Nat}{v:V}
theorem QZ(c:Cst X.mg x v)(hg:autoParam (Gl X x) Ŕ)(hd:autoParam ((x==("__debug__":Str))=false) ŕ):PE X (.Name x pos) (tC v):=by
 obtain⟨u,m,r⟩:=c;exact vvk hg m r hd
end
theorem qkt:∀{ns:List Int} {m:Nat},PySem.W.WData.weightAll (ns.map PySem.W.WData.int)<=m->∀n∈ns,Builtin.Int.intBits n<=m
 | [],_,_,_,h=>nomatch h
 | a::r,m,h,n,hn=>by
  have h':(if a==0 then 0 else a.natAbs.log2+1)+1+PySem.W.WData.weightAll (r.map PySem.W.WData.int)<=m:=h;rcases List.mem_cons.mp hn with z|z
  ·subst z;have e:Builtin.Int.intBits n=(if n==0 then 0 else n.natAbs.log2+1):=rfl;rw[e];omega
  ·exact qkt (m:=m) (by omega) n z
theorem qjb{ns:List Int}(h:PySem.W.WData.layableAll [PySem.W.WData.list (ns.map PySem.W.WData.int)]=true):∀n∈ns,Builtin.Int.intBits n<=1048576:=by
 have h1:(PySem.W.WData.list (ns.map PySem.W.WData.int)).layable=true:=(PySem.W.layW_cons h).1;unfold PySem.W.WData.layable at h1;simp only[Bool.and_eq_true,decide_eq_true_eq]at h1;have h2:PySem.W.WData.weightAll (ns.map PySem.W.WData.int)<=2 ^ 20:=h1.2;exact qkt (by simpa using h2)
inductive D where
 |non|bl (b:Bool)|int (i:Int)|str (z:Str)|lst (xs:List D)|tup (xs:List D)
section
variable {X:Cx}{pins:List (Addr×Obj)}{σ:L2.St}{H:Hp}{s:Shared}
theorem in1_units(A:Around):A.in1.units<=A.units+1:=by
 first|exact Xe _|(show A.units+1<=A.units+1;exact Xe _)|(unfold Around.in1;simp)
end
section
variable {X:Cx}
noncomputable def vv3:V->List V->Hp->VK->Prop:=λv vs H Q=>∃(x y:Str) (i:Nat) (j9:List Nat),v=.str x/\vs=[.str y]/\Builtin.Str.occurrences x y 0 x.length 1=i::j9/\Q (.int i) H
theorem vw0:MtR X "str.index" vv3:=by
 intro pins s σ H x xs v us Q I rx rv h;obtain⟨z,y,i,j9,rfl,rfl,ho,q⟩:=h;obtain⟨t,rfl⟩:=rx;obtain⟨u,rfl,t',rfl⟩:=rv.one;exact SC.index ho ⟨.int i,H,I.tok _,⟨_,rfl⟩,q⟩
noncomputable def qvv(K:PySem.W.Frag):List V->Hp->VK->Prop:=λxs H Q=>∃p ys,xs=[.ref p]/\(SqL K H p ys\/SqT K H p ys)/\∀l,H l=none->Q (.ref l) (upd H l (.lst ys))
theorem qkr(K:PySem.W.Frag)(hK:autoParam (X.K=K) Ŕ):CallR X (.type "list") (qvv K):=by subst hK;exact kz7
theorem qwe(K:PySem.W.Frag){o:Expr}{T:String}{name:Str}{id:String}{r:V->List V->Hp->VK->Prop}{to:TE}{ak ab:Pos}
  (pa:PlainAttrs T) (slot:Slot T name id) (mf:typeOf (.builtin id)=pure (.type "method_descriptor")) (hm:MtR X id r) (ho:PE X o to)
  (ax:autoParam (attributeBase o name X.env (eval o X.env)=eval o X.env) Ŕ) (az:autoParam ((ak.endLine==ab.line)=true) Ŕ) (hK:autoParam (X.K=K) Ŕ):
  PE X (.Call (.Attribute o name ak) [] [] ab) (wwk K T r to):=by subst hK;exact wj0 pa slot mf hm ho ax az
end
abbrev LET:Str:="abcdefghijklmnopqrstuvwxyz"
def Wd(z:Str):Prop:=1<=z.length/\z.length<=8/\∀ch∈z.cps.toList,ch∈LET.cps.toList
theorem vw4(z:Str):z.length=z.cps.toList.length:=by rw[Xa];rfl
section
variable {X:Cx}{pins:List (Addr×Obj)}{σ:L2.St}{H:Hp}{s:Shared}
theorem jw8{t':Nat}{h':Heap}(fp:List Addr)(I:Inv X pins σ H s)(k:∀b o,b∉fp->s.heap.get? b=some o->h'.get? b=some o)(hf:∀b∈fp,vJ X pins H b):Inv X pins σ H { s with heap:=h',toks:=t' }:=by
 have se:∀b u,H b=some u->b∉fp:=λb u e z=>by rw[(hf b z).1]at e;cases e
 refine I.step (g':=s.gens) (d':=s.drawn) (ch:=fp) (λb hb=>?_) (λb o _ _ hc e _=>k b o hc e) (λb o _ _ hc e _=>⟨o.slots,k b o hc e⟩) (λ_ _ _ _ n=>n)
  (λb o hc e=>⟨o,k b o hc e⟩) (λ_ _ e=>e) (λ_ _ _ e=>e) (λb ps e=>⟨#[],by rw[e];simp⟩) (λm hm=>?_) (λb u e=>?_) I.bare
 ·obtain⟨_,f1,_,f3,f4,f5⟩:=hf b hb;exact⟨f3,f1,f4,f5⟩
 ·obtain⟨o,es,ep,ho,r⟩:=hm;exact⟨o,es,ep,k _ o (λz=>(hf _ z).2.1 rfl) ho,r⟩
 ·refine(I.hok b u e).stay (λc v hc q=>k c v ?_ q) (λ_ q=>q) λ_ _ q=>q
  rcases hc with z|z
  ·rw[z];exact se b u e
  ·exact se c _ z
end
noncomputable def Itz(K:PySem.W.Frag)(l1 l2:Addr):It:=⟨λi H=>∃xs ys x y,SqL K H l1 xs/\SqL K H l2 ys/\xs[i]?=some x/\ys[i]?=some y,
 λi H v H'=>∃T x y,H T=none/\v=.ref T/\H'=upd H T (.tup [x,y])/\(∀xs,SqL K H l1 xs->xs[i]?=some x)/\∀ys,SqL K H l2 ys->ys[i]?=some y,
 λi H=>∃xs ys,SqL K H l1 xs/\SqL K H l2 ys/\(xs.length<=i\/ys.length<=i)⟩
abbrev znt(z TI TO i1 i2 l1 l2:Addr)(i:Nat)(h:Heap):Prop:=IsZip h z TI TO .none/\IsPair h TI (.ref i1) (.ref i2)/\(∃a b,IsPair h TO a b)/\h.IsListIter i1 l1 i/\h.IsListIter i2 l2 i
theorem qje{P:Program}{w:World}{K:PySem.W.Frag}{cg:List Expr}{k1:Nat}{pos:Pos}{z TI TO i1 i2 l1 l2:Addr}(ap:ZipApart z TI TO i1 i2 l1 l2):
  Turn P w K (.Tuple cg k1 pos) (Itz K l1 l2) [z,TI,TO,i1,i2] z (znt z TI TO i1 i2 l1 l2) where
 mem:=by simp
 obj:=λi h st b hb=>by
  obtain⟨h1,h2,⟨a,c,h3⟩,⟨o4,e4,c4,d4⟩,o5,e5,c5,d5⟩:=st;simp only[Xh,Xg,or_false]at hb;rcases hb with rfl|rfl|rfl|rfl|rfl
  ·exact⟨_,h1,λv z=>by cases z⟩
  ·exact⟨_,h2,λv z=>by cases z⟩
  ·exact⟨_,h3,λv z=>by cases z⟩
  ·exact⟨_,e4,λv z=>by rw[d4]at z;cases z⟩
  ·exact⟨_,e5,λv z=>by rw[d5]at z;cases z⟩
 keep:=λi h h' st k=>by
  obtain⟨h1,h2,⟨a,c,h3⟩,⟨o4,e4,c4,d4⟩,o5,e5,c5,d5⟩:=st;exact⟨k _ (by simp) _ h1,k _ (by simp) _ h2,⟨a,c,k _ (by simp) _ h3⟩,⟨o4,k _ (by simp) _ e4,c4,d4⟩,o5,k _ (by simp) _ e5,c5,d5⟩
 item:=by
  intro X hP hw hK hc i pins s σ H E I hf st hg;subst hP hw hK;obtain⟨xs,ys,x,y,q1,q2,hx,hy⟩:=hg;obtain⟨gj,lr,p1,lw⟩:=I.list q1;obtain⟨u1,hu1,ru1⟩:=lr.get hx;obtain⟨bu,mi,p2,m6⟩:=I.list q2;obtain⟨u2,hu2,ru2⟩:=mi.get hy;obtain⟨t1,t2,⟨a,b,t3⟩,t4,t5⟩:=st;refine wpAny_pyNext_zip_item ap t1 t2 t3 t4 t5 p1.isList p2.isList (x:=u1) (y:=u2) (by simpa using hu1) (by simpa using hu2) λh1 g1 g3 g4 g5 gT gs gk=>?_
  refine⟨_,rfl,wpAny_letOwnedTupleGo_zip (s:={ s with heap:=h1 }) g1 λh2 f1 sb=>?_⟩;have fT:vJ X pins H s.heap.objs.size:=I.fpOk (Xe _) (I.hok.fresh (Xe _));have nT:∀b∈[z,TI,TO,i1,i2],b≠s.heap.objs.size:=λb hb e=>by
   obtain⟨o,eo,_⟩:∃o,s.heap.get? b=some o/\True:=by
    simp only[Xh,Xg,or_false]at hb;obtain⟨o4,e4,_⟩:=t4;obtain⟨o5,e5,_⟩:=t5;rcases hb with rfl|rfl|rfl|rfl|rfl
    ·exact⟨_,t1,trivial⟩
    ·exact⟨_,t2,trivial⟩
    ·exact⟨_,t3,trivial⟩
    ·exact⟨_,e4,trivial⟩
    ·exact⟨_,e5,trivial⟩
   exact absurd (Xd eo) (by rw[e];exact Yd _)
  have kk:∀b o,b∉[z,TO,i1,i2]->s.heap.get? b=some o->h2.get? b=some o:=λb o hb e=>by
   simp only[Xh,Xg,or_false,not_or]at hb;exact(sb.2 b hb.1).trans (gk b o hb.1 hb.2.1 hb.2.2.1 hb.2.2.2 e)
  have I1:Inv X pins σ H { s with heap:=h2,toks:=s.toks }:=jw8 [z,TO,i1,i2] I kk λb hb=>hf b (by
   simp only[Xh,Xg,or_false]at hb ⊢;rcases hb with h|h|h|h<;>simp[h])
  have nz:s.heap.objs.size≠z:=λe=>nT z (by simp) e.symm
  have I2:=kkn (a:=s.heap.objs.size) (o:=.tup [x,y]) I1 fT.1 fT.2.1 fT.2.2.2.1 fT.2.2.2.2.1 fT.2.2.2.2.2
   (show ObjOk X.prog X.w _ h2 _ (.tup [x,y])from⟨by show(2:Nat)<=sizeLine;decide,[u1,u2],.cons ru1 (.cons ru2 .nil),⟨_,(sb.2 _ nz).trans gT,rfl,rfl,0,rfl⟩⟩)
  refine⟨.ref s.heap.objs.size,_,I2,rfl,⟨_,x,y,fT.1,rfl,rfl,λzs lu=>by rw[I.list_inj lu q1];exact hx,λzs lu=>by rw[I.list_inj lu q2];exact hy⟩,?_,λb hb=>by rw[qx (nT b hb)];exact(hf b hb).1⟩;refine⟨f1,?_,⟨u1,u2,(sb.2 _ ap.TOz).trans g3⟩,g4.at λo e=>(sb.2 _ ap.i1z).trans e,g5.at λo e=>(sb.2 _ ap.i2z).trans e⟩;exact(sb.2 _ ap.TIz).trans (gk _ _ ap.TIz ap.TITO ap.TIi1 ap.TIi2 t2)
 done:=by
  intro X hP hw hK hc i pins s σ H E I hf st hg;subst hP hw hK;obtain⟨xs,ys,q1,q2,hx⟩:=hg;obtain⟨gj,lr,p1,lw⟩:=I.list q1;obtain⟨bu,mi,p2,m6⟩:=I.list q2;obtain⟨t1,t2,⟨a,b,t3⟩,t4,t5⟩:=st;have jf:=lr.length;have im:=mi.length;refine wpAny_pyNext_zip_end (I.ok.hd hc) ap t1 t2 t3 t4 t5 p1.isList p2.isList (hx.imp (λh=>by simp;omega) λh=>by simp;omega) λh' kk=>⟨rfl,?_⟩
  refine jw8 (t':=s.toks) [z,TO,i1,i2] I (λb o hb e=>?_) λb hb=>hf b (by
   simp only[Xh,Xg,or_false]at hb ⊢;rcases hb with h|h|h|h<;>simp[h])
  simp only[Xh,Xg,or_false,not_or]at hb;exact kk b o hb.1 hb.2.1 hb.2.2.1 hb.2.2.2 e
 self:=λ_ _ _ _ _ st h=>wpAny_pyIter_zip st.1 h
abbrev iZip(K:PySem.W.Frag)(ta:TA):TI:=fun σ H R=>ta σ H λvs H1=>∃l1 l2,vs=[.ref l1,.ref l2]/\(∃xs,SqL K H1 l1 xs)/\(∃ys,SqL K H1 l2 ys)/\R (Itz K l1 l2) H1
section
variable {X:Cx}
theorem vzq(K:PySem.W.Frag){a b:Expr}{ta:TA}{p pos gz:Pos}{cg:List Expr}{k1:Nat}(hg:Gl X "zip")(hm:X.mg "zip"=none)(ha:PA X [a,b] ta)(hK:autoParam (X.K=K) Ŕ)
  (hs:autoParam (starEach [a,b] X.env=[(false,eval a X.env),(false,eval b X.env)]) Ŕ) (iw:autoParam (starEach [b] X.env=[(false,eval b X.env)]) Ŕ):
  PI X (.Tuple cg k1 gz) (.Call (.Name "zip" p) [a,b] [] pos) (iZip K ta):=by
 subst hK;intro pins s σ H R I h;refine Call_ (V4 I hg hm vq9 (Yk (thn (ha pos pins s σ H _ I h) λus s1 ⟨vs,H1,I1,r1,q1⟩=>?_) (by rw[hs,iw]) (by rw[iw];rfl)));obtain⟨l1,l2,rfl,⟨xs,q1⟩,⟨ys,q2⟩,q⟩:=q1;obtain⟨u1,u2,rfl,e1,e2⟩:=qv3 r1;cases e1;cases e2;obtain⟨gj,lr,p1,lw⟩:=I1.list q1;obtain⟨bu,mi,p2,m6⟩:=I1.list q2;have lt:∀{l:Addr} {ar:Array Value},s1.heap.IsList l ar->l<s1.heap.objs.size:=λh=>by obtain⟨_,e,_⟩:=h;exact Xd e
 refine call_zip_2 p1.isList p2.isList λh' g1 g2 g3 g4 g5 gs gk=>?_
 refine wpAny_pyIter_zip g1 ⟨_,[_,s1.heap.objs.size+2,s1.heap.objs.size+3,s1.heap.objs.size,s1.heap.objs.size+1],_,_,H1,rfl,I1.kept (t':=s1.toks) gk,
  qje (zipApart_new (lt p1.isList) (lt p2.isList)),⟨g1,g2,⟨_,_,g3⟩,g4,g5⟩,λb hb=>?_,q⟩
 have gh:s1.heap.objs.size<=b:=by
  simp only[Xh,Xg,or_false]at hb;rcases hb with rfl|rfl|rfl|rfl|rfl<;>omega
 exact I1.fpOk gh (I1.hok.fresh gh)
end
noncomputable def splitL(c:Nat):List Nat->List (List Nat)
 |[]=>[[]]
 |x::r=>if x=c then[]::splitL c r else match splitL c r with
  |[]=>[[x]]
  |p::ps=>(x::p)::ps
def joinL(c:Nat):List (List Nat)->List Nat
 |[]=>[]
 |[p]=>p
 |p::q::r=>p++c::joinL c (q::r)
theorem kqy(c:Nat):∀l,(splitL c l).length<=l.length+1
 | []=>by simp[splitL]
 | x::r=>by
  have ih:=kqy c r;unfold splitL
  split
  ·simp;omega
  ·split
   ·simp
   ·rename_i h;rw[h]at ih
    simpa using Nat.le_succ_of_le ih
theorem kk1{c:Nat}:∀{p:List Nat},c∉p->splitL c p=[p]
 |[],_=>rfl
 |x::r,h=>by
  have hx:x≠c:=λe=>h (by rw[e];exact X3)
  unfold splitL;rw[Xm hx,kk1 λz=>h (lc9 _ z)]
theorem kqz{c:Nat}{r:List Nat}:∀{p:List Nat},c∉p->splitL c (p++c::r)=p::splitL c r
 |[],_=>by simp[splitL]
 |x::p,h=>by
  have hx:x≠c:=λe=>h (by rw[e];exact X3)
  rw[List.cons_append,splitL.eq_2,Xm hx,kqz λz=>h (lc9 _ z)]
theorem splitL_join{c:Nat}:∀{ps:List (List Nat)},ps≠[]->(∀p∈ps,c∉p)->splitL c (joinL c ps)=ps
 |[],h,_=>absurd rfl h
 |[p],_,h=>kk1 (h p (List.mem_singleton.mpr rfl))
 |p::q::r,_,h=>by
  show splitL c (p++c::joinL c (q::r))=_;rw[kqz (h p X3),splitL_join (by simp) λz hz=>h z (lc9 _ hz)]
theorem joinS_cps(c:Nat):∀zs:List Str,(Txt.join ⟨#[c]⟩ zs).cps.toList=joinL c (zs.map λz=>z.cps.toList):=by
 intro zs;show(Builtin.Str.glued ⟨#[c]⟩ zs).cps.toList=_;rw[StrLaws.glued_eq_join]
 induction zs with
 | nil=>rfl
 | cons z zs ih=>
  cases zs with
  |nil=>simp[Str.join,joinL]
  |cons y ys=>
   show(z.cps++(#[c]:Array Nat)++(Str.join ⟨#[c]⟩ (y::ys)).cps).toList=_;rw[Array.toList_append,Array.toList_append,ih];show _=z.cps.toList++c::joinL c (y.cps.toList::ys.map λz=>z.cps.toList);simp
theorem str_ext{a b:Str}(h:a.cps.toList=b.cps.toList):a=b:=by
 rw[StrLaws.mk_of_toList h]
theorem split_list(x:Str)(c:Nat):(Txt.split x ⟨#[c]⟩).map (λz=>z.cps.toList)=splitL c x.cps.toList:=by
 have hj:=StrLaws.join_split x ⟨#[c]⟩;have hf:=StrLaws.split_free x c;have ft:Txt.split x ⟨#[c]⟩≠[]:=by
  intro e;have e0:x.length<(⟨#[c]⟩:Str).length:=by
   rw[e]at hj;have:x=Str.empty:=hj.symm;rw[this];show 0<1;omega
  unfold Txt.split at e
  rw[Xf (by rw[Yc e0,Bool.true_or])]at e;cases e
 have q:=joinS_cps c (Txt.split x ⟨#[c]⟩);rw[show Txt.join ⟨#[c]⟩ (Txt.split x ⟨#[c]⟩)=x from(StrLaws.glued_eq_join _ _).trans hj]at q;rw[q];refine(splitL_join ?_ ?_).symm
 ·simpa using ft
 ·intro p hp;obtain⟨z,hz,rfl⟩:=List.mem_map.mp hp;exact hf z hz
theorem qvd(x:Str)(c:Nat):(Txt.split x ⟨#[c]⟩).length<=x.length+1:=by
 have h:=congrArg List.length (split_list x c);rw[X4]at h;rw[h,vw4];exact kqy _ _
theorem starts_list(x:Str)(c:Nat):Txt.startswith x ⟨#[c]⟩=decide (x.cps.toList.head?=some c):=by
 have h:=StrLaws.subAt_one x c 0;rw[Bool.eq_iff_iff,decide_eq_true_eq,List.head?_eq_getElem?,<-h];unfold Txt.startswith;rw[Bool.and_eq_true,decide_eq_true_eq]
section
variable {X:Cx}
theorem kwo:∀(k:Nat) (zs:List Str),Vals (zs.map V.str) (strsFrom k zs)
 |_,[]=>.nil
 |k,z::zs=>.cons ⟨k,rfl⟩ (kwo (k+1) zs)
def kzs:V->List V->Hp->VK->Prop:=λv vs H Q=>∃x y:Str,v=.str x/\vs=[.str y]/\Q (.bl (Txt.startswith x y)) H
theorem vjf:MtR X "str.startswith" kzs:=by
 intro pins s σ H x xs v us Q I rx rv h;obtain⟨z,y,rfl,rfl,q⟩:=h;obtain⟨t,rfl⟩:=rx;obtain⟨u,rfl,t',rfl⟩:=rv.one;exact SC.startswith ⟨.bl _,H,I,rfl,q⟩
noncomputable def qvt:V->List V->Hp->VK->Prop:=λv vs H Q=>∃(x:Str) (c:Nat),v=.str x/\vs=[.str ⟨#[c]⟩]/\x.length<sizeLine/\∀p,H p=none->Q (.ref p) (upd H p (.lst ((Txt.split x ⟨#[c]⟩).map V.str)))
theorem vvz:MtR X "str.split" qvt:=by
 intro pins s σ H x xs v us Q I rx rv h;obtain⟨z,c,rfl,rfl,hz,q⟩:=h;obtain⟨t,rfl⟩:=rx;obtain⟨u,rfl,t',rfl⟩:=rv.one;have af:=qvd z c;have hn:H s.heap.objs.size=none:=I.hok.fresh (Xe _);have fin:∀(aa:List Value) (tk:Nat),Vals ((Txt.split z ⟨#[c]⟩).map V.str) aa->EP X pins σ Q (.ref s.heap.objs.size) { s with heap:=s.heap.push { cls:=.type "list",data:=.seq aa.toArray },toks:=tk }:=λaa tk r=>
  ⟨.ref _,_,I.laid (t':=tk) (λb o e=>X1 _ e) (Xe _) (show ObjOk X.prog X.w _ _ _ (.lst _)from⟨by rw[X4];omega,aa,0,r,X8 _ rfl⟩),rfl,q _ hn⟩
 by_cases h1:(decide (z.length<(⟨#[c]⟩:Str).length)||decide (Builtin.Str.strKind z<Builtin.Str.strKind ⟨#[c]⟩))=true
 ·refine call_meets F.slot_str_split (typeIs_str _ _ _) F.entry_str_split (F.args_str_split_2 _ _) (meets_str_split_cannot_occur z ⟨#[c]⟩ t t' h1) ?_;have e:Txt.split z ⟨#[c]⟩=[z]:=by unfold Txt.split;rw[Xf h1]
  exact fin [.str z t] s.toks (by rw[e];exact .cons ⟨_,rfl⟩ .nil)
 ·have h1':=Bool.eq_false_iff.mpr h1
  by_cases h2:(Builtin.Str.occurrences z ⟨#[c]⟩ 0 z.length (z.length+1)).isEmpty=true
  ·refine call_meets F.slot_str_split (typeIs_str _ _ _) F.entry_str_split (F.args_str_split_2 _ _) (meets_str_split_not_found z ⟨#[c]⟩ t t' h1' rfl h2) ?_;have e:Txt.split z ⟨#[c]⟩=[z]:=by unfold Txt.split;rw[Xm h1,Xf h2]
   exact fin [.str z t] s.toks (by rw[e];exact .cons ⟨_,rfl⟩ .nil)
  ·have e:Txt.split z ⟨#[c]⟩=Builtin.Str.partsBetween z (Builtin.Str.occurrences z ⟨#[c]⟩ 0 z.length (z.length+1)) (⟨#[c]⟩:Str).length:=by unfold Txt.split;rw[Xm h1,Xm h2]
   refine call_meets F.slot_str_split (typeIs_str _ _ _) F.entry_str_split (F.args_str_split_2 _ _) (meets_str_split_sep z ⟨#[c]⟩ t t' h1' rfl (Bool.eq_false_iff.mpr h2) (Nat.le_of_lt hz) (by rw[<-e];omega)) ?_;rw[<-e];exact fin _ _ (kwo _ _)
noncomputable def qvx:List V->Hp->VK->Prop:=λxs H Q=>(∃i,xs=[.int i]/\Q (.int i) H)\/(∃k,xs=[.bl k]/\Q (.int (if k then 1 else 0)) H)\/∃(x:Str) (n:Int),xs=[.str x]/\PySem.intText? x=some n/\x.length<=640/\Q (.int n) H
theorem kz8:CallR X (.type "int") qvx:=by
 intro pins s σ H xs us Q I r h;rcases h with h|h|⟨x,n,rfl,hx,hl,q⟩
 ·exact qxy pins s σ H xs us Q I r (.inl h)
 ·exact qxy pins s σ H xs us Q I r (.inr h)
 ·obtain⟨u,rfl,t,rfl⟩:=x8 r;exact PySem.W.KIN.call_text hx hl ⟨.int n,H,I.tok _,⟨_,rfl⟩,q⟩
abbrev TJ:=Str->L2.St->Hp->VK->Prop
noncomputable def PJ(X:Cx)(es:List Expr)(t:TJ):Prop:=∀(pins:List (Addr×Obj)) (s:Shared) (σ:L2.St) (H:Hp) (out:Str) (Q:VK),Inv X pins σ H s->t out σ H Q->wpAny (model X.prog X.w) X.A (joinParts out (evalEach es X.env)) (EP X pins σ Q) X.xe s
abbrev qzi:TJ:=λout _ H Q=>out.length<=sizeLine/\Q (.str out) H
theorem vkn:PJ X [] qzi:=by
 intro pins s σ H out Q I h;exact joinParts_nil ⟨.str out,H,I.tok _,⟨_,rfl⟩,h.2⟩ h.1
abbrev vkc(te:TE)(tj:TJ):TJ:=λout σ H Q=>te σ H λv H1=>∃y,v=.str y/\out.length+y.length<=sizeLine/\tj (out++y) σ H1 Q
theorem kka{e:Expr}{es:List Expr}{te:TE}{tj:TJ}(he:PE X e te)(hj:PJ X es tj)(hs:autoParam (evalEach (e::es) X.env=eval e X.env::evalEach es X.env) Ŕ):PJ X (e::es) (vkc te tj):=by
 intro pins s σ H out Q I h;rw[hs];refine joinParts_cons (thn (he pins s σ H _ I h) λv s1 ⟨x,H1,I1,r1,y,e1,hl,q⟩=>?_);subst e1;obtain⟨t,rfl⟩:=r1;exact⟨by rw[strLen_append];exact hl,hj pins s1 σ H1 _ Q I1 q⟩
abbrev tFm(te:TE):TE:=fun σ H Q=>te σ H λv H1=>(∃z,v=.str z/\z.length<=sizeLine/\Q (.str z) H1)\/∃i:Int,v=.int i/\i.natAbs.log2<1920/\Q (.str (Str.ofString (toString i))) H1
theorem vzz{e:Expr}{te:TE}{pos:Pos}(he:PE X e te):PE X (.FormattedValue e (-1) none pos) (tFm te):=by
 intro pins s σ H Q I h;refine FormattedValue_plain (thn (he pins s σ H _ I h) λv s1 ⟨x,H1,I1,r1,q⟩=>?_);rcases q with⟨z,rfl,hz,q⟩|⟨i,rfl,hi,q⟩
 ·obtain⟨t,rfl⟩:=r1;exact formatField_str (λt' tk=>⟨.str z,H1,I1.tok _,⟨_,rfl⟩,q⟩) hz
 ·obtain⟨t,rfl⟩:=r1;exact formatField_int_small hi ⟨.str _,H1,I1.tok _,⟨_,rfl⟩,q⟩
abbrev tJs(tj:TJ):TE:=fun σ H Q=>tj Str.empty σ H Q
theorem vzy{e1 e2:Expr}{es:List Expr}{tj:TJ}{pos:Pos}(hj:PJ X (e1::e2::es) tj)(hs:autoParam (evalEach (e1::e2::es) X.env=eval e1 X.env::eval e2 X.env::evalEach es X.env) Ŕ):PE X (.JoinedStr (e1::e2::es) pos) (tJs tj):=by
 intro pins s σ H Q I h;refine JoinedStr_many ?_;rw[<-hs];exact hj pins s σ H Str.empty Q I h
end
abbrev FIG:Str:="0123456789"
def figC(c:Nat):Bool:=decide (c∈FIG.cps.toList)
def numL(cs:List Nat):Bool:=!decide (cs=[])&&cs.all figC&&(decide (cs=[48])||!decide (cs.head?=some 48))
theorem let_range:∀c∈LET.cps.toList,97<=c/\c<=122:=by decide
theorem joinL_len{c k:Nat}:∀{ps:List (List Nat)},(∀p∈ps,p.length<=k)->(joinL c ps).length<=ps.length*(k+1)
 |[],_=>by simp[joinL]
 |[p],h=>by
  have:=h p (List.mem_singleton.mpr rfl);show p.length<=1*(k+1);omega
 |p::q::r,h=>by
  have h1:=h p X3;have ih:=joinL_len (c:=c) (ps:=q::r) λz hz=>h z (lc9 _ hz)
  show(p++c::joinL c (q::r)).length<=_;rw[Xn,Xb,Xb (a:=p),Nat.add_one_mul];omega
end L3
namespace L2
open PySem PySem.Spec PyProof.Rows
section
variable {X:Cx}{pins:List (Addr×Obj)}{σ:List (Option V)}{H H':Hp}{s:Shared}{h':Heap}
theorem Inv.stepN{g':Array GenState}{t':Nat}{d':Drawn}{ch:List Addr}(I:Inv X pins σ H s)
  (fy:∀b∈ch,(b∈X.ex\/X.s₀.heap.get? b=none)/\b≠X.env.locals/\(∀x c,X.env.cells.lookup x=some c->c≠b)/\∀p∈X.pn++pins,p.1≠b)
  (keep:∀b o,b≠X.env.locals->b∉X.fs->b∉ch->s.heap.get? b=some o->H b=none->h'.get? b=some o)
  (slot:∀b o,b≠X.env.locals->b∈X.fs->b∉ch->s.heap.get? b=some o->H b=none->∃sl,h'.get? b=some { o with slots:=sl }) (free:∀b o,b∉ch->s.heap.get? b=some o->H b=none->H' b=none)
  (there:∀b o,b∉ch->s.heap.get? b=some o->∃o',h'.get? b=some o')
  (tups:∀b xs,H b=some (.tup xs)->H' b=some (.tup xs)) (frzs:∀b o u,H b=some (.frz o u)->H' b=some (.frz o u)) (tbls:∀b ps,H b=some (.tbl ps)->∃more,H' b=some (.tbl (ps++more)))
  (ns:∀m,s.heap.Ns X.env.locals m->h'.Ns X.env.locals m) (hok:HOk X.prog X.w H' h') (hg:AllBare g'):
  Inv X pins σ H' { s with heap:=h',gens:=g',drawn:=d',toks:=t' }:=by
 have qd:∀b o,X.s₀.heap.get? b=some o->b≠X.env.locals:=λb o e=>Xq (Xi (Xd e) I.ok.above)
 have mn:∀b o,X.s₀.heap.get? b=some o->b∉X.ex->b∉ch:=λb o e hx hb=>by
  rcases(fy b hb).1 with z|z
  ·exact hx z
  ·rw[z]at e;cases e
 have ik:∀x c,X.env.cells.lookup x=some c->∀v,s.heap.IsCell c v->h'.IsCell c v:=λx c e v ⟨o,ho,hd⟩=>by
  have ld:c∉ch:=λz=>(fy c z).2.2.1 x c e rfl
  by_cases hc:c∈X.fs
  ·obtain⟨sl,q⟩:=slot c o (I.cne x c e) hc ld ho (I.freeC x c e);exact⟨_,q,hd⟩
  ·exact⟨o,keep c o (I.cne x c e) hc ld ho (I.freeC x c e),hd⟩
 refine⟨I.ok,I.os,hg,⟨λb o e n hb hx=>?_,λb o e n hb hx=>?_,λb o e n hx=>?_,λb o e hx=>?_,λb xs e=>tups b xs (I.base.tups b xs e),λb o xs e=>frzs b o xs (I.base.frzs b o xs e),λb ps e=>?_⟩,?_,λx c e=>?_,?_,λx c e=>?_,λp hp=>?_,hok,I.len⟩
 ·exact keep b o (qd b o e) hb (mn b o e hx) (I.base.keep b o e n hb hx) (I.base.free b o e n hx)
 ·obtain⟨sl,e1⟩:=I.base.slot b o e n hb hx;obtain⟨sl',e2⟩:=slot b _ (qd b o e) hb (mn b o e hx) e1 (I.base.free b o e n hx);exact⟨sl',e2⟩
 ·obtain⟨o',e1⟩:=I.base.there b o e hx;exact free b o' (mn b o e hx) e1 (I.base.free b o e n hx)
 ·obtain⟨o',e1⟩:=I.base.there b o e hx;exact there b o' (mn b o e hx) e1
 ·obtain⟨m1,e1⟩:=I.base.tbls b ps e;obtain⟨m2,e2⟩:=tbls b _ e1;exact⟨m1++m2,by rw[e2,Array.append_assoc]⟩
 ·obtain⟨m,hn,hl⟩:=I.loc;refine⟨m,ns m hn,λi x v e1 e2 e3=>?_⟩;obtain⟨u,r,l⟩:=hl i x v e1 e2 e3;refine⟨u,r,?_⟩;rcases l with l|⟨k,c,e,z⟩
  ·exact .inl l
  ·exact .inr ⟨k,c,e,ik x c e _ z⟩
 ·obtain⟨v,z⟩:=I.cell x c e;exact⟨v,ik x c e v z⟩
 ·obtain⟨m,⟨o,_,_,ho,_⟩,_⟩:=I.loc;exact free _ o (λz=>(fy _ z).2.1 rfl) ho I.free
 ·obtain⟨v,o,ho,hd⟩:=I.cell x c e;exact free c o (λz=>(fy c z).2.2.1 x c e rfl) ho (I.freeC x c e)
 ·obtain⟨e,n,ne,nf,d⟩:=I.pin p hp;have ld:p.1∉ch:=λz=>(fy p.1 z).2.2.2 p hp rfl
  exact⟨keep p.1 p.2 ne nf ld e n,free p.1 p.2 ld e n,ne,nf,d⟩
theorem Inv.callN{g':Array GenState}{t':Nat}{d':Drawn}{ch:List Addr}(I:Inv X pins σ H s)(u:Un (frs X.stack) ch H H' s.heap h')(hok:HOk X.prog X.w H' h')(hg:AllBare g')
  (fy:∀b∈ch,(b∈X.ex\/X.s₀.heap.get? b=none)/\b≠X.env.locals/\(∀x c,X.env.cells.lookup x=some c->c≠b)/\∀p∈X.pn++pins,p.1≠b):
  Inv X pins σ H' { s with heap:=h',gens:=g',drawn:=d',toks:=t' }:=by
 obtain⟨m,⟨o,es,ep,ho,r⟩,_⟩:=id I.loc;obtain⟨sl,hL⟩:=u.any ho I.free λz=>(fy _ z).2.1 rfl
 exact I.stepN (ch:=ch) fy (λb o hL hb hc e n=>u.keep b o e n (λz=>(List.mem_cons.mp (I.stkSub b z)).elim hL hb) hc) (λb o _ _ hc e n=>u.any e n hc) (λb o hc e n=>u.free b o e n hc) (λb o hc e=>u.there b o e hc) u.tups u.frzs u.tbls (λm' hm=>by
  obtain⟨o',es',qt,ib,r'⟩:=hm;rw[ho]at ib;cases ib;exact⟨_,es',qt,hL,r'⟩) hok hg
end
end L2
namespace L3
open PySem PySem.Spec PyProof.Rows L2
theorem kki{e:Value}{env env0:Env}(h:env.frame=env0.frame):noteFrame e env=noteFrame e env0:=by
 unfold noteFrame PySem.frameOf;rw[h]
structure Fl0 (h:Heap)(x:Addr)(C:Value)(vs:Array Value):Prop where
 ob:h.get? x=some { cls:=C,data:=.fields vs }
 sz:1<vs.size
structure FlT (h:Heap)(x T:Addr)(C:Value)(fl:Value):Prop where
 ex:∃vs,h.get? x=some { cls:=C,data:=.fields vs }/\vs[1]?=some (.ref T)
 tb:∃oT ts,h.get? T=some oT/\oT.data=.fields ts/\ts[3]?=some fl
 ne:T≠x
structure Chg (fs ch:List Addr)(h h':Heap):Prop where
 keep:∀b o,h.get? b=some o->b∉fs->b∉ch->h'.get? b=some o
 slot:∀b o,h.get? b=some o->b∉ch->∃sl,h'.get? b=some { cls:=o.cls,dict:=o.dict,data:=o.data,slots:=sl }
 size:h.objs.size<=h'.objs.size
theorem Chg.trans{fs ch ch':List Addr}{h h1 h2:Heap}(a:Chg fs ch h h1)(b:Chg fs ch' h1 h2)(hc:∀x∈ch',x∈ch\/h.get? x=none):Chg fs ch h h2 where
 keep:=λx o e h1 h2=>b.keep x o (a.keep x o e h1 h2) h1 λz=>(hc x z).elim h2 λq=>by rw[q]at e;cases e
 slot:=λx o e hn=>by
  obtain⟨sl,e1⟩:=a.slot x o e hn;obtain⟨m5,e2⟩:=b.slot x _ e1 λz=>(hc x z).elim hn λq=>by rw[q]at e;cases e
  exact⟨m5,e2⟩
 size:=Xw a.size b.size
theorem Chg.mono{fs ch ch':List Addr}{h h1:Heap}(a:Chg fs ch h h1)(hc:∀x∈ch,x∈ch'):Chg fs ch' h h1:=⟨λb o e h1 h2=>a.keep b o e h1 λz=>h2 (hc b z),λb o e h2=>a.slot b o e λz=>h2 (hc b z),a.size⟩
theorem Chg.of_upd{fs : List Addr}{h : Heap}{a : Addr}{f : Obj -> Obj}: Chg fs [a] h (h.update a f):=
  ⟨λb o e _ hn=>by rw[Yu _ _ _ _ (λz=>hn (List.mem_singleton.mpr z))]; exact e,
   λb o e hn=>⟨o.slots, by rw[Yu _ _ _ _ (λz=>hn (List.mem_singleton.mpr z))]; exact e⟩, by rw[Heap.size_update]; exact Xe _⟩
theorem Chg.of_push{fs:List Addr}{h:Heap}{o:Obj}:Chg fs [] h (h.push o):=
 ⟨λb o e _ _=>X1 _ e,λb o e _=>⟨o.slots,X1 _ e⟩,by rw[Yn];omega⟩
theorem Chg.of_slots{fs:List Addr}{h h':Heap}(s:Heap.SlotsOnly fs h h'):Chg fs [] h h':=
 ⟨λb o e hn _=>(s.2.1 b hn).trans e,λb o e _=>s.2.2 b o e,by rw[s.1];exact Xe _⟩
theorem Chg.refl{fs ch:List Addr}{h:Heap}:Chg fs ch h h:=⟨λ_ _ e _ _=>e,λb o e _=>⟨o.slots,e⟩,Xe _⟩
section
variable {M:Model}{A:Around}{E:Value->Shared->Prop}{s:Shared}{base:Heap}{env:Env}{outer:List Env}{L x T:Addr}{C fl:Value}
theorem kz1{head:Value}{hadNext:Bool}{vs:Array Value}{Q:Unit->Shared->Prop}(hA:A.frames=some (env::outer))(hF:s.heap.FunFrames base (env::outer))(hL:env.frame=some L)(ho:Fl0 s.heap x C vs)
  (h:∀h' T',Chg (frs (env::outer)) [x] s.heap h'->s.heap.objs.size<=T'->FlT h' x T' C (rawInt ↑L)->Q () { s with heap:=h' }):
  wpAny M A (do
   let a <-PySem.frameOf env
   let pl <-entryPlaceOf L hadNext
   let b <-EntryCells.newEntry head a Value.none (rawInt ↑L) Value.none pl
   setField (Value.ref x) 1 b) Q E s:=by
 refine X0 (wpAny_frameOf_fun hA hF hL λh1 s1=>?_);have hx:x∉frs (env::outer):=λz=>by
  obtain⟨_,o,e,hn⟩:=hF.mem z;rw[ho.ob]at e;cases e;exact hn _ rfl
 have o1:h1.get? x=some { cls:=C,data:=.fields vs }:=(s1.2.1 x hx).trans ho.ob;have fin:∀pl:List Value,IsPlace pl->wpAny M A (do
   let b <-EntryCells.newEntry head (Value.ref L) Value.none (rawInt ↑L) Value.none pl
   setField (Value.ref x) 1 b) Q E { s with heap:=h1 }:=λpl bt=>by
  refine X0 ?_;unfold EntryCells.newEntry newFields;have har:([head,Value.ref L,Value.none,rawInt ↑L,Value.none]++if pl.isEmpty=true then List.replicate 6 Value.none else pl).toArray[3]?=some (rawInt ↑L):=by simp
  have hsz:([head,Value.ref L,Value.none,rawInt ↑L,Value.none]++if pl.isEmpty=true then List.replicate 6 Value.none else pl).toArray.size<=sizeLine+2:=by
   rcases bt with rfl|⟨_,_,_,_,_,_,_,rfl⟩<;>simp<;>decide
  generalize ([head,Value.ref L,Value.none,rawInt ↑L,Value.none]++if pl.isEmpty=true then List.replicate 6 Value.none else pl).toArray=ar at har hsz;refine Xs ?_ hsz;have o2:(h1.push { cls:=.type "traceback",data:=.fields ar }).get? x=some { cls:=C,data:=.fields vs }:=X1 _ o1;refine Yg (s:={ s with heap:=h1.push _ }) o2 rfl ho.sz ?_;have ft:h1.objs.size≠x:=λe=>absurd (Xd o1) (by rw[<-e];exact Yd _)
  have o3:((h1.push { cls:=.type "traceback",data:=.fields ar }).update x (Obj.mapFields λy=>y.setIfInBounds 1 (.ref h1.objs.size))).get? h1.objs.size=some { cls:=.type "traceback",data:=.fields ar }:=by
   rw[Yu _ _ _ _ ft];exact X8 _ rfl
  refine h _ h1.objs.size (((Chg.of_slots s1).mono (λ_ z=>nomatch z)).trans ((Chg.of_push.mono λ_ z=>nomatch z).trans (ch:=[x]) Chg.of_upd λy hy=>.inl hy) λy hy=>.inl hy) (by rw[s1.1];exact Xe _) ⟨⟨vs.setIfInBounds 1 (.ref h1.objs.size),?_,Array.getElem?_setIfInBounds_self_of_lt ho.sz⟩,⟨_,_,o3,rfl,har⟩,ft⟩;exact Y2 _ o2 rfl
 exact X0 (wpAny_entryPlaceOf λpl bt=>fin pl bt)
theorem wvm{vs:Array Value}{Q:Unit->Shared->Prop}(hA:A.frames=some (env::outer))(hF:s.heap.FunFrames base (env::outer))(hL:env.frame=some L)(ho:Fl0 s.heap x C vs)(hv:vs[1]?=some .none)
  (h:∀h' T',Chg (frs (env::outer)) [x] s.heap h'->s.heap.objs.size<=T'->FlT h' x T' C (rawInt ↑L)->Q () { s with heap:=h' }):wpAny M A (noteFrame (.ref x) env) Q E s:=by
 unfold noteFrame;rw[hL];refine X0 (Y3 ho.ob rfl hv ?_);exact kz1 (hadNext:=false) hA hF hL ho h
theorem upd3{T:Addr}{oT:Obj}{ts:Array Value}{v:Value}{h:Heap}(e:h.get? T=some oT)(ed:oT.data=.fields ts)(h3:3<ts.size):
  ∃o' ts',(h.update T (Obj.mapFields λy=>y.setIfInBounds 3 v)).get? T=some o'/\o'.data=.fields ts'/\ts'[3]?=some v:=by
 obtain⟨c,d,dt,sl⟩:=oT;cases(show dt=.fields ts from ed);exact⟨_,ts.setIfInBounds 3 v,Y2 _ e rfl,rfl,Array.getElem?_setIfInBounds_self_of_lt h3⟩
theorem wvl{Q:Unit->Shared->Prop}(hA:A.frames=some (env::outer))(hF:s.heap.FunFrames base (env::outer))(hL:env.frame=some L)(f:FlT s.heap x T C fl)
  (h:∀h' T',Chg (frs (env::outer)) [x,T] s.heap h'->(s.heap.objs.size<=T'\/T'=T)->FlT h' x T' C (rawInt ↑L)->Q () { s with heap:=h' }):wpAny M A (noteFrame (.ref x) env) Q E s:=by
 obtain⟨⟨vs,e1,v1⟩,⟨oT,ts,e2,d2,v2⟩,ft⟩:=f;have h3:3<ts.size:=by
  rw[Array.getElem?_eq_some_iff]at v2;exact v2.1
 have h1:1<vs.size:=by
  rw[Array.getElem?_eq_some_iff]at v1;exact v1.1
 unfold noteFrame;rw [hL];refine X0 (Y3 e1 rfl v1 ?_);show wpAny M A (if((Value.ref T != Value.none)=true)then _ else _) Q E s;rw [Xf (show(Value.ref T != Value.none)=true from rfl)];refine X0 (Y3 e2 d2 v2 ?_)
 by_cases hf:(fl==rawInt ↑L)=true
 ·rw[Xf hf];have e:fl=rawInt ↑L:=eq_of_beq hf;subst e;exact X5 (h s.heap T Chg.refl (.inr rfl) ⟨⟨vs,e1,v1⟩,⟨oT,ts,e2,d2,v2⟩,ft⟩)
 ·rw[Xm hf];refine X0 (Yg e2 d2 h3 ?_);have c1:Chg (frs (env::outer)) [x,T] s.heap (s.heap.update T (Obj.mapFields λy=>y.setIfInBounds 3 Value.none)):=Chg.of_upd.mono λy hy=>by
   rw[List.mem_singleton.mp hy];simp
  have e1':(s.heap.update T (Obj.mapFields λy=>y.setIfInBounds 3 Value.none)).get? x=some { cls:=C,data:=.fields vs }:=by
   rw[Yu _ _ _ _ ft.symm];exact e1
  have hF':(s.heap.update T (Obj.mapFields λy=>y.setIfInBounds 3 Value.none)).FunFrames base (env::outer):=by
   refine hF.of_keeps λb o e hn=>⟨o,?_,rfl⟩
   rw[Yu _ _ _ _ λz=>?_]
   ·exact e
   ·rw[z,e2]at e;cases e;exact hn _ d2
  refine kz1 (s:={ s with heap:=s.heap.update T _ }) (hadNext:=true) hA hF' hL ⟨e1',h1⟩ λh' T' c2 hs f'=>?_
  refine h h' T' (c1.trans (c2.mono (ch':=[x,T]) λy hy=>by rw[List.mem_singleton.mp hy];simp) λy hy=>.inl hy) (.inl ?_) f';rw[Heap.size_update]at hs;exact hs
theorem wkb{Q:Unit->Shared->Prop}{fr:Option Addr}(f:FlT s.heap x T C fl)(h:∀h',Chg (frs outer) [x,T] s.heap h'->FlT h' x T C (fr.elim Value.none λf=>rawInt ↑f)->Q () { s with heap:=h' }):wpAny M A (setFlight (.ref x) fr) Q E s:=by
 obtain⟨⟨vs,e1,v1⟩,⟨oT,ts,e2,d2,v2⟩,ft⟩:=f;have h3:3<ts.size:=by
  rw[Array.getElem?_eq_some_iff]at v2;exact v2.1
 unfold setFlight;refine X0 (Y3 e1 rfl v1 ?_);rw[Xf (show(Value.ref T != Value.none)=true from rfl)];refine Yg e2 d2 h3 (h _ (Chg.of_upd.mono λy hy=>by rw[List.mem_singleton.mp hy];simp) ⟨⟨vs,?_,v1⟩,upd3 e2 d2 h3,ft⟩);rw[Yu _ _ _ _ ft.symm];exact e1
end
structure XCls (K:PySem.W.Frag)(C:Addr):Prop where
 ga:PySem.W.findIn K (.ref C) "__getattribute__"=some (some (.builtin "BaseException.__getattribute__"))
 gt:PySem.W.findIn K (.ref C) "__getattr__"=some none
 fo:PySem.W.findObj K C none "__class__"=some (.bind (.builtin "getset_descriptor.__get__") (.builtin "object.__class__"))
 ob:PySem.W.mroIn K C (.type "object")=some true
 bx:PySem.W.mroIn K C (.type "BaseException")=some true
 cl:(PySem.W.clsIn K C).isSome=true
noncomputable def FpX(X:Cx)(pins:List (Addr×Obj))(H:Hp)(b:Addr):Prop:=
 H b=none/\b≠X.env.locals/\b∉X.fs/\(b∈X.ex\/X.s₀.heap.get? b=none)/\(∀x c,X.env.cells.lookup x=some c->c≠b)/\∀p∈X.pn++pins,p.1≠b
section
variable {X:Cx}{pins:List (Addr×Obj)}{σ:L2.St}{H:Hp}{s:Shared}
theorem fpX{H':Hp}{b:Addr}(I:Inv X pins σ H s)(hb:s.heap.get? b=none)(hn:H' b=none):FpX X pins H' b:=by
 refine⟨hn,λz=>?_,λz=>?_,?_,λx c e z=>?_,λp hp z=>?_⟩
 ·obtain⟨m,⟨o,_,_,ho,_⟩,_⟩:=I.loc;rw[<-z,hb]at ho;cases ho
 ·obtain⟨_,o,e,_⟩:=I.ok.funs.mem z
  by_cases hx:b∈X.ex
  ·exact I.ok.exfs b hx z
  ·obtain⟨o',e'⟩:=I.base.there b o e hx;rw[hb]at e';cases e'
 ·by_cases hx:b∈X.ex
  ·exact .inl hx
  ·cases e:X.s₀.heap.get? b with
   |none=>exact .inr rfl
   |some o=>
    obtain⟨o',e'⟩:=I.base.there b o e hx;rw[hb]at e';cases e'
 ·obtain⟨v,o,ho,_⟩:=I.cell x c e;rw[z,hb]at ho;cases ho
 ·have:=(I.pin p hp).1;rw[z,hb]at this;cases this
theorem FpX.of{b:Addr}(h:vJ X pins H b):FpX X pins H b:=⟨h.1,h.2.1,h.2.2.1,h.2.2.2.1.imp id λz=>Heap.get?_none_of_le z,h.2.2.2.2⟩
theorem qj6{h':Heap}{ch:List Addr}(I:Inv X pins σ H s)(c:Chg (frs X.stack) ch s.heap h')(hf:∀b∈ch,FpX X pins H b):Inv X pins σ H { s with heap:=h' }:=by
 refine I.callN (g':=s.gens) (t':=s.toks) (d':=s.drawn) (ch:=ch) ⟨λb o e _ h1 h2=>c.keep b o e h1 h2,λb o e _ _ h2=>c.slot b o e h2,λ_ _ _ n _=>n,λb o e h2=>?_,λ_ _ e=>e,λ_ _ _ e=>e,λ_ _ e=>⟨#[],by rw[e];simp⟩⟩ (λb u e=>?_) I.bare λb hb=>?_
 ·obtain⟨sl,q⟩:=c.slot b o e h2;exact⟨_,q⟩
 ·have no:∀d v,H d=some v->d∉frs X.stack/\d∉ch:=λd v e=>⟨λz=>(by rw[I.stkFree d z]at e;cases e),λz=>(by rw[(hf d z).1]at e;cases e)⟩
  refine(I.hok b u e).stay (λd v hc q=>?_) (λ_ q=>q) λ_ _ q=>q
  rcases hc with z|z
  ·rw[z]at q ⊢;exact c.keep b v q (no b u e).1 (no b u e).2
  ·exact c.keep d v q (no d _ z).1 (no d _ z).2
 ·obtain⟨_,f1,_,f3,f4,f5⟩:=hf b hb;exact⟨f3,f1,f4,f5⟩
end
structure Fx (X:Cx)(pins:List (Addr×Obj))(H:Hp)(h:Heap)(x:Addr)(C:Value):Prop where
 fp:FpX X pins H x
 st:(∃vs,Fl0 h x C vs/\vs[1]?=some .none)\/∃T fl,FlT h x T C fl/\FpX X pins H T
structure Xt (X:Cx)(pins:List (Addr×Obj))(σ:L2.St)(H:Hp)(x T:Addr)(C fl:Value)(s:Shared):Prop where
 inv:Inv X pins σ H s
 fx:FpX X pins H x
 fT:FpX X pins H T
 f:FlT s.heap x T C fl
theorem Xt.to{X:Cx}{pins:List (Addr×Obj)}{σ:L2.St}{H:Hp}{x T:Addr}{C fl:Value}{s:Shared}(h:Xt X pins σ H x T C fl s):Fx X pins H s.heap x C:=⟨h.fx,.inr ⟨T,fl,h.f,h.fT⟩⟩
noncomputable def Xo(X:Cx)(E:XK)(e:Value)(s:Shared):Prop:=∃pins σ H x C,e=.ref x/\Inv X pins σ H s/\Fx X pins H s.heap x C/\E C none H
def zj(X:Cx)(E:XK):Prop:=∀pins σ H s x C,Inv X pins σ H s->Fx X pins H s.heap x C->E C none H->X.xe (.ref x) s
abbrev Cx.ex'(X:Cx)(E:XK):Cx:=X.wish (Xo X E)
theorem Zk{X:Cx}{E:XK}:zj (Cx.ex' X E) E:=λpins σ H s x C I f q=>⟨pins,σ,H,x,C,rfl,I.unwish,⟨f.fp,f.st⟩,q⟩
def Jw(X:Cx):Prop:=∃env0 out,X.stack=env0::out/\X.env.frame=env0.frame
section
variable {X:Cx}{pins:List (Addr×Obj)}{σ:L2.St}{H:Hp}{s:Shared}{M:Model}{E':Value->Shared->Prop}{x T:Addr}{C fl:Value}
theorem qwm{A:Around}{Q:Unit->Shared->Prop}(top:Jw X)(hA:A.frames=X.A.frames)(I:Inv X pins σ H s)(f:Fx X pins H s.heap x C)(h:∀L T s',X.env.frame=some L->Xt X pins σ H x T C (rawInt ↑L) s'->Q () s'):
  wpAny M A (noteFrame (.ref x) X.env) Q E' s:=by
 obtain⟨env0,out,e1,e2⟩:=top;have hF:=I.stack;have ov:A.frames=some (env0::out):=by rw[hA,I.ok.frames,e1]
 rw[e1]at hF;obtain⟨_,⟨L,o,hL,_⟩,_⟩:=id hF;rw[kki e2];have hL':X.env.frame=some L:=e2.trans hL;rcases f.st with⟨vs,f0,hv⟩|⟨T,fl,fT,pT⟩
 ·refine wvm ov hF hL f0 hv λh' T' c hs mx=>h L T' _ hL' ⟨?_,f.fp,fpX I (Heap.get?_none_of_le hs) (I.hok.fresh hs),mx⟩
  rw[<-e1]at c;exact qj6 I c λb hb=>by rw[List.mem_singleton.mp hb];exact f.fp
 ·refine wvl ov hF hL fT λh' T' c hs mx=>?_
  rw[<-e1]at c;refine h L T' _ hL' ⟨qj6 I c λb hb=>?_,f.fp,?_,mx⟩
  ·simp only[Xh,Xg,or_false]at hb;rcases hb with rfl|rfl
   ·exact f.fp
   ·exact pT
  ·rcases hs with hs|hs
   ·exact fpX I (Heap.get?_none_of_le hs) (I.hok.fresh hs)
   ·rw[hs];exact pT
theorem kw9{A:Around}{Q:Unit->Shared->Prop}{fr:Option Addr}(t:Xt X pins σ H x T C fl s)(h:∀s',Xt X pins σ H x T C (fr.elim Value.none λf=>rawInt ↑f) s'->Q () s'):wpAny M A (setFlight (.ref x) fr) Q E' s:=by
 refine wkb (outer:=X.stack) t.f λh' c mx=>h _ ⟨qj6 t.inv c λb hb=>?_,t.fx,t.fT,mx⟩
 simp only[Xh,Xg,or_false]at hb;rcases hb with rfl|rfl
 ·exact t.fx
 ·exact t.fT
theorem wj3{α:Type}{A:Around}{what:String}{ko:Env}{Q:α->Shared->Prop}(t:Xt X pins σ H x T C fl s)(h:∀s' mx,Xt X pins σ H x T C mx s'->E' (.ref x) s'):wpAny M A (PySem.passOn what (.ref x) ko:Sem α) Q E' s:=by
 unfold PySem.passOn;obtain⟨vs,e1,v1⟩:=t.f.ex;refine X0 (Y3 e1 rfl v1 ?_);rw[Xm (show ¬(Value.ref T==Value.none)=true by intro z;cases z)];refine X0 (kw9 t λs' t'=>?_);exact wpAny_throw (h s' _ t')
theorem wj6{E:XK}(top:Jw X):PassesOwn M X.A X.env (Xo X E):=by
 rintro e s' ⟨pins,σ,H,x,C,rfl,I,f,q⟩;unfold notedBy;refine qwm top rfl I f λL T s1 _ t=>?_
 unfold cameBackBy;obtain⟨vs,e1,v1⟩:=t.f.ex;refine X0 (Y3 e1 rfl v1 ?_);rw[Xm (show ¬(Value.ref T==Value.none)=true by intro z;cases z)];exact kw9 t λs2 t2=>⟨pins,σ,H,x,C,rfl,t2.inv,t2.to,q⟩
end
noncomputable def CXE(P:Program)(w:World):CXT:=λouter H s E e s'=>∃x T C fl H',e=.ref x/\s'.os=s.os/\AllBare s'.gens/\Un (frs outer) [] H H' s.heap s'.heap/\HOk P w H' s'.heap /\
 s.heap.get? x=none/\s.heap.get? T=none/\H' x=none/\H' T=none/\FlT s'.heap x T C fl/\E C none H'
theorem wvh{X:Cx}{E:XK}(g:zj X E):qzb (CXE X.prog X.w) X E:=by
 rintro pins σ H s e s' I ⟨x,T,C,fl,H',rfl,os,bare,un,hok,hx,hT,nx,nT,f,q⟩;refine g pins σ H' s' x C (I.call' os un hok bare λb hb=>nomatch hb) ⟨fpX I hx nx,.inr ⟨T,fl,f,fpX I hT nT⟩⟩ q
theorem vqo{CX:CXT}{P:Program}{w:World}{K:PySem.W.Frag}{mg:Str->Option Value}{base:Heap}{N:List Str}{qual:Str}{scope:Scope}{f:Addr}{cd:Value}{A:Around}{outer:List Env}{s:Shared}{H:Hp}{E:XK}:
  Jw (Jj CX P w K mg base N qual scope f cd A outer s H E):=⟨_,_,rfl,rfl⟩
theorem qwv{P:Program}{w:World}{K:PySem.W.Frag}{mg:Str->Option Value}{base:Heap}{N:List Str}{qual:Str}{scope:Scope}{f:Addr}{cd:Value}{A:Around}{outer:List Env}{s:Shared}{H:Hp}{E:XK}{e:Value}{s':Shared}
  (h:Xo (Jj (CXE P w) P w K mg base N qual scope f cd A outer s H E) E e s'):(Jj (CXE P w) P w K mg base N qual scope f cd A outer s H E).xe e s':=by
 obtain⟨pins,σ,H',x,C,rfl,I,fx,q⟩:=h;show wpAny (model P w) _ (leaving _ (.ref x)) _ _ s';unfold leaving;refine X0 (qwm (X:=Jj (CXE P w) P w K mg base N qual scope f cd A outer s H E) vqo rfl I fx λL T s1 _ t=>?_);refine kw9 t λs2 t2=>?_
 have ge:∀b,FpX (Jj (CXE P w) P w K mg base N qual scope f cd A outer s H E) pins H' b->s.heap.get? b=none:=λb hb=>hb.2.2.2.1.elim (λz=>nomatch z) λz=>z
 exact⟨x,T,C,_,H',rfl,t2.inv.os,t2.inv.bare,t2.inv.base,t2.inv.hok,ge x t2.fx,ge T t2.fT,t2.fx.1,t2.fT.1,t2.f,q⟩
section
variable {P:Program}{w:World}{K:PySem.W.Frag}{mg:Str->Option Value}{base:Heap}
theorem kw{x qual:Str}{st:Stmt}{f:Addr}{fd:FuncData}{N ps:List Str}{k:Nat}{sp:Sp}(F:Fun K x qual st f fd)(S:FnScope N ps (k4 st))(len:∀vs H Q E,sp vs H Q E->vs.length=ps.length)
  (lj:∀(b8:Value) (A:Around) (outer:List Env) (s:Shared) (H:Hp) (vs:List V) (Q:VK) (E:XK),Room k (A.deeper (envOfC qual (k4 st) s.heap.objs.size f b8))->sp vs H Q E ->
   ∃t,PSs (Cx.ex' (Jj (CXE P w) P w K mg base N qual (k4 st) f b8 A outer s H E) E) (Q4 st) t/\t { nx:=λ_ H'=>Q .non H',rt:=Q } (L2.start N vs) H):FnOk P w K mg base (CXE P w) (k+1) f fd ps sp:=by
 obtain⟨oc,od,kV,ia,pm,an,b8,ct,nh,rfl,lk,il⟩:=F.ex;refine wvx lk il S len λA outer s H vs Q E hr lq=>?_
 obtain⟨t,h,q⟩:=lj b8 A outer s H vs Q E hr lq;exact⟨t,λpins s' σ H' D I hw=>wpAny_mono (h pins s' σ H' D (I.wish _) hw) (λf m8 z=>z.unwish) λe m8 z=>qwv z,q⟩
noncomputable def k7(P:Program)(w:World)(K:PySem.W.Frag)(mg:Str->Option Value)(base:Heap)(k:Nat)(x:Str)(ps:List Str)(sp:Sp):Prop:=
 ∃(f:Addr) (fd:FuncData),FnOk P w K mg base (CXE P w) k f fd ps sp/\Binds K fd ps []/\PySem.W.keepIn K (.ref f)=true/\mg x=some (.ref f)
end
section
variable {X:Cx}{x:Str}{p pos:Pos}{e:Expr}{es:List Expr}{t:TA}{ps:List Str}{sp:Sp}{k:Nat}{v:V}{E:XK}
theorem vkp(D:k7 X.prog X.w X.K X.mg X.base k x ps sp)(hr:Room k X.A)(g:zj X E)(ha:PA X (e::es) t)(hg:autoParam (Gl X x) Ŕ)(i7:autoParam ((x==("__debug__":Str))=false) ŕ)
  (he:autoParam (starEach (e::es) X.env=(false,eval e X.env)::starEach es X.env) Ŕ) (bt:autoParam ((backTo pos (starEach es X.env)).any (·.1)=false) Ŕ):
  PE X (.Call (.Name x p) (e::es) [] pos) (vxj sp [] E t):=by
 obtain⟨f,fd,F,b,kp,m⟩:=D;exact vvm F hr hg m kp b .nil (wvh g) ha i7 he bt
end
abbrev lcE(X:Cx)(scope:Scope)(N:List Str)(cl:List (Str×Addr))(C:Addr)(s0:Shared)(H0:Hp)(fp:List Addr)(EX:XK):Cx:=Cx.ex' (lcX X scope N cl C s0 H0 fp) EX
section
variable {prog:Program}{w:World}{A:Around}{R:Result->Shared->Prop}{s:Shared}
theorem vw7{fu fc av:Expr}{fk:List Expr}{scope:Scope}{pos:Pos}{it ah:Value}{env:Env}(Ex:Value->Shared->Prop)(I:Nat->Shared->Prop)
  (i6:∀n s,I n s->wpAny (model prog w) A (pyNext it) (λr s1=>match r with
   | none=>R (.ok .next) s1
   | some v=>wpAny (model prog w) A (letOwnedTupleGo fc it v) (λ_ s2=>wpAny (model prog w) A (assign fc env v) (λ_ s3=>
     wpAny (model prog w) A (qwz fk env) (λok s4=>
      if ok=true then
       wpAny (model prog w) A (eval fu env) (λx s5=>wpAny (model prog w) A (call (.builtin "list.append") [ah,x]) (λ_ s6=>∃m,m<n/\I m s6) Ex s5) Ex s4
      else ∃m,m<n/\I m s4) Ex s3) Ex s2) Ex s1) Ex s)
  (hx:∀e s,Ex e s->notedBy (model prog w) A env (λe s'=>R (.error e) s') e s) (n:Nat) (h:I n s):codeAny (model prog w) A (.compLoop (.ListComp fu [⟨fc,av,fk,0⟩] scope pos) 0 it ah env) R s:=by
 refine codeAny_loop rfl I (λn s hI=>?_) n h;show wpAny _ A ((compTurn (.ListComp fu [⟨fc,av,fk,0⟩] scope pos) 0 it ah env).onRaise _) _ _ s;refine wpAny_noted ?_;rw[compTurn_list];refine wpAny_mono (E:=Ex) (X0 (wpAny_standAt (X0 (thn (i6 n s hI) λr s1 h1=>?_)))) (λ_ _ q=>q) (λe s q=>?_)
 rotate_left
 ·exact hx e s q
 cases r with
 |none=>exact X5 h1
 |some v=>
  refine X0 (thn h1 λ_ s2 h2=>?_);refine X0 (thn h2 λ_ s3 h3=>?_);refine X0 (thn h3 λok s4 h4=>?_);cases ok with
  |false=>exact X5 ⟨rfl,h4⟩
  |true=>exact X0 (X0 (thn h4 λx s5 h5=>X0 (thn h5 λ_ s6 h6=>X5 (X5 ⟨rfl,h6⟩))))
end
section
variable {X:Cx}{tg av fu:Expr}{fk:List Expr}{scope:Scope}{N:List Str}{k:Nat}{R:List Nat}{g:TG}{tt:TT}{te:TE}{pos:Pos}
theorem vkw{EX:XK}{pins ck:List (Addr×Obj)}{σ σ':L2.St}{H2 H':Hp}{s2 s':Shared}{fp:List Addr}{cl:List (Str×Addr)}{C x T:Addr}{Cc fl:Value}{Q:Value->Shared->Prop}{ah:Value}{use:Option (Value->Sem Unit)}(gx:zj X EX)
  (I2:Inv X pins σ H2 s2) (f2:∀b∈fp,vJ X pins H2 b) (hC:s2.heap.objs.size<=C) (t:Xt (lcX X scope N cl C s2 H2 fp) ck σ' H' x T Cc fl s') (q:EX Cc none H'):
  compPost (model X.prog X.w) X.A X.xe use Q ah C (.error (.ref x)) s':=by
 obtain⟨m,hn,_⟩:=t.inv.loc;refine⟨m,hn,λh' sb ko _=>?_⟩;have J1:Inv X pins σ H' s':=I2.call' t.inv.os t.inv.base t.inv.hok t.inv.bare λb hb=>⟨(f2 b hb).2.2.2.1,(f2 b hb).2.1,(f2 b hb).2.2.2.2.1,(f2 b hb).2.2.2.2.2⟩
 have fC:vJ X pins H' C:=I2.fpOk hC t.inv.free;have J2:Inv X pins σ H' { s' with heap:=h',toks:=s'.toks }:=J1.turned (it:=C) (λb o hb e=>(sb.2 b hb).trans e) fC.1 fC.2.1 fC.2.2.2.1 fC.2.2.2.2.1 fC.2.2.2.2.2;have fp':∀b,FpX (lcX X scope N cl C s2 H2 fp) ck H' b->FpX X pins H' b:=λb hb=>by
  rcases hb.2.2.2.1 with z|z
  ·exact⟨hb.1,(FpX.of (f2 b z)).2⟩
  ·exact fpX I2 z hb.1
 have nx:x≠C:=t.fx.2.1;have nT:T≠C:=t.fT.2.1;have f:FlT h' x T Cc fl:=by
  obtain⟨⟨vs,e1,v1⟩,⟨oT,ts,e2,d2,v2⟩,ft⟩:=t.f;exact⟨⟨vs,(sb.2 x nx).trans e1,v1⟩,⟨oT,ts,(sb.2 T nT).trans e2,d2,v2⟩,ft⟩
 refine wj3 (X:=X) (pins:=pins) (σ:=σ) (H:=H') (s:={ s' with heap:=h' }) ⟨J2,fp' x t.fx,fp' T t.fT,f⟩ λs3 mx t3=>gx pins σ H' s3 x Cc t3.inv t3.to q
theorem kxv{EX:XK}{pins:List (Addr×Obj)}{σ:L2.St}{H2:Hp}{s2:Shared}{it:Addr}{fp:List Addr}{tn:Nat->Heap->Prop}{J:It}{Q:VK}{W:Nat->Nat->List V->L2.St->Hp->Prop}{cl:List (Str×Addr)}{E:Value->Shared->Prop}
  {RR:Value->Addr->Result->Shared->Prop} (hc:X.calm=true) (top:Jw X) (sc:LcOk X scope N k R)
  (i8:∀x c,cl.lookup x=some c->X.env.cells.lookup x=some c) (bj:∀y∈scope.names,y.2=.free->∃c,cl.lookup y.1=some c)
  (hg:∀C s0 H0 fp,PG (lcE X scope N cl C s0 H0 fp EX) tg g) (ht:∀C s0 H0 fp,PTs (lcE X scope N cl C s0 H0 fp EX) fk tt) (he:∀C s0 H0 fp,PE (lcE X scope N cl C s0 H0 fp EX) fu te)
  (I2:Inv X pins σ H2 s2) (T:Turn X.prog X.w X.K tg J fp it tn) (be:tn 0 s2.heap) (f2:∀b∈fp,vJ X pins H2 b) (w0:∃m,W 0 m [] (JJ k R σ) H2) (i6:LcW g tt te Q J W)
  (hRR:∀D C oC m ys H' s',Inv X (pins++[(C,oC)]) σ (upd H' D (.lst ys)) s'->s'.heap.get? C=some oC->s'.heap.Ns C m->vJ X pins (upd H' D (.lst ys)) C->Q (.ref D) (upd H' D (.lst ys))->RR (.ref D) C (.ok .next) s')
  (hER:∀D C s' ck σ' H' x T Cc fl,s2.heap.objs.size<=C->Xt (lcX X scope N cl C s2 H2 fp) ck σ' H' x T Cc fl s'->EX Cc none H'->RR (.ref D) C (.error (.ref x)) s'):
  wpAny (model X.prog X.w) X.A (newList []) (λah s3=>wpAny (model X.prog X.w) X.A (newFunctionEnv scope X.env.globals cl [] X.env.qual none .none (some X.env)) (λko s4=>
   codeAny (model X.prog X.w) X.A (.compStart (.ListComp fu [⟨tg,av,fk,0⟩] scope pos) 0 (.ref it) ah { ko with scope:=relabel scope X.env }) (RR ah ko.locals) s4) E s3) E s2:=by
 have rf:∀b∈fp,∃o,s2.heap.get? b=some o:=λb hb=>let ⟨o,e,_⟩:=T.obj 0 _ be b hb;⟨o,e⟩
 refine Xs (wpAny_newFunctionEnv sc.nocell (by intro y hy;simp at hy) (λh1 p9 qr=>?_) sc.kind);dsimp only at p9 qr ⊢;generalize eH:s2.heap.push { cls:=.type "list",dict:=none,data:=.seq ([]:List Value).toArray }=Hx at p9 qr ⊢;have eC:Hx.objs.size=s2.heap.objs.size+1:=by rw[<-eH,Yn]
 generalize eD:s2.heap.objs.size=D at eC;generalize eC':Hx.objs.size=C at p9 qr eC ⊢;have pk:D≠C:=by omega
 have hC:s2.heap.objs.size<=C:=by omega
 have hD:s2.heap.objs.size<=D:=by omega
 have i4:∀b o,s2.heap.get? b=some o->h1.get? b=some o:=λb o e=>by
  exact qr.extBut b o (Xq (Xi (Xd e) hC)) (X1 _ (eH▸X1 _ e))
 have accD:h1.get? D=some (Zw [] 0):=by
  refine qr.extBut _ _ pk (X1 _ ?_);rw [<-eH,<-eD];exact X8 _ rfl
 have below:∀b∈fp,b≠D/\b≠C:=λb hb=>by
  obtain⟨o,e⟩:=rf b hb;exact⟨Xq (Xi (Xd e) hD),Xq (Xi (Xd e) hC)⟩
 have iq:∀{H':Hp} {oD:Obj},(∀b∈fp,H' b=none)->∀b∈fp,vJ (lcE X scope N cl C s2 H2 fp EX) [(D,oD)] H' b:=fun {H' oD} hn b hb=>by
  obtain⟨_,f1,f3,f4,f5,f6⟩:=f2 b hb;refine⟨hn b hb,(below b hb).2,λz=>?_,.inl hb,λx c h=>f5 x c (i8 x c h),λp hp=>?_⟩
  ·rcases List.mem_cons.mp (I2.stkSub b z)with y|y
   ·exact f1 y
   ·exact f3 y
  ·have e:p=(D,oD):=by
    have hp:p∈([]++[(D,oD)]:List (Addr×Obj)):=hp
    simpa using hp
   rw [e];exact(below b hb).1.symm
 have loop:∀s3:Shared,s3={ s2 with heap:=h1,toks:=s2.toks+([]:List (Str×Value)).length } ->
   codeAny (model X.prog X.w) X.A (.compLoop (.ListComp fu [⟨tg,av,fk,0⟩] scope pos) 0 (.ref it) (.ref D) (compEnvC scope cl C X.env)) (RR (.ref D) C) s3:=by
  rintro s3 rfl;obtain⟨m0,w0⟩:=w0;have hxx:∀e s,Xo (lcX X scope N cl C s2 H2 fp) EX e s->notedBy (model X.prog X.w) X.A (compEnvC scope cl C X.env) (λe s'=>RR (.ref D) C (.error e) s') e s:=by
   rintro e s ⟨ck,σ',H',x,Cc,rfl,I',f',q'⟩;have top':Jw (lcX X scope N cl C s2 H2 fp):=top;exact qwm (X:=lcX X scope N cl C s2 H2 fp) top' rfl I' f' λL T s1 _ t=>hER D C s1 ck σ' H' x T Cc _ hC t q'
  refine vw7 (Xo (lcX X scope N cl C s2 H2 fp) EX) (λn s'=>∃i ys aa nn σ' H',Inv (lcE X scope N cl C s2 H2 fp EX) [(D,Zw aa nn)] σ' H' s'/\Vals ys aa/\tn i s'.heap/\(∀b∈fp,H' b=none)/\W i n ys σ' H') ?_ hxx m0
   ⟨0,[],[],0,_,H2,(vw5 I2 sc f2 rf hC hD pk i8 bj i4 p9 accD (λv z=>by cases z)).wish _,.nil,T.keep _ _ _ be (λb hb o e=>i4 b o e),λb hb=>(f2 b hb).1,w0⟩
  rintro n s3 ⟨i,ys,aa,nn,σ3,H3,I3,rv,ef,nw,w3⟩;rcases i6 i n ys σ3 H3 w3 with⟨stop,hz,qn⟩|⟨go,step⟩
  ·refine thn (T.done (lcE X scope N cl C s2 H2 fp EX) rfl rfl rfl hc i _ s3 σ3 H3 _ I3 (iq nw) ef stop) λr s4 ⟨hr,I4⟩=>?_
   subst hr;show RR (.ref D) C (.ok .next) s4;have hD4:=I4.pin (D,Zw aa nn) (by show _∈([]++[(D,Zw aa nn)]:List (Addr×Obj));simp);have J1:Inv X pins σ H3 s4:=I2.call' I4.os I4.base I4.hok I4.bare λb hb=>⟨(f2 b hb).2.2.2.1,(f2 b hb).2.1,(f2 b hb).2.2.2.2.1,(f2 b hb).2.2.2.2.2⟩
   have fD:vJ X pins H3 D:=I2.fpOk hD hD4.2.1;have fC:vJ X pins H3 C:=I2.fpOk hC I4.free;have J2:Inv X pins σ (upd H3 D (.lst ys)) s4:=kkn J1 hD4.2.1 fD.2.1 fD.2.2.2.1 fD.2.2.2.2.1 fD.2.2.2.2.2 ⟨hz,aa,nn,rv,hD4.1⟩;obtain⟨mC,nC,_⟩:=I4.loc;obtain⟨oC,es,ep,hoC,hdC,np⟩:=id nC;have fC':vJ X pins (upd H3 D (.lst ys)) C:=⟨by rw[qx pk.symm];exact fC.1,fC.2⟩;refine hRR D C oC mC ys H3 s4 (J2.pins_of λp hp=>?_) hoC nC fC' (qn D hD4.2.1);rcases List.mem_append.mp hp with z|z
   ·exact J2.pin p (lr9 _ z)
   ·rw[List.mem_singleton.mp z];exact⟨hoC,fC'.1,fC'.2.1,fC'.2.2.1,λv y=>by rw[hdC]at y;cases y⟩
  ·refine thn (T.item (lcE X scope N cl C s2 H2 fp EX) rfl rfl rfl hc i _ s3 σ3 H3 _ I3 (iq nw) ef go) λr s4 ⟨u,hr,h4⟩=>?_
   subst hr;refine thn h4 λ_ s5 ⟨x,H5,I5,r5,y5,me,fr5⟩=>?_
   have I5':=I5.pinned (iq fr5) (T.obj _ _ me);have je:∀{σ':L2.St} {H':Hp} {s':Shared} {pl:List (Addr×Obj)},Inv (lcE X scope N cl C s2 H2 fp EX) (pl++K8 fp s5.heap) σ' H' s'->tn (i+1) s'.heap/\∀b∈fp,H' b=none:=fun {σ' H' s' pl} I'=>by
    have q:∀b∈fp,∀o,s5.heap.get? b=some o->s'.heap.get? b=some o/\H' b=none:=λb hb o e=>by
     obtain⟨a1,a2,_⟩:=I'.pin (b,o) (lr9 _ (lr9 _ (jzv hb e)));exact⟨a1,a2⟩
    refine⟨T.keep _ _ _ me λb hb o e=>(q b hb o e).1,λb hb=>?_⟩;obtain⟨o,e,_⟩:=T.obj _ _ me b hb;exact(q b hb o e).2
   refine thn (hg C s2 H2 fp _ s5 σ3 H5 x u _ I5' r5 (step x H5 y5)) λ_ s6 ⟨σ6,H6,I6,Ny,Nn,hNy,hNn,q6⟩=>?_
   refine thn (ht C s2 H2 fp _ s6 σ6 H6 _ I6 q6) λok s7 ⟨H7,I7,q7⟩=>?_
   cases ok with
   | false=>
    obtain⟨m',hm,w7⟩:=hNn _ q7;exact⟨m',hm,i+1,ys,aa,nn,σ6,H7,I7.unpinned,rv,(je I7).1,(je I7).2,w7⟩
   | true=>
    refine thn (he C s2 H2 fp _ s7 σ6 H7 _ I7 q7) λu8 s8 ⟨y,H8,I8,r8,q8⟩=>?_
    obtain⟨hz,m',hm,w8⟩:=hNy _ _ q8;have pD:=I8.pin (D,Zw aa nn) (lr9 _ (ll9 _ (List.mem_singleton.mpr rfl)));have af:=rv.length;refine append_at (hsz:=by rw[X6];omega) pD.1 λh9 sb9 e9=>?_
    have I8a:Inv (lcE X scope N cl C s2 H2 fp EX) ([]++K8 fp s5.heap) σ6 H8 s8:=I8.pins_of λp hp=>I8.pin p (lr9 _ (lr9 _ hp))
    have I9:Inv (lcE X scope N cl C s2 H2 fp EX) ([]++K8 fp s5.heap) σ6 H8 { s8 with heap:=h9,toks:=s8.toks }:=I8a.turned (it:=D) (λb o hb e=>(sb9.2 b hb).trans e) pD.2.1 pk (.inr hD)
     (λx c h z=>by
      obtain⟨v,q⟩:=I2.cell x c (i8 x c h);exact absurd (Xi q.lt (by rw[z];exact hD)) (Yd _))
     (λp hp z=>by
      have hp:p∈([]++([]++K8 fp s5.heap):List (Addr×Obj)):=hp;have hp:p∈K8 fp s5.heap:=by simpa using hp
      exact(below p.1 (kxq hp).1).1 z)
    have e9':h9.get? D=some (Zw (aa++[u8]) (nn+1)):=by rw[e9];simp[List.push_toArray]
    refine⟨m',hm,i+1,ys++[y],aa++[u8],nn+1,σ6,H8,I9.pins_of λp hp=>?_,rv.append (.cons r8 .nil),(je I9).1,(je I9).2,w8⟩;rw[List.mem_singleton.mp hp];exact⟨e9',pD.2.1,pD.2.2.1,pD.2.2.2.1,λv z=>by cases z⟩
 exact codeAny_compStart_list (loop _ rfl) (T.self _ 0 _ _ _ (T.keep _ _ _ be λb hb o e=>i4 b o e) (loop _ rfl))
theorem vzx{EX:XK}{wi:TI}(N:List Str)(k:Nat)(R:List Nat)(hi:PI X tg av wi)
  (hg:∀cl C s0 H0 fp,PG (lcE X scope N cl C s0 H0 fp EX) tg g) (ht:∀cl C s0 H0 fp,PTs (lcE X scope N cl C s0 H0 fp EX) fk tt) (he:∀cl C s0 H0 fp,PE (lcE X scope N cl C s0 H0 fp EX) fu te)
  (gx:zj X EX) (top:Jw X) (hc:autoParam (X.calm=true) Ŕ) (hk:autoParam (scope.kind=.function) Ŕ) (j':autoParam (V3 X.N X.env.scope scope N k R=true) Ŕ) (hs:autoParam (∀x,foldedSetIterable av X.env x=pure x) Ŗ):
  PE X (.ListComp fu [⟨tg,av,fk,0⟩] scope pos) (tLC wi g tt te k R):=by
 intro pins s σ H Q I h;have sc:=qkc hk j';obtain⟨cl,ka,i8,bj⟩:=kvb (scope:=scope) (env:=X.env) λy hy e=>I.ok.has y.1 (sc.caps y hy e)
 rw[eval_ListComp];refine wpAny_comprehension_free (use:=none) rfl hs ka sc.kind sc.names (thn (hi pins s σ H _ I h) λv s1 h1=>thn h1 λitv s2 h2=>?_);obtain⟨it,fp,tn,J,H2,e,I2,T,be,f2,W,w0,i6⟩:=h2;subst e;refine kxv (EX:=EX) (RR:=λah C=>compPost (model X.prog X.w) X.A X.xe none (EP X pins σ Q) ah C) hc top sc i8 bj (hg cl) (ht cl) (he cl) I2 T be f2 w0 i6 ?_ ?_
 rotate_left
 ·intro D C s' ck σ' H' x T Cc fl hC t q;exact vkw gx I2 f2 hC t q
 intro D C oC m ys H' s' I' _ nC fC q;exact⟨m,nC,λh' sb=>⟨.ref D,_,I'.unpinned.turned (it:=C) (t':=s'.toks) (λb o hb e=>(sb.2 b hb).trans e) fC.1 fC.2.1 fC.2.2.2.1 fC.2.2.2.2.1 fC.2.2.2.2.2,rfl,q⟩⟩
end
structure ExAt (K:PySem.W.Frag)(x:Addr)(ox:Obj)(C:Addr):Prop where
 cls:ox.cls=.ref C
 no:PySem.W.notCls ox=true
 di:ox.dict=none
 xc:XCls K C
section
variable {X:Cx}{e a b o:Expr}{es:List Expr}{te ta tb to:TE}{t:TA}{pos:Pos}
theorem jvc{c:Nat}:∀{l p:List Nat},p∈splitL c l->p.length<=l.length
 | [],p,h=>by
  have:p=[]:=by simpa [splitL]using h
  subst this;exact Xe _
 | x :: r,p,h=>by
  rw [splitL.eq_2]at h
  split at h
  ·rcases List.mem_cons.mp h with e|e
   ·subst e;simp
   ·exact Nat.le_succ_of_le (jvc e)
  ·split at h
   ·have:p=[x]:=by simpa using h
    subst this;simp
   ·rename_i q ps e;rcases List.mem_cons.mp h with e2|e2
    ·subst e2;exact Nat.succ_le_succ (jvc (by rw[e];exact X3))
    ·exact Nat.le_succ_of_le (jvc (by rw[e];exact lc9 _ e2))
end
end L3
namespace Q
open PySem
inductive D where
 |non|bl (b:Bool)|int (i:Int)|str (z:Str)|tup (xs:List D)|lst (xs:List D)|dct (ao:List (D×D))|obj (c:Str) (fs:List (Str×D))
instance:DecidableEq D:=λa b=>Classical.propDecidable (a=b)
instance:Inhabited D:=⟨.non⟩
mutual
noncomputable def D.pure:D->Bool
 |.tup xs=>D.pures xs
 |.lst _=>false
 |.dct _=>false
 |.obj _ _=>false
 |_=>true
noncomputable def D.pures:List D->Bool
 |[]=>true
 |a::x=>D.pure a&&D.pures x
end
theorem D.pures_all:∀xs:List D,D.pures xs=xs.all D.pure
 |[]=>by simp[D.pures]
 |a::x=>by rw[D.pures,List.all_cons,D.pures_all x]
@[simp] theorem D.pures_map {α:Type}(f:α->D)(xs:List α)(h:∀x∈xs,(f x).pure=true):D.pures (xs.map f)=true:=by
 rw[D.pures_all,Yv];intro d hd;obtain⟨x,hx,rfl⟩:=List.mem_map.mp hd;exact h x hx
mutual
noncomputable def peq:D->D->Bool
 |.non,.non=>true
 |.bl a,.bl b=>a==b
 |.bl a,.int b=>(if a then 1 else 0)==b
 |.int a,.bl b=>a==(if b then 1 else 0)
 |.int a,.int b=>a==b
 |.str a,.str b=>a==b
 |.lst as,.lst bs=>peqs as bs
 |.tup as,.tup bs=>peqs as bs
 |_,_=>false
noncomputable def peqs:List D->List D->Bool
 |[],[]=>true
 |a::as,b::bs=>peq a b&&peqs as bs
 |_,_=>false
end
mutual
noncomputable def D.flat:Nat->D->Bool
 |0,.tup _=>false
 |0,.lst _=>false
 |n+1,.tup xs=>D.flats n xs
 |n+1,.lst xs=>D.flats n xs
 |_,.dct _=>false
 |_,.obj _ _=>false
 |_,_=>true
noncomputable def D.flats:Nat->List D->Bool
 |_,[]=>true
 |n,a::x=>D.flat n a&&D.flats n x
end
mutual
noncomputable def Q5:Nat->D->Bool
 |_,.non=>true
 |_,.int _=>true
 |n+1,.tup xs=>keyDs n xs
 |_,_=>false
noncomputable def keyDs:Nat->List D->Bool
 |_,[]=>true
 |n,a::x=>Q5 n a&&keyDs n x
end
inductive Own where
 |no|rt|dp
 deriving DecidableEq
abbrev Sd:=Own×D
abbrev En:=List (Option Sd)
inductive Res (α:Type) where
 |ok (E:En) (a:α)
 |exc (E:En) (c:Str)
abbrev Ev(α:Type):=En->Option (Res α)
abbrev Ex:=Ev Sd
noncomputable def bnd{α β:Type}(m:Option (Res α))(f:En->α->Option (Res β)):Option (Res β):=
 match m with
 |some (.ok E a)=>f E a
 |some (.exc E c)=>some (.exc E c)
 |none=>none
@[simp] theorem wxb {α β:Type}(E:En)(a:α)(f:En->α->Option (Res β)):bnd (some (.ok E a)) f=f E a:=rfl
@[simp] theorem wwa {α β:Type}(E:En)(c:Str)(f:En->α->Option (Res β)):bnd (some (.exc E c)) f=some (.exc E c):=rfl
@[simp] theorem wqb {α β:Type}(f:En->α->Option (Res β)):bnd none f=none:=rfl
def val{α:Type}(E:En)(x:Option α):Option (Res α):=x.map (Res.ok E)
@[simp] theorem wq5 {α:Type}(E:En)(x:α):val E (some x)=some (.ok E x):=rfl
@[simp] theorem wq6 {α:Type}(E:En):val E (none:Option α)=none:=rfl
def cC(d:D):Ex:=λE=>some (.ok E (.dp,d))
noncomputable def cV(i:Nat):Ex:=λE=>match E[i]? with
 |some (some (_,d))=>some (.ok (E.set i (some (.no,d))) (.no,d))
 |_=>none
def cMv(i:Nat):Ex:=λE=>match E[i]? with
 |some (some x)=>some (.ok (E.set i none) x)
 |_=>none
def vV(i:Nat):Ex:=λE=>match E[i]? with
 |some (some x)=>some (.ok E x)
 |_=>none
def vE(c:Ex):Ex:=λE=>bnd (c E) λE x=>some (.ok E (.no,x.2))
abbrev C9(z:Int):Ex:=vE (cC (.int z))
noncomputable def cH(v:Ex):Ex:=λE=>bnd (v E) λE x=>if x.1=.no then some (.ok E (.no,x.2))else if x.2.pure then some (.ok E (.dp,x.2))else none
def cF1(f:Sd->Option Sd)(a:Ex):Ex:=λE=>bnd (a E) λE x=>val E (f x)
def cF2(f:Sd->Sd->Option Sd)(a b:Ex):Ex:=λE=>bnd (a E) λE x=>bnd (b E) λE y=>val E (f x y)
def pu1(f:D->Option D):Sd->Option Sd:=λx=>(f x.2).map λd=>(.dp,d)
def pu2(f:D->D->Option D):Sd->Sd->Option Sd:=λx y=>(f x.2 y.2).map λd=>(.dp,d)
def wx6:D->List D
 |.lst xs=>xs
 |.tup xs=>xs
 |.dct ao=>ao.map (·.2)
 |_=>[]
def qQ(x:Sd):Bool:=x.1 != .dp||D.pures (wx6 x.2)
def sub:Own->Own
 |.dp=>.dp
 |_=>.no
noncomputable def ixN(n:Nat)(i:Int):Option Nat:=if 0<=i then(if i<n then some i.toNat else none)else if -(n:Int)<=i then some (i+n).toNat else none
noncomputable def ixD:D->D->Option D
 |.lst xs,.int i=>(ixN xs.length i).bind λj=>xs[j]?
 |.tup xs,.int i=>(ixN xs.length i).bind λj=>xs[j]?
 |.str z,.int i=>(ixN z.cps.size i).bind λj=>(z.cps.toList[j]?).map λc=>.str ⟨#[c]⟩
 |.dct ao,k=>(ao.find? λe=>decide (e.1=k)).map (·.2)
 |_,_=>none
def big:Nat:=16777216
def i2(f:Int->Int->Option Int):D->D->Option D
 |.int a,.int b=>(f a b).map .int
 |_,_=>none
def c2(f:Int->Int->Bool):D->D->Option D
 |.int a,.int b=>some (.bl (f a b))
 |_,_=>none
def qvg(a:Int):Bool:=decide (-(2 ^ 64)<a)&&decide (a<2 ^ 64)
noncomputable def jq:Sd->Sd->Option Sd:=λx y=>match x.2,y.2 with
 |.int a,.int b=>some (.dp,.int (a+b))
 |.str a,.str b=>if a.cps.size+b.cps.size<=big then some (.dp,.str (a++b))else none
 |.lst a,.lst b=>if a.length+b.length<=big/\qQ x/\qQ y then some (.rt,.lst (a++b))else none
 |.tup a,.tup b=>if a.length+b.length<=big/\qQ x/\qQ y then some (.no,.tup (a++b))else none
 |_,_=>none
def XJ(a b:Int):Bool:=qvg a||qvg b||(decide (a.natAbs.log2<2000000)&&decide (b.natAbs.log2<2000000))
noncomputable def wke:Sd->Sd->Option Sd:=λx y=>match x.2,y.2 with
 |.int a,.int b=>if XJ a b then some (.dp,.int (a*b))else none
 |.lst a,.int k=>if -(2 ^ 63)<=k/\k<2 ^ 63/\a.length*k.toNat<=big/\qQ x then some (.rt,.lst (List.replicate k.toNat a).flatten)else none
 |.str z,.int n=>if(z.cps.size<=1024/\n<=1024/\-1024<=n)/\(Txt.mul z n).cps.size<=big then some (.dp,.str (Txt.mul z n))else none
 |_,_=>none
def fSub:D->D->Option D:=i2 λa b=>some (a - b)
def qK:D->D->Option D:=i2 λa b=>if 0<b/\b.natAbs.log2<9000 then some (a / b)else none
def jW:D->D->Option D:=i2 λa b=>if 0<b then some (a % b)else none
def wvy:D->D->Option D:=i2 λa b=>if 0<=b/\b<=1000000/\a.natAbs<2 ^ 64 then some (a*2 ^ b.toNat)else none
def fEq:D->D->Option D:=λa b=>if a.flat 40&&b.flat 40 then some (.bl (peq a b))else none
def fNe:D->D->Option D:=λa b=>if a.flat 40&&b.flat 40 then some (.bl (!peq a b))else none
def isNon:D->Bool
 |.non=>true
 |_=>false
def fLt:D->D->Option D:=c2 λa b=>decide (a<b)
def fLe:D->D->Option D:=c2 λa b=>decide (a<=b)
def fGt:D->D->Option D:=c2 λa b=>decide (b<a)
def fGe:D->D->Option D:=c2 λa b=>decide (b<=a)
def VZ(a b:Str):Bool:=!(Builtin.Str.occurrences b a 0 b.length 1).isEmpty
noncomputable def fIn:D->D->Option D:=λx y=>match y with
 |.lst ys=>if x.flat 30&&D.flats 30 ys then some (.bl (ys.any λz=>peq z x))else none
 |.tup ys=>if x.flat 30&&D.flats 30 ys then some (.bl (ys.any λz=>peq z x))else none
 |.str b=>(match x with
  |.str a=>some (.bl (VZ a b))
  |_=>none)
 |.dct ao=>some (.bl (ao.any λe=>decide (e.1=x)))
 |_=>none
noncomputable def kX:D->Option D
 |.lst xs=>some (.int xs.length)
 |.tup xs=>some (.int xs.length)
 |.str z=>some (.int z.length)
 |_=>none
noncomputable def kind:D->String
 |.non=>"NoneType"
 |.bl _=>"bool"
 |.int _=>"int"
 |.str _=>"str"
 |.tup _=>"tuple"
 |.lst _=>"list"
 |.dct _=>"dict"
 |.obj _ _=>""
def isaK(t u:String):Bool:=t==u||(t == "bool" && u == "int")
def k5(u:String):D->Option D:=λd=>match d with
 |.obj _ _=>none
 |.dct _=>none
 |_=>some (.bl (isaK (kind d) u))
def fIsNon:D->Option D:=λd=>some (.bl (isNon d))
def fNotNon:D->Option D:=λd=>some (.bl (!isNon d))
abbrev Ts:=Ev Bool
noncomputable def truth:D->Option Bool
 |.bl b=>some b
 |.non=>some false
 |.int i=>some (i != 0)
 |.str z=>some (z.cps.size != 0)
 |.lst xs=>some (!xs.isEmpty)
 |.tup xs=>some (!xs.isEmpty)
 |.dct xs=>some (!xs.isEmpty)
 |.obj _ _=>none
def tE(c:Ex):Ts:=λE=>bnd (c E) λE x=>val E (truth x.2)
def tAnd(a b:Ts):Ts:=λE=>bnd (a E) λE x=>if x then b E else some (.ok E false)
def tOr(a b:Ts):Ts:=λE=>bnd (a E) λE x=>if x then some (.ok E true)else b E
def tNot(a:Ts):Ts:=λE=>bnd (a E) λE x=>some (.ok E (!x))
def tYes:Ts:=λE=>some (.ok E true)
def cIf(t:Ts)(a b:Ex):Ex:=λE=>bnd (t E) λE x=>if x then a E else b E
noncomputable def x6(a b:Ex):Ex:=λE=>bnd (a E) λE x=>match x.2 with
 |.bl true=>b E
 |.bl false=>some (.ok E (.dp,.bl false))
 |_=>none
noncomputable def cOr(a b:Ex):Ex:=λE=>bnd (a E) λE x=>match x.2 with
 |.bl true=>some (.ok E (.dp,.bl true))
 |.bl false=>b E
 |_=>none
def wV:D->D->Option D:=λx y=>match y with
 |.dct _=>none
 |_=>fIn x y
def f2First(f:D->Option D):Sd->Sd->Option Sd:=λx y=>if isNon y.2 then(f x.2).map λd=>(.dp,d)else none
def jz:D->D->Option D:=λx y=>match x with
 |.dct _=>none
 |_=>ixD x y
def j7(a b:Ex):Ex:=λE=>bnd (a E) λE x=>bnd (b E) λE y=>val E ((jz x.2 y.2).map λd=>(sub x.1,d))
def truthQ:D->Option Bool:=λd=>match d with
 |.dct _=>none
 |_=>truth d
def tEQ(c:Ex):Ts:=λE=>bnd (c E) λE x=>val E (truthQ x.2)
def Z9(c:Ex):Ex:=λE=>bnd (c E) λE x=>val E ((truthQ x.2).map λk=>(.dp,.bl (!k)))
noncomputable def vk:List Ex->Ev (List Sd)
 |[],E=>some (.ok E [])
 |c::cs,E=>bnd (c E) λE x=>bnd (vk cs E) λE xs=>some (.ok E (x::xs))
def v9(x:Sd):Bool:=x.1 == .dp||x.2.pure
noncomputable def qk(o:Own)(cs:List Ex):Ex:=λE=>bnd (vk cs E) λE xs=>if o=.dp then(if xs.all v9 then some (.ok E (.dp,.lst (xs.map (·.2))))else none)else some (.ok E (.rt,.lst (xs.map (·.2))))
noncomputable def qZ(o:Own)(cs:List Ex):Ex:=λE=>bnd (vk cs E) λE xs=>if o=.dp then(if xs.all v9 then some (.ok E (.dp,.tup (xs.map (·.2))))else none)else some (.ok E (.no,.tup (xs.map (·.2))))
inductive Fl where
 |nx (E:En)|rt (E:En) (x:Sd)|ct (E:En)|bk (E:En)|xc (E:En) (c:Str)
abbrev Sm:=En->Option Fl
noncomputable def ofE{α:Type}(m:Option (Res α))(f:En->α->Option Fl):Option Fl:=
 match m with
 |some (.ok E a)=>f E a
 |some (.exc E c)=>some (.xc E c)
 |none=>none
@[simp] theorem wx0 {α:Type}(E:En)(a:α)(f:En->α->Option Fl):ofE (some (.ok E a)) f=f E a:=rfl
@[simp] theorem wvk {α:Type}(E:En)(c:Str)(f:En->α->Option Fl):ofE (some (.exc E c)) f=some (.xc E c):=rfl
@[simp] theorem wq8 {α:Type}(f:En->α->Option Fl):ofE none f=none:=rfl
def j6(a b:Sm):Sm:=λE=>match a E with
 |some (.nx E)=>b E
 |r=>r
def kW:Sm:=λE=>some (.nx E)
def jK(i:Nat)(c:Ex):Sm:=λE=>ofE (c E) λE x=>some (.nx (E.set i (some x)))
def jw(c:Ex):Sm:=λE=>ofE (c E) λE x=>some (.rt E x)
def sRetN:Sm:=λE=>some (.rt E (.dp,.non))
def sIf(t:Ts)(a b:Sm):Sm:=λE=>ofE (t E) λE x=>if x then a E else b E
inductive Tg where
 |n (i:Nat)|t (ts:List Nat)
noncomputable def setAll:List Nat->List D->En->Option En
 |[],[],E=>some E
 |i::is,d::ds,E=>setAll is ds (E.set i (some (.no,d)))
 |_,_,_=>none
noncomputable def Tg.put:Tg->D->En->Option En
 |.n i,d,E=>some (E.set i (some (.no,d)))
 |.t is,.tup ds,E=>setAll is ds E
 |.t is,.lst ds,E=>setAll is ds E
 |.t _,_,_=>none
def sTup(is:List Nat)(c:Ex):Sm:=λE=>ofE (c E) λE x=>(Tg.put (.t is) x.2 E).map .nx
noncomputable def JZ(tg:Tg)(b:Sm):List D->En->Option Fl
 | [],E=>some (.nx E)
 | d::ds,E=>match tg.put d E with
  |none=>none
  |some E=>match b E with
   |some (.nx E)=>JZ tg b ds E
   |some (.ct E)=>JZ tg b ds E
   |some (.bk E)=>some (.nx E)
   |r=>r
def vK(it:Ev (List D))(tg:Tg)(b:Sm):Sm:=λE=>ofE (it E) λE ds=>JZ tg b ds E
def at'{α:Type}(L:List (Option α))(j:Nat):Option α:=(L[j]?).join
def clr{α:Type}:List Nat->List (Option α)->List (Option α)
 |[],L=>L
 |j::R,L=>clr R (L.set j none)
noncomputable def back{α:Type}:List Nat->List (Option α)->List (Option α)->List (Option α)
 |j::R,q::B,L=>back R B (L.set j q)
 |_,_,L=>L
def Vz(k:Nat)(R:List Nat)(E:En):En:=List.replicate k none++R.map (at' E)
def Q0(k:Nat)(R:List Nat)(B E:En):En:=back R (B.drop k) (clr R E)
noncomputable def lcL(tg:Tg)(t:Ts)(c:Ex):List D->En->List Sd->Option (Res (List Sd))
 |[],B,ah=>some (.ok B ah)
 |d::ds,B,ah=>match tg.put d B with
  |none=>none
  |some B=>bnd (t B) λB x=>if x then bnd (c B) λB y=>lcL tg t c ds B (ah++[y])else lcL tg t c ds B ah
noncomputable def mkL(o:Own)(E:En)(xs:List Sd):Option (Res Sd):=
 if o=.dp then(if xs.all v9 then some (.ok E (.dp,.lst (xs.map (·.2))))else none)else some (.ok E (.rt,.lst (xs.map (·.2))))
noncomputable def cLC(o:Own)(k:Nat)(R:List Nat)(it:Ev (List D))(tg:Tg)(t:Ts)(c:Ex):Ex:=λE=>bnd (it E) λE ds=>
 match lcL tg t c ds (Vz k R E) []with
 |some (.ok B xs)=>mkL o (Q0 k R B E) xs
 |some (.exc B e)=>some (.exc (Q0 k R B E) e)
 |none=>none
def Wj:Option (Option Sd)->Bool
 |some (some (_,.lst _))=>true
 |_=>false
noncomputable def wQ(f:List D->D->Option (List D))(i:Nat)(c:Ex):Sm:=λE=>if Wj E[i]? then ofE (c E) λE x=>match E[i]? with
 |some (some (o,.lst xs))=>if o=.no then none else(match f xs x.2 with
  |some ys=>some (.nx (E.set i (some (if o=.dp/\v9 x then .dp else .rt,.lst ys))))
  |none=>none)
 |_=>none
 else none
def wJ:List D->D->Option (List D):=λxs d=>if xs.length<big then some (xs++[d])else none
noncomputable def Q8:D->Option D
 |.int i=>some (.int i)
 |.bl k=>some (.int (if k then 1 else 0))
 |.str z=>if z.length<=640 then(PySem.intText? z).map .int else none
 |_=>none
noncomputable def V6:Sd->Option Sd:=λx=>match x.2 with
 |.lst xs=>if qQ x then some (.rt,.lst xs)else none
 |.tup xs=>if qQ x then some (.rt,.lst xs)else none
 |_=>none
noncomputable def Wk:Sd->Option Sd:=λx=>match x.2 with
 |.lst xs=>if qQ x then some (.no,.tup xs)else none
 |.tup xs=>if qQ x then some (.no,.tup xs)else none
 |_=>none
def bls:List D->Option (List Bool)
 |[]=>some []
 |.bl b::ds=>(bls ds).map (b :: ·)
 |_=>none
def K3:D->Option D
 |.lst ds=>(bls ds).map λbs=>.bl (bs.all id)
 |_=>none
noncomputable def seqOf:D->Option (List D)
 |.lst xs=>some xs
 |.tup xs=>some xs
 |.str z=>if z.cps.size<=big then some (z.cps.toList.map λc=>.str ⟨#[c]⟩)else none
 |_=>none
def itS(c:Ex):Ev (List D):=λE=>bnd (c E) λE x=>val E (seqOf x.2)
def Jk(i:Int):Bool:=decide (-(2 ^ 62)<=i)&&decide (i<2 ^ 62)
def kK(lo hi:Int):List D:=(List.range (hi - lo).toNat).map λ(k:Nat)=>.int (lo+(k:Int))
noncomputable def qV(c:Ex):Ev (List D):=λE=>bnd (c E) λE x=>match x.2 with
 |.int j=>if Jk j/\j.toNat<=big then some (.ok E (kK 0 j))else none
 |_=>none
noncomputable def wxa(c:Ex):Ex:=λE=>bnd (c E) λE x=>match x.2 with
 |.int j=>if Jk j/\j.toNat<=big then some (.ok E (.rt,.lst (kK 0 j)))else none
 |_=>none
abbrev Fn:=List Sd->Option (Res Sd)
noncomputable def fn(n:Nat)(b:Sm):Fn:=λxs=>match b (xs.map some++List.replicate (n - xs.length) none)with
 |some (.rt E x)=>some (.ok E x)
 |some (.nx E)=>some (.ok E (.dp,.non))
 |some (.xc E c)=>some (.exc E c)
 |_=>none
def letAll(xs:List Sd):List Sd:=xs.map λx=>(.no,x.2)
noncomputable def jx(f:Fn)(cs:List Ex):Ex:=λE=>bnd (vk cs E) λE xs=>match f (letAll xs)with
 |some (.ok _ y)=>some (.ok E y)
 |some (.exc _ c)=>some (.exc E c)
 |none=>none
end Q
namespace Q
open PySem PySem.Spec PyProof.Rows L2 L3
mutual
noncomputable def wk6:D->Int
 |.int i=>hashInt i
 |.tup xs=>reduceHash (Builtin.Tuple.tupleHashOf (hashDs xs))
 |_=>4238894112
noncomputable def hashDs:List D->List Int
 |[]=>[]
 |a::x=>wk6 a::hashDs x
end
def Kd:Type:={ d:D // Q5 6 d=true }
instance:DecidableEq Kd:=λa b=>Classical.propDecidable (a=b)
abbrev Ent:=Kd×Addr×Value
noncomputable def DicO(a:Addr)(es:List Ent)(ep:Nat):HO:=.ext λh=>∃o ds,h.get? a=some o/\o.ExactDict/\o.data=.dict ds ep/\ds.toList=es.map λx=>(⟨wk6 x.1.1,.ref x.2.1,x.2.2⟩:DictEntry)
mutual
noncomputable def PuR(K:PySem.W.Frag)(H:Hp):D->V->Prop
 |.non,v=>v=.non
 |.int i,v=>v=.int i
 |.tup ds,v=>∃a xs,v=.ref a/\SqT K H a xs/\PuRs K H ds xs
 |_,_=>False
noncomputable def PuRs(K:PySem.W.Frag)(H:Hp):List D->List V->Prop
 |[],xs=>xs=[]
 |d::ds,xs=>∃x r,xs=x::r/\PuR K H d x/\PuRs K H ds r
end
noncomputable def DcN(K:PySem.W.Frag)(H:Hp)(a:Addr)(ks:List D)(vs:List V):Prop:=∃(es:List Ent) (ep:Nat),H a=some (DicO a es ep)/\(a==sysModules)=false/\es.length<=sizeLine/\(es.map (·.1)).Nodup/\ks=es.map (·.1.1)/\(∀x∈es,PuR K H x.1.1 (.ref x.2.1))/\Vals vs (es.map (·.2.2))
noncomputable def DcI(H:Hp)(a:Addr)(ks:List D)(vs:List V):Prop:=∃(kv:List (Int×V)) (m:Str),H a=some (.dK (kv.map λp=>(Sum.inl p.1,p.2)))/\ks=.str m::kv.map (λp=>D.int p.1)/\vs=.non::kv.map (·.2)
def DcA(K:PySem.W.Frag)(H:Hp)(a:Addr)(ks:List D)(vs:List V):Prop:=DcN K H a ks vs\/DcI H a ks vs
noncomputable def wxf(K:PySem.W.Frag)(a:Addr)(xs:List V):Prop:=∃(aa:Array Value) (n:Nat),K.lookup a=some { cls:=.type "list",data:=.seq aa n }/\aa.size<=sizeLine/\Vals xs aa.toList
def wqg(K:PySem.W.Frag)(H:Hp)(a:Addr)(xs:List V):Prop:=(∃o,H a=some (.frz o (.lst xs)))\/wxf K a xs
def LsR(K:PySem.W.Frag)(H:Hp)(a:Addr)(xs:List V):Prop:=Rd H a (.lst xs)\/wxf K a xs
theorem LsR.of{K:PySem.W.Frag}{H:Hp}{a:Addr}{xs:List V}(h:wqg K H a xs):LsR K H a xs:=h.imp .inr id
theorem LsR.sq{K:PySem.W.Frag}{H:Hp}{a:Addr}{xs:List V}(h:LsR K H a xs):SqL K H a xs:=by
 rcases h with h|⟨aa,n,h1,h2,h3⟩
 ·exact .inl h
 ·exact .inr ⟨_,aa,n,h1,rfl,rfl,rfl,h2,h3⟩
theorem LsR.is{X:Cx}{pins:List (Addr×Obj)}{σ:L2.St}{H:Hp}{s:Shared}{a:Addr}{xs:List V}(I:L2.Inv X pins σ H s)(h:LsR X.K H a xs):xs.length<=sizeLine/\∃(aa:List Value) (n:Nat),Vals xs aa/\s.heap.get? a=some { cls:=.type "list",data:=.seq aa.toArray n }:=by
 rcases h with h|⟨aa,n,h1,h2,h3⟩
 ·obtain⟨z,aa,n,r,e⟩:=h.ok I.hok;exact⟨z,aa,n,r,e⟩
 ·have hl:=h3.length;simp only[Xa]at hl;exact⟨by omega,aa.toList,n,h3,by simpa using I.kIn a _ h1⟩
noncomputable def ExD(K:PySem.W.Frag)(H:Hp)(c:Str)(v:V):Prop:=∃x o C,v=.ref x/\H x=some (.frz o (.ext λ_=>True))/\ExAt K x o C/\PySem.W.nsIn K mainGlobals c=some (some (.ref C))
mutual
noncomputable def RepL(K:PySem.W.Frag)(H:Hp)(g:Bool):D->V->List Addr->Prop
 |.non,v,as=>v=.non/\as=[]
 |.bl b,v,as=>v=.bl b/\as=[]
 |.int i,v,as=>v=.int i/\as=[]
 |.str z,v,as=>v=.str z/\as=[]/\z.length<=sizeLine
 |.tup ds,v,as=>∃a xs,v=.ref a/\SqT K H a xs/\RepA K H g ds xs as
 |.lst ds,v,as=>∃a xs bs,v=.ref a/\RepA K H g ds xs bs/\((H a=some (.lst xs)/\as=a::bs)\/(g=true/\wqg K H a xs/\as=bs))
 |.dct ao,v,as=>∃a xs bs,v=.ref a/\RepP K H g ao xs bs/\DcA K H a (ao.map (·.1)) xs/\as=a::bs
 |.obj c _,v,as=>as=[]/\ExD K H c v
noncomputable def RepA(K:PySem.W.Frag)(H:Hp)(g:Bool):List D->List V->List Addr->Prop
 |[],xs,as=>xs=[]/\as=[]
 |d::ds,xs,as=>∃x r bs cs,xs=x::r/\as=bs++cs/\RepL K H g d x bs/\RepA K H g ds r cs
noncomputable def RepP(K:PySem.W.Frag)(H:Hp)(g:Bool):List (D×D)->List V->List Addr->Prop
 |[],xs,as=>xs=[]/\as=[]
 |(_,d)::ds,xs,as=>∃x r bs cs,xs=x::r/\as=bs++cs/\RepL K H g d x bs/\RepP K H g ds r cs
end
noncomputable def RepR(K:PySem.W.Frag)(H:Hp):D->V->List Addr->Prop
 |.lst ds,v,as=>∃a xs bs,v=.ref a/\RepA K H true ds xs bs/\H a=some (.lst xs)/\as=a::bs
 |.dct ao,v,as=>∃a xs bs,v=.ref a/\RepP K H true ao xs bs/\DcA K H a (ao.map (·.1)) xs/\as=a::bs
 |_,_,_=>False
noncomputable def RepO(K:PySem.W.Frag)(H:Hp):Own->D->V->List Addr->Prop
 |.no=>RepL K H true
 |.rt=>RepR K H
 |.dp=>RepL K H false
section
variable {K:PySem.W.Frag}{H H':Hp}
noncomputable def Kp(H H':Hp)(as:List Addr):Prop:=(∀a xs,H a=some (.tup xs)->H' a=some (.tup xs))/\(∀a o u,H a=some (.frz o u)->H' a=some (.frz o u))/\∀a∈as,∀ob,H a=some ob->H' a=some ob
theorem Kp.left{as bs:List Addr}(k:Kp H H' (as++bs)):Kp H H' as:=⟨k.1,k.2.1,λa ha=>k.2.2 a (ll9 _ ha)⟩
theorem Kp.right{as bs:List Addr}(k:Kp H H' (as++bs)):Kp H H' bs:=⟨k.1,k.2.1,λa ha=>k.2.2 a (lr9 _ ha)⟩
theorem Kp.tail{a:Addr}{bs:List Addr}(k:Kp H H' (a::bs)):Kp H H' bs:=⟨k.1,k.2.1,λb hb=>k.2.2 b (lc9 _ hb)⟩
theorem Kp.tupT{as:List Addr}{a:Addr}{xs:List V}(k:Kp H H' as)(h:SqT K H a xs):SqT K H' a xs:=by
 rcases h with(h|⟨o,h⟩)|h
 ·exact .inl (.inl (k.1 a xs h))
 ·exact .inl (.inr ⟨o,k.2.1 a o _ h⟩)
 ·exact .inr h
theorem Kp.frzL{as:List Addr}{a:Addr}{xs:List V}(k:Kp H H' as)(h:wqg K H a xs):wqg K H' a xs:=by
 rcases h with⟨o,h⟩|h
 ·exact .inl ⟨o,k.2.1 a o _ h⟩
 ·exact .inr h
mutual
theorem PuR.kp{as:List Addr}(k:Kp H H' as):∀{d:D} {v:V},PuR K H d v->PuR K H' d v
 |.non,_,h=>by unfold PuR at h ⊢;exact h
 |.int _,_,h=>by unfold PuR at h ⊢;exact h
 |.tup ds,_,h=>by
  unfold PuR at h ⊢;obtain⟨a,xs,e,s,r⟩:=h;exact⟨a,xs,e,k.tupT s,PuRs.kp k r⟩
 |.bl _,_,h=>by unfold PuR at h;exact h.elim
 |.str _,_,h=>by unfold PuR at h;exact h.elim
 |.lst _,_,h=>by unfold PuR at h;exact h.elim
 |.dct _,_,h=>by unfold PuR at h;exact h.elim
 |.obj _ _,_,h=>by unfold PuR at h;exact h.elim
theorem PuRs.kp{as:List Addr}(k:Kp H H' as):∀{ds:List D} {xs:List V},PuRs K H ds xs->PuRs K H' ds xs
 |[],_,h=>by unfold PuRs at h ⊢;exact h
 |d::ds,_,h=>by
  unfold PuRs at h ⊢;obtain⟨x,r,e,h1,h2⟩:=h;exact⟨x,r,e,PuR.kp k h1,PuRs.kp k h2⟩
end
theorem Kp.dcn{a:Addr}{bs:List Addr}{ks:List D}{vs:List V}(k:Kp H H' (a::bs))(h:DcN K H a ks vs):DcN K H' a ks vs:=by
 obtain⟨es,ep,e,h1,h2,h3,h4,h5,h6⟩:=h;exact⟨es,ep,k.2.2 a X3 _ e,h1,h2,h3,h4,λx hx=>PuR.kp k (h5 x hx),h6⟩
theorem Kp.dca{a:Addr}{bs:List Addr}{ks:List D}{vs:List V}(k:Kp H H' (a::bs))(h:DcA K H a ks vs):DcA K H' a ks vs:=by
 rcases h with h|⟨kv,m,e,h⟩
 ·exact .inl (k.dcn h)
 ·exact .inr ⟨kv,m,k.2.2 a X3 _ e,h⟩
theorem Kp.of_same{as:List Addr}(s:k9 H H'):Kp H H' as:=⟨λa xs h=>s a _ h,λa o u h=>s a _ h,λa _ ob h=>s a ob h⟩
mutual
theorem RepL.kp{g:Bool}:∀{d:D} {v:V} {as:List Addr},RepL K H g d v as->Kp H H' as->RepL K H' g d v as
 | .non,_,_,h,_=>by unfold RepL at h ⊢;exact h
 | .bl _,_,_,h,_=>by unfold RepL at h ⊢;exact h
 | .int _,_,_,h,_=>by unfold RepL at h ⊢;exact h
 | .str _,_,_,h,_=>by unfold RepL at h ⊢;exact h
 | .tup ds,_,_,h,k=>by
  unfold RepL at h ⊢;obtain⟨a,xs,e,s,r⟩:=h;exact⟨a,xs,e,k.tupT s,RepA.kp r k⟩
 | .lst ds,_,_,h,k=>by
  unfold RepL at h ⊢;obtain⟨a,xs,bs,e,r,q⟩:=h;refine⟨a,xs,bs,e,?_,?_⟩
  ·rcases q with⟨_,rfl⟩|⟨_,_,rfl⟩
   ·exact RepA.kp r k.tail
   ·exact RepA.kp r k
  ·rcases q with⟨h1,rfl⟩|⟨hg,h1,rfl⟩
   ·exact .inl ⟨k.2.2 a X3 _ h1,rfl⟩
   ·exact .inr ⟨hg,k.frzL h1,rfl⟩
 |.dct ao,_,_,h,k=>by
  unfold RepL at h ⊢;obtain⟨a,xs,bs,e,r,q,rfl⟩:=h;exact⟨a,xs,bs,e,RepP.kp r k.tail,k.dca q,rfl⟩
 |.obj _ _,_,_,h,k=>by
  unfold RepL at h ⊢;obtain⟨e,x,o,C,h1,h2,h3⟩:=h;exact⟨e,x,o,C,h1,k.2.1 _ _ _ h2,h3⟩
theorem RepA.kp{g:Bool}:∀{ds:List D} {xs:List V} {as:List Addr},RepA K H g ds xs as->Kp H H' as->RepA K H' g ds xs as
 |[],_,_,h,_=>by unfold RepA at h ⊢;exact h
 |d::ds,_,_,h,k=>by
  unfold RepA at h ⊢;obtain⟨x,r,bs,cs,e1,rfl,h1,h2⟩:=h;exact⟨x,r,bs,cs,e1,rfl,RepL.kp h1 k.left,RepA.kp h2 k.right⟩
theorem RepP.kp{g : Bool}: ∀{ds : List (D × D)} {xs : List V} {as : List Addr}, RepP K H g ds xs as -> Kp H H' as -> RepP K H' g ds xs as
  | [], _, _, h, _=>by unfold RepP at h ⊢; exact h
  | (q, d)::ds, _, _, h, k=>by
    unfold RepP at h ⊢;obtain⟨x, r, bs, cs, e1, rfl, h1, h2⟩:= h;exact⟨x, r, bs, cs, e1, rfl, RepL.kp h1 k.left, RepP.kp h2 k.right⟩
end
mutual
theorem RepL.wk:∀{d:D} {v:V} {as:List Addr},RepL K H false d v as->RepL K H true d v as
 |.non,_,_,h=>by unfold RepL at h ⊢;exact h
 |.bl _,_,_,h=>by unfold RepL at h ⊢;exact h
 |.int _,_,_,h=>by unfold RepL at h ⊢;exact h
 |.str _,_,_,h=>by unfold RepL at h ⊢;exact h
 |.tup ds,_,_,h=>by
  unfold RepL at h ⊢;obtain⟨a,xs,e,s,r⟩:=h;exact⟨a,xs,e,s,RepA.wk r⟩
 |.lst ds,_,_,h=>by
  unfold RepL at h ⊢;obtain⟨a,xs,bs,e,r,q⟩:=h;refine⟨a,xs,bs,e,RepA.wk r,?_⟩;rcases q with q|⟨z,_⟩
  ·exact .inl q
  ·cases z
 |.dct ao,_,_,h=>by
  unfold RepL at h ⊢;obtain⟨a,xs,bs,e,r,q,z⟩:=h;exact⟨a,xs,bs,e,RepP.wk r,q,z⟩
 |.obj _ _,_,_,h=>by unfold RepL at h ⊢;exact h
theorem RepA.wk:∀{ds:List D} {xs:List V} {as:List Addr},RepA K H false ds xs as->RepA K H true ds xs as
 |[],_,_,h=>by unfold RepA at h ⊢;exact h
 |d::ds,_,_,h=>by
  unfold RepA at h ⊢;obtain⟨x,r,bs,cs,e1,e2,h1,h2⟩:=h;exact⟨x,r,bs,cs,e1,e2,RepL.wk h1,RepA.wk h2⟩
theorem RepP.wk : ∀{ds : List (D × D)} {xs : List V} {as : List Addr}, RepP K H false ds xs as -> RepP K H true ds xs as
  | [], _, _, h=>by unfold RepP at h ⊢; exact h
  | (q, d)::ds, _, _, h=>by
    unfold RepP at h ⊢;obtain⟨x, r, bs, cs, e1, e2, h1, h2⟩:= h;exact⟨x, r, bs, cs, e1, e2, RepL.wk h1, RepP.wk h2⟩
end
mutual
theorem RepL.al{g:Bool}:∀{d:D} {v:V} {as:List Addr},RepL K H g d v as->∀a∈as,(∃xs,H a=some (.lst xs))\/(∃ φ,H a=some (.ext φ))\/∃ao,H a=some (.dK ao)
 | .non,_,_,h=>by unfold RepL at h;rw[h.2];exact λ_ z=>nomatch z
 | .bl _,_,_,h=>by unfold RepL at h;rw[h.2];exact λ_ z=>nomatch z
 | .int _,_,_,h=>by unfold RepL at h;rw[h.2];exact λ_ z=>nomatch z
 | .str _,_,_,h=>by unfold RepL at h;rw[h.2.1];exact λ_ z=>nomatch z
 | .tup ds,_,_,h=>by
  unfold RepL at h;obtain⟨a,xs,e,s,r⟩:=h;exact RepA.al r
 | .lst ds,_,_,h=>by
  unfold RepL at h;obtain⟨a,xs,bs,e,r,q⟩:=h;rcases q with⟨h1,rfl⟩|⟨_,_,rfl⟩
  ·intro b hb;rcases List.mem_cons.mp hb with rfl|hb
   ·exact .inl ⟨_,h1⟩
   ·exact RepA.al r b hb
  ·exact RepA.al r
 | .dct ao,_,_,h=>by
  unfold RepL at h;obtain⟨a,xs,bs,e,r,q,rfl⟩:=h;intro b hb;rcases List.mem_cons.mp hb with rfl|hb
  ·rcases q with⟨es,ep,q,_⟩|⟨kv,m,q,_⟩
   ·exact .inr (.inl ⟨_,q⟩)
   ·exact .inr (.inr ⟨_,q⟩)
  ·exact RepP.al r b hb
 |.obj _ _,_,_,h=>by unfold RepL at h;rw[h.1];exact λ_ z=>nomatch z
theorem RepA.al{g:Bool}:∀{ds:List D} {xs:List V} {as:List Addr},RepA K H g ds xs as->∀a∈as,(∃xs,H a=some (.lst xs))\/(∃ φ,H a=some (.ext φ))\/∃ao,H a=some (.dK ao)
 |[],_,_,h=>by unfold RepA at h;rw[h.2];exact λ_ z=>nomatch z
 |d::ds,_,_,h=>by
  unfold RepA at h;obtain⟨x,r,bs,cs,e1,rfl,h1,h2⟩:=h;intro a ha;rcases List.mem_append.mp ha with ha|ha
  ·exact RepL.al h1 a ha
  ·exact RepA.al h2 a ha
theorem RepP.al{g : Bool}: ∀{ds : List (D × D)} {xs : List V} {as : List Addr}, RepP K H g ds xs as -> ∀a ∈ as, (∃xs, H a = some (.lst xs)) \/ (∃ φ, H a = some (.ext φ)) \/ ∃ao, H a = some (.dK ao)
  | [], _, _, h=>by unfold RepP at h; rw[h.2]; exact λ_ z=>nomatch z
  | (_, d)::ds, _, _, h=>by
    unfold RepP at h;obtain⟨x, r, bs, cs, e1, rfl, h1, h2⟩:= h;intro a ha;rcases List.mem_append.mp ha with ha|ha
    · exact RepL.al h1 a ha
    · exact RepP.al h2 a ha
end
mutual
theorem RepL.pu{g g':Bool}:∀{d:D} {v:V} {as:List Addr},RepL K H g d v as->d.pure=true->as=[]/\RepL K H g' d v []
 |.non,_,_,h,_=>by unfold RepL at h ⊢;exact⟨h.2,h.1,rfl⟩
 |.bl _,_,_,h,_=>by unfold RepL at h ⊢;exact⟨h.2,h.1,rfl⟩
 |.int _,_,_,h,_=>by unfold RepL at h ⊢;exact⟨h.2,h.1,rfl⟩
 |.str _,_,_,h,_=>by unfold RepL at h ⊢;exact⟨h.2.1,h.1,rfl,h.2.2⟩
 |.tup ds,_,_,h,p=>by
  unfold RepL at h ⊢;obtain⟨a,xs,e,s,r⟩:=h;obtain⟨z,r'⟩:=RepA.pu (g':=g') r (by unfold D.pure at p;exact p);exact⟨z,a,xs,e,s,r'⟩
 |.lst ds,_,_,h,p=>by unfold D.pure at p;cases p
 |.dct ds,_,_,h,p=>by unfold D.pure at p;cases p
 |.obj _ _,_,_,h,p=>by unfold D.pure at p;cases p
theorem RepA.pu{g g':Bool}:∀{ds:List D} {xs:List V} {as:List Addr},RepA K H g ds xs as->D.pures ds=true->as=[]/\RepA K H g' ds xs []
 |[],_,_,h,_=>by unfold RepA at h ⊢;exact⟨h.2,h.1,rfl⟩
 |d::ds,_,_,h,p=>by
  unfold RepA at h ⊢;unfold D.pures at p;rw[Bool.and_eq_true]at p;obtain⟨x,r,bs,cs,e1,rfl,h1,h2⟩:=h;obtain⟨rfl,q1⟩:=RepL.pu (g':=g') h1 p.1;obtain⟨rfl,q2⟩:=RepA.pu (g':=g') h2 p.2;exact⟨rfl,x,r,[],[],e1,rfl,q1,q2⟩
end
theorem RepR.wk:∀{d:D} {v:V} {as:List Addr},RepR K H d v as->RepL K H true d v as
 |.lst ds,_,_,h=>by
  obtain⟨a,xs,bs,e,r,q,z⟩:=h;unfold RepL;exact⟨a,xs,bs,e,r,.inl ⟨q,z⟩⟩
 |.dct ao,_,_,h=>by
  obtain⟨a,xs,bs,e,r,q,z⟩:=h;unfold RepL;exact⟨a,xs,bs,e,r,q,z⟩
theorem RepR.kp:∀{d:D} {v:V} {as:List Addr},RepR K H d v as->Kp H H' as->RepR K H' d v as
 |.lst ds,_,_,h,k=>by
  obtain⟨a,xs,bs,e,r,q,rfl⟩:=h;exact⟨a,xs,bs,e,r.kp k.tail,k.2.2 a X3 _ q,rfl⟩
 |.dct ao,_,_,h,k=>by
  obtain⟨a,xs,bs,e,r,q,rfl⟩:=h;exact⟨a,xs,bs,e,r.kp k.tail,k.dca q,rfl⟩
theorem RepO.wk:∀{o:Own} {d:D} {v:V} {as:List Addr},RepO K H o d v as->RepL K H true d v as
 |.no,_,_,_,h=>h
 |.rt,_,_,_,h=>RepR.wk h
 |.dp,_,_,_,h=>RepL.wk h
theorem RepO.kp:∀{o:Own} {d:D} {v:V} {as:List Addr},RepO K H o d v as->Kp H H' as->RepO K H' o d v as
 |.no,_,_,_,h,k=>RepL.kp h k
 |.rt,_,_,_,h,k=>RepR.kp h k
 |.dp,_,_,_,h,k=>RepL.kp h k
end
structure Sl where
 o:Own
 d:D
 v:V
 as:List Addr
def Sl.own(x:Sl):List Addr:=match x.o with
 |.no=>[]
 |.rt=>x.as.take 1
 |.dp=>x.as
def Sl.frz(x:Sl):List Addr:=match x.o with
 |.no=>x.as
 |.rt=>x.as.drop 1
 |.dp=>[]
theorem Sl.parts(x:Sl):x.own++x.frz=x.as:=by
 unfold Sl.own Sl.frz;cases x.o with
 |no=>rfl
 |rt=>exact List.take_append_drop 1 x.as
 |dp=>exact Xv _
theorem Sl.own_as{x:Sl}{a:Addr}(h:a∈x.own):a∈x.as:=by rw[<-x.parts];exact ll9 _ h
theorem Sl.frz_as{x:Sl}{a:Addr}(h:a∈x.frz):a∈x.as:=by rw[<-x.parts];exact lr9 _ h
theorem Sl.as_of{x:Sl}{a:Addr}(h:a∈x.as):a∈x.own\/a∈x.frz:=by rw[<-x.parts]at h;exact List.mem_append.mp h
def Sl.let(x:Sl):Sl:={ x with o:=.no }
abbrev Ls:=List (Option Sl)
def j8(L:Ls):List Addr:=L.flatMap λx=>x.elim [] Sl.own
def jY(L:Ls):List Addr:=L.flatMap λx=>x.elim [] Sl.frz
@[simp] theorem wj4:j8 []=[]:=rfl
@[simp] theorem vx7:jY []=[]:=rfl
@[simp] theorem jQ (x:Sl)(L:Ls):j8 (some x::L)=x.own++j8 L:=by simp[j8]
@[simp] theorem kQ (x:Sl)(L:Ls):jY (some x::L)=x.frz++jY L:=by simp[jY]
@[simp] theorem qqb (L:Ls):j8 (none::L)=j8 L:=by simp[j8]
@[simp] theorem qj7 (L:Ls):jY (none::L)=jY L:=by simp[jY]
@[simp] theorem jZ (L T:Ls):j8 (L++T)=j8 L++j8 T:=by simp[j8]
@[simp] theorem qw (L T:Ls):jY (L++T)=jY L++jY T:=by simp[jY]
theorem mem_owned{L:Ls}{a:Addr}:a∈j8 L↔∃x,some x∈L/\a∈x.own:=by
 unfold j8;rw[List.mem_flatMap];constructor
 ·rintro ⟨y,hy,h⟩;cases y with
  |none=>exact nomatch h
  |some x=>exact⟨x,hy,h⟩
 ·rintro ⟨x,hx,h⟩;exact⟨some x,hx,h⟩
theorem mem_frozen{L:Ls}{a:Addr}:a∈jY L↔∃x,some x∈L/\a∈x.frz:=by
 unfold jY;rw[List.mem_flatMap];constructor
 ·rintro ⟨y,hy,h⟩;cases y with
  |none=>exact nomatch h
  |some x=>exact⟨x,hy,h⟩
 ·rintro ⟨x,hx,h⟩;exact⟨some x,hx,h⟩
def Sl.ok(K:PySem.W.Frag)(H:Hp)(x:Sl):Prop:=RepO K H x.o x.d x.v x.as
theorem Sl.ok.al{K:PySem.W.Frag}{H:Hp}{x:Sl}(h:x.ok K H):∀a∈x.as,(∃xs,H a=some (.lst xs))\/(∃ φ,H a=some (.ext φ))\/∃ao,H a=some (.dK ao):=(RepO.wk h).al
theorem Sl.ok.some{K:PySem.W.Frag}{H:Hp}{x:Sl}(h:x.ok K H){a:Addr}(ha:a∈x.as):H a≠none:=λz=>by
 rcases h.al a ha with⟨xs,e⟩|⟨xs,e⟩|⟨xs,e⟩<;>(rw[z]at e;cases e)
structure World (K:PySem.W.Frag)(H:Hp)(L:Ls):Prop where
 ok:∀x,some x∈L->x.ok K H
 nd:(j8 L).Nodup
 ds:∀a∈j8 L,a∉jY L
structure Step (H:Hp)(L:Ls)(H':Hp)(L':Ls):Prop where
 keep:∀a ob,H a=some ob->a∉j8 L->H' a=some ob
 own:∀a∈j8 L',a∈j8 L\/H a=none
 frz:∀a∈jY L',a∈jY L\/a∈j8 L\/H a=none
section
variable {K:PySem.W.Frag}{H H1 H2 H':Hp}{L L1 L2' L' T:Ls}{x y:Sl}
theorem World.own_al(w:World K H L){a:Addr}(h:a∈j8 L):(∃xs,H a=some (.lst xs))\/(∃ φ,H a=some (.ext φ))\/∃ao,H a=some (.dK ao):=by
 obtain⟨x,hx,ha⟩:=mem_owned.mp h;exact(w.ok x hx).al a (Sl.own_as ha)
theorem World.own_some(w:World K H L){a:Addr}(h:a∈j8 L):H a≠none:=by
 obtain⟨x,hx,ha⟩:=mem_owned.mp h;exact(w.ok x hx).some (Sl.own_as ha)
theorem World.frz_some(w:World K H L){a:Addr}(h:a∈jY L):H a≠none:=by
 obtain⟨x,hx,ha⟩:=mem_frozen.mp h;exact(w.ok x hx).some (Sl.frz_as ha)
theorem Step.refl:Step H L H L:=⟨λ_ _ h _=>h,λ_ h=>.inl h,λ_ h=>.inl h⟩
theorem Step.trans(a:Step H L H1 L1)(b:Step H1 L1 H2 L2'):Step H L H2 L2' where
 keep:=λc ob h hn=>b.keep c ob (a.keep c ob h hn) λz=>(a.own c z).elim hn λe=>by rw[h]at e;cases e
 own:=λc hc=>by
  rcases b.own c hc with z|z
  ·exact a.own c z
  ·by_cases h:c∈j8 L
   ·exact .inl h
   ·refine .inr ?_;cases e:H c with
    |none=>rfl
    |some ob=>rw[a.keep c ob e h]at z;cases z
 frz:=λc hc=>by
  rcases b.frz c hc with z|z|z
  ·exact a.frz c z
  ·exact .inr (a.own c z)
  ·by_cases h:c∈j8 L
   ·exact .inr (.inl h)
   ·refine .inr (.inr ?_);cases e:H c with
    |none=>rfl
    |some ob=>rw[a.keep c ob e h]at z;cases z
theorem Step.kp(a:Step H L H' L')(w:World K H L){as:List Addr}(h:∀b∈as,b∉j8 L):Kp H H' as:=by
 have no:∀b ob,H b=some ob->(∀xs,ob≠.lst xs)->(∀ φ,ob≠.ext φ)->(∀ao,ob≠.dK ao)->H' b=some ob:=λb ob e h1 h2 h3=>a.keep b ob e λz=>by
  rcases w.own_al z with⟨xs,q⟩|⟨es,q⟩|⟨es,q⟩
  ·rw[e]at q;cases q;exact h1 _ rfl
  ·rw[e]at q;cases q;exact h2 _ rfl
  ·rw[e]at q;cases q;exact h3 _ rfl
 exact⟨λb xs e=>no b _ e (λ_ z=>(nomatch z)) (λ_ z=>(nomatch z)) (λ_ z=>(nomatch z)),λb o u e=>no b _ e (λ_ z=>(nomatch z)) (λ_ z=>(nomatch z)) (λ_ z=>(nomatch z)),λb hb ob e=>a.keep b ob e (h b hb)⟩
theorem Step.frame(a:Step H L H' L')(w:World K H (L++T))(w':World K H' L')(wL:World K H L):World K H' (L'++T):=by
 have nd:=w.nd;rw [jZ,X7]at nd;have dis:∀b∈j8 L,b∉j8 T:=λb hb hT=>nd.2.2 b hb b hT rfl
 have jy:∀x,some x∈T->x.ok K H:=λx hx=>w.ok x (lr9 _ hx)
 have nT:∀x,some x∈T->∀b∈x.as,b∉j8 L:=λx hx b hb hL=>by
  rcases Sl.as_of hb with z|z
  ·exact dis b hL (mem_owned.mpr ⟨x,hx,z⟩)
  ·refine w.ds b (by rw[jZ];exact ll9 _ hL) ?_;rw[qw];exact lr9 _ (mem_frozen.mpr ⟨x,hx,z⟩)
 refine⟨λx hx=>?_,?_,λb hb=>?_⟩
 ·rcases List.mem_append.mp hx with hx|hx
  ·exact w'.ok x hx
  ·exact(jy x hx).kp (a.kp wL (nT x hx))
 ·rw[jZ,X7];refine⟨w'.nd,nd.2.1,λb hb c hc e=>?_⟩;subst e;obtain⟨x,hx,ie⟩:=mem_owned.mp hc;rcases a.own b hb with z|z
  ·exact dis b z hc
  ·exact(jy x hx).some (Sl.own_as ie) z
 ·rw[jZ]at hb;rw[qw];intro hf;rcases List.mem_append.mp hb with hb|hb
  ·rcases List.mem_append.mp hf with hf|hf
   ·exact w'.ds b hb hf
   ·obtain⟨x,hx,ie⟩:=mem_frozen.mp hf;rcases a.own b hb with z|z
    ·exact nT x hx b (Sl.frz_as ie) z
    ·exact(jy x hx).some (Sl.frz_as ie) z
  ·rcases List.mem_append.mp hf with hf|hf
   ·obtain⟨x,hx,ie⟩:=mem_owned.mp hb;rcases a.frz b hf with z|z|z
    ·exact w.ds b (by rw[jZ];exact lr9 _ hb) (by rw[qw];exact ll9 _ z)
    ·exact dis b z hb
    ·exact(jy x hx).some (Sl.own_as ie) z
   ·exact w.ds b (by rw[jZ];exact lr9 _ hb) (by rw[qw];exact lr9 _ hf)
theorem World.left(w:World K H (L++T)):World K H L:=by
 have nd:=w.nd;rw[jZ,X7]at nd;exact⟨λx hx=>w.ok x (ll9 _ hx),nd.1,λa ha hf=>w.ds a (by rw[jZ];exact ll9 _ ha) (by rw[qw];exact ll9 _ hf)⟩
theorem World.right(w:World K H (L++T)):World K H T:=by
 have nd:=w.nd;rw[jZ,X7]at nd;exact⟨λx hx=>w.ok x (lr9 _ hx),nd.2.1,λa ha hf=>w.ds a (by rw[jZ];exact lr9 _ ha) (by rw[qw];exact lr9 _ hf)⟩
theorem World.comm(w:World K H (L++T)):World K H (T++L):=by
 refine⟨λx hx=>w.ok x ?_,?_,λa ha hf=>w.ds a ?_ ?_⟩
 ·rcases List.mem_append.mp hx with h|h
  ·exact lr9 _ h
  ·exact ll9 _ h
 ·have nd:=w.nd;rw[jZ,X7]at nd ⊢;exact⟨nd.2.1,nd.1,λa ha b hb e=>nd.2.2 b hb a ha e.symm⟩
 ·rw[jZ]at ha ⊢;rcases List.mem_append.mp ha with h|h
  ·exact lr9 _ h
  ·exact ll9 _ h
 ·rw[qw]at hf ⊢;rcases List.mem_append.mp hf with h|h
  ·exact lr9 _ h
  ·exact ll9 _ h
theorem World.tail{q:Option Sl}(w:World K H (q::L)):World K H L:=World.right (L:=[q]) w
theorem World.head(w:World K H (some x::L)):x.ok K H:=w.ok x X3
theorem World.apart(w:World K H (some x::L)):∀a∈x.as,a∉j8 L:=λa ha hL=>by
 rcases Sl.as_of ha with z|z
 ·have nd:=w.nd;rw[jQ,X7]at nd;exact nd.2.2 a z a hL rfl
 ·exact w.ds a (by rw[jQ];exact lr9 _ hL) (by rw[kQ];exact ll9 _ z)
theorem World.cons(w:World K H L)(h:x.ok K H)(n:x.own.Nodup)(h1:∀a∈x.own,a∉j8 L)(h2:∀a∈x.own,a∉jY L)(h3:∀a∈x.frz,a∉j8 L)(h4:∀a∈x.own,a∉x.frz):World K H (some x::L):=by
 refine⟨λy hy=>?_,?_,λa ha hf=>?_⟩
 ·rcases List.mem_cons.mp hy with z|z
  ·cases z;exact h
  ·exact w.ok y z
 ·rw[jQ,X7];exact⟨n,w.nd,λa ha b hb e=>by subst e;exact h1 a ha hb⟩
 ·rw[jQ]at ha;rw[kQ]at hf;rcases List.mem_append.mp ha with ha|ha
  ·rcases List.mem_append.mp hf with hf|hf
   ·exact h4 a ha hf
   ·exact h2 a ha hf
  ·rcases List.mem_append.mp hf with hf|hf
   ·exact h3 a hf ha
   ·exact w.ds a ha hf
theorem World.consNo(w:World K H L)(h:x.ok K H)(ho:x.o=.no)(h3:∀a∈x.as,a∉j8 L):World K H (some x::L):=by
 have e1:x.own=[]:=by unfold Sl.own;rw[ho]
 have e2:x.frz=x.as:=by unfold Sl.frz;rw[ho]
 exact w.cons h (by rw[e1];exact Y9) (by rw[e1];exact λ_ z=>nomatch z) (by rw[e1];exact λ_ z=>nomatch z) (by rw[e2];exact h3) (by rw[e1];exact λ_ z=>nomatch z)
theorem World.consPu(w:World K H L)(h:x.ok K H)(e:x.as=[]):World K H (some x::L):=by
 have e1:∀a,a∉x.own:=λa ha=>by have:=Sl.own_as ha;rw[e]at this;exact nomatch this
 have e2:∀a,a∉x.frz:=λa ha=>by have:=Sl.frz_as ha;rw[e]at this;exact nomatch this
 have e3:x.own=[]:=List.eq_nil_iff_forall_not_mem.mpr e1;exact w.cons h (by rw[e3];exact Y9) (λa z=>absurd z (e1 a)) (λa z=>absurd z (e1 a)) (λa z=>absurd z (e2 a)) (λa z=>absurd z (e1 a))
theorem jvg{L:Ls}{i:Nat}{q:Option Sl}(h:some y∈L.set i q):q=some y\/some y∈L:=by
 rcases List.mem_or_eq_of_mem_set h with z|z
 ·exact .inr z
 ·exact .inl z.symm
theorem XQ{i:Nat}{a:Addr}(h:a∈j8 (L.set i (some x))):a∈x.own\/a∈j8 L:=by
 obtain⟨y,hy,ha⟩:=mem_owned.mp h;rcases jvg hy with z|z
 ·cases z;exact .inl ha
 ·exact .inr (mem_owned.mpr ⟨y,z,ha⟩)
theorem jkv{i:Nat}{a:Addr}(h:a∈jY (L.set i (some x))):a∈x.frz\/a∈jY L:=by
 obtain⟨y,hy,ha⟩:=mem_frozen.mp h;rcases jvg hy with z|z
 ·cases z;exact .inl ha
 ·exact .inr (mem_frozen.mpr ⟨y,z,ha⟩)
theorem jqy:∀{L:Ls} {i:Nat},(x.own++j8 L).Nodup->(j8 (L.set i (some x))).Nodup
 |[],_,h=>by simp
 |q::L,0,h=>by
  rw[List.set_cons_zero,jQ];have e:j8 (q::L)=q.elim [] Sl.own++j8 L:=by simp[j8]
  rw[e,X7]at h;obtain⟨h1,h2,h3⟩:=h;rw[X7]at h2 ⊢;exact⟨h1,h2.2.1,λa ha b hb=>h3 a ha b (lr9 _ hb)⟩
 |q::L,i+1,h=>by
  rw[List.set_cons_succ];have e:∀M:Ls,j8 (q::M)=q.elim [] Sl.own++j8 M:=λM=>by simp[j8]
  rw[e]at h ⊢;rw[X7]at h;obtain⟨h1,h2,h3⟩:=h;rw[X7]at h2;rw[X7];refine⟨h2.1,jqy (by rw[X7];exact⟨h1,h2.2.1,λa ha b hb=>h3 a ha b (lr9 _ hb)⟩),λa ha b hb e=>?_⟩;subst e;rcases XQ hb with z|z
  ·exact h3 a z a (ll9 _ ha) rfl
  ·exact h2.2.2 a ha a z rfl
theorem World.set{i:Nat}(w:World K H (some x::L)):World K H (L.set i (some x)):=by
 refine⟨λy hy=>?_,jqy (by have:=w.nd;rwa [jQ]at this),λa ha hf=>?_⟩
 ·rcases jvg hy with z|z
  ·cases z;exact w.head
  ·exact w.ok y (lc9 _ z)
 ·refine w.ds a ?_ ?_
  ·rw[jQ];exact List.mem_append.mpr (XQ ha)
  ·rw[kQ];exact List.mem_append.mpr (jkv hf)
theorem Step.set{i:Nat}:Step H (some x::L) H (L.set i (some x)) where
 keep:=λ_ _ h _=>h
 own:=λa ha=>.inl (by rw[jQ];exact List.mem_append.mpr (XQ ha))
 frz:=λa ha=>.inl (by rw[kQ];exact List.mem_append.mpr (jkv ha))
theorem Step.drop{q:Option Sl}:Step H (q::L) H L where
 keep:=λ_ _ h _=>h
 own:=λa ha=>.inl (by rw[show(q::L:Ls)=[q]++L from rfl,jZ];exact lr9 _ ha)
 frz:=λa ha=>.inl (by rw[show(q::L:Ls)=[q]++L from rfl,qw];exact lr9 _ ha)
theorem x4{i:Nat}(h:L[i]?=some (some x)):some x∈L:=Yi h
theorem Jv(x:Sl):x.let.own=[]/\x.let.frz=x.as/\x.let.as=x.as:=⟨rfl,rfl,rfl⟩
theorem kx9{i:Nat}{a:Addr}(h:a∈j8 (L.set i (some x.let))):a∈j8 L:=by
 rcases XQ h with z|z
 ·exact nomatch z
 ·exact z
theorem qj3:∀{L:Ls} {i:Nat},(j8 L).Nodup->(∀a∈j8 L,a∉jY L)->L[i]?=some (some x)->∀a∈x.as,a∉j8 (L.set i (some x.let))
 | [],_,_,_,h,_,_=>by simp at h
 | q::L,0,nd,ds,h,a,ha=>by
  have e:q=some x:=by simpa using h
  subst e;rw[List.set_cons_zero,jQ];intro hm;have hm:a∈j8 L:=by simpa [Jv]using hm
  rcases Sl.as_of ha with z|z
  ·rw[jQ,X7]at nd;exact nd.2.2 a z a hm rfl
  ·exact ds a (by rw[jQ];exact lr9 _ hm) (by rw[kQ];exact ll9 _ z)
 | q::L,i+1,nd,ds,h,a,ha=>by
  have h:L[i]?=some (some x):=by simpa using h
  rw[List.set_cons_succ];have e:∀M:Ls,j8 (q::M)=q.elim [] Sl.own++j8 M:=λM=>by simp[j8]
  have f:jY (q::L)=q.elim [] Sl.frz++jY L:=by simp[jY]
  rw[e];intro hm;rw[e,X7]at nd;rcases List.mem_append.mp hm with hm|hm
  ·rcases Sl.as_of ha with z|z
   ·exact nd.2.2 a hm a (mem_owned.mpr ⟨x,x4 h,z⟩) rfl
   ·exact ds a (by rw[e];exact ll9 _ hm) (by rw[f];exact lr9 _ (mem_frozen.mpr ⟨x,x4 h,z⟩))
  ·exact qj3 (L:=L) nd.2.1 (λb hb hf=>ds b (by rw[e];exact lr9 _ hb) (by rw[f];exact lr9 _ hf)) h a ha hm
theorem K1(h:x.ok K H):x.let.ok K H:=RepO.wk h
theorem World.let{i:Nat}(w:World K H L)(h:L[i]?=some (some x)):World K H (L.set i (some x.let)):=by
 have out:=qj3 w.nd w.ds h;refine⟨λy hy=>?_,jqy (by rw[(Jv x).1];exact w.nd),λa ha hf=>?_⟩
 ·rcases jvg hy with z|z
  ·cases z;exact K1 (w.ok x (x4 h))
  ·exact w.ok y z
 ·rcases jkv hf with z|z
  ·exact out a z ha
  ·exact w.ds a (kx9 ha) z
theorem World.read{i:Nat}(w:World K H L)(h:L[i]?=some (some x)):World K H (some x.let::L.set i (some x.let)):=
 (w.let h).consNo (K1 (w.ok x (x4 h))) rfl (qj3 (x:=x) w.nd w.ds h)
theorem Step.read{i:Nat}(h:L[i]?=some (some x)):Step H L H (some x.let::L.set i (some x.let)) where
 keep:=λ_ _ h _=>h
 own:=λa ha=>.inl (by rw[jQ,(Jv x).1]at ha;exact kx9 ha)
 frz:=λa ha=>by
  have hx:=x4 h;have q:∀a∈x.as,a∈jY L\/a∈j8 L\/H a=none:=λa ha=>by
   rcases Sl.as_of ha with z|z
   ·exact .inr (.inl (mem_owned.mpr ⟨x,hx,z⟩))
   ·exact .inl (mem_frozen.mpr ⟨x,hx,z⟩)
  rw[kQ]at ha;rcases List.mem_append.mp ha with z|z
  ·exact q a z
  ·rcases jkv z with z|z
   ·exact q a z
   ·exact .inl z
end
inductive Mt:En->L2.St->Ls->Prop
 |nil:Mt [] [] []
 |un {E:En} {σ:L2.St} {L:Ls} {y:Option V}:Mt E σ L->Mt (none::E) (y :: σ) (none::L)
 |cons {E:En} {σ:L2.St} {L:Ls} {x:Sl}:Mt E σ L->Mt (some (x.o,x.d)::E) (some x.v :: σ) (some x::L)
theorem Mt.get:∀{E:En} {σ:L2.St} {L:Ls} {i:Nat} {o:Own} {d:D},Mt E σ L->E[i]?=some (some (o,d))->∃x,L[i]?=some (some x)/\x.o=o/\x.d=d/\σ[i]?=some (some x.v)
 |_,_,_,_,_,_,.nil,h=>by simp at h
 |_,_,_,0,_,_,.un _,h=>by simp at h
 |_,_,_,i+1,_,_,.un m,h=>by simpa using m.get (i:=i) (by simpa using h)
 |_,_,_,0,_,_,.cons (x:=x) m,h=>by
  simp only[List.getElem?_cons_zero,Option.some.injEq,Prod.mk.injEq]at h;exact⟨x,by simp,h.1,h.2,by simp⟩
 |_,_,_,i+1,_,_,.cons m,h=>by simpa using m.get (i:=i) (by simpa using h)
theorem Mt.set{x:Sl}:∀{E:En} {σ:L2.St} {L:Ls} (i:Nat),Mt E σ L->Mt (E.set i (some (x.o,x.d))) (σ.set i (some x.v)) (L.set i (some x))
 |_,_,_,_,.nil=>.nil
 |_,_,_,0,.un m=>.cons m
 |_,_,_,i+1,.un m=>.un (m.set i)
 |_,_,_,0,.cons m=>.cons m
 |_,_,_,i+1,.cons m=>.cons (m.set i)
theorem Mt.let{x:Sl}:∀{E:En} {σ:L2.St} {L:Ls} {i:Nat},Mt E σ L->L[i]?=some (some x)->Mt (E.set i (some (.no,x.d))) σ (L.set i (some x.let))
 |_,_,_,_,.nil,h=>by simp at h
 |_,_,_,0,.un m,h=>by simp at h
 |_,_,_,i+1,.un m,h=>.un (m.let (i:=i) (by simpa using h))
 |_,_,_,0,.cons (x:=y) m,h=>by
  have e:y=x:=by simpa using h
  subst e;exact .cons (x:=y.let) m
 |_,_,_,i+1,.cons m,h=>.cons (m.let (i:=i) (by simpa using h))
theorem Mt.len:∀{E:En} {σ:L2.St} {L:Ls},Mt E σ L->E.length=σ.length/\L.length=σ.length
 |_,_,_,.nil=>⟨rfl,rfl⟩
 |_,_,_,.un m=>by simp[m.len]
 |_,_,_,.cons m=>by simp[m.len]
def sls(L:Ls):List Sl:=L.filterMap id
theorem K9(L:Ls):j8 L=(sls L).flatMap Sl.own:=by
 induction L with
 |nil=>rfl
 |cons q L ih=>
  cases q with
  |none=>rw[qqb,ih];rfl
  |some x=>rw[jQ,ih];rfl
theorem V0(L:Ls):jY L=(sls L).flatMap Sl.frz:=by
 induction L with
 |nil=>rfl
 |cons q L ih=>
  cases q with
  |none=>rw[qj7,ih];rfl
  |some x=>rw[kQ,ih];rfl
theorem mem_sls{L:Ls}{x:Sl}:x∈sls L↔some x∈L:=by simp[sls]
@[simp] theorem QQ (L T:Ls):sls (L++T)=sls L++sls T:=by simp[sls]
@[simp] theorem qzo (L:Ls):sls (none::L)=sls L:=rfl
@[simp] theorem qjo (x:Sl)(L:Ls):sls (some x::L)=x::sls L:=rfl
@[simp] theorem wqn:sls []=[]:=rfl
@[simp] theorem wqo (T:List Sl):sls (T.map some)=T:=by simp[sls]
@[simp] theorem vqv (k:Nat):sls (List.replicate k none)=[]:=by
 induction k with
 |zero=>rfl
 |succ k ih=>rw[List.replicate_succ,qzo,ih]
theorem jqu{α β:Type}(f:α->List β){l l':List α}(h:l.Sublist l'):(l.flatMap f).Sublist (l'.flatMap f):=by
 induction h with
 |slnil=>exact List.Sublist.refl _
 |cons a _ ih=>rw[List.flatMap_cons];exact List.Sublist.trans ih (List.sublist_append_right _ _)
 |cons_cons a _ ih=>rw[List.flatMap_cons,List.flatMap_cons];exact List.Sublist.append (List.Sublist.refl _) ih
section
variable {K:PySem.W.Frag}{H H':Hp}{L L' M M':Ls}
theorem World.same(w:World K H L)(p:(sls L).Perm (sls L')):World K H L':=by
 have po:(j8 L).Perm (j8 L'):=by rw[K9,K9];exact p.flatMap_right _
 have pf:(jY L).Perm (jY L'):=by rw[V0,V0];exact p.flatMap_right _
 exact⟨λx hx=>w.ok x (mem_sls.mp (p.mem_iff.mpr (mem_sls.mpr hx))),po.nodup_iff.mp w.nd,λa ha hf=>w.ds a (po.mem_iff.mpr ha) (pf.mem_iff.mpr hf)⟩
theorem Step.same(s:Step H L H' L')(p:(sls L).Perm (sls M))(p':(sls L').Perm (sls M')):Step H M H' M':=by
 have po:(j8 L).Perm (j8 M):=by rw[K9,K9];exact p.flatMap_right _
 have pf:(jY L).Perm (jY M):=by rw[V0,V0];exact p.flatMap_right _
 have po':(j8 L').Perm (j8 M'):=by rw[K9,K9];exact p'.flatMap_right _
 have pf':(jY L').Perm (jY M'):=by rw[V0,V0];exact p'.flatMap_right _
 exact⟨λa ob h hn=>s.keep a ob h λz=>hn (po.mem_iff.mp z),λa ha=>(s.own a (po'.mem_iff.mpr ha)).imp (λz=>po.mem_iff.mp z) id,
  λa ha=>(s.frz a (pf'.mem_iff.mpr ha)).imp (λz=>pf.mem_iff.mp z) λz=>z.imp (λz=>po.mem_iff.mp z) id⟩
theorem World.sub(w:World K H L)(p:(sls L').Sublist (sls L)):World K H L':=by
 refine⟨λx hx=>w.ok x (mem_sls.mp (p.subset (mem_sls.mpr hx))),?_,λa ha hf=>w.ds a ?_ ?_⟩
 ·have:=w.nd;rw[K9]at this ⊢;exact(jqu _ p).nodup this
 ·rw[K9]at ha ⊢;exact(jqu _ p).subset ha
 ·rw[V0]at hf ⊢;exact(jqu _ p).subset hf
theorem Step.sub(s:Step H L H' L')(p:(sls M).Sublist (sls L')):Step H L H' M:=by
 refine⟨s.keep,λa ha=>s.own a ?_,λa ha=>s.frz a ?_⟩
 ·rw[K9]at ha ⊢;exact(jqu _ p).subset ha
 ·rw[V0]at ha ⊢;exact(jqu _ p).subset ha
end
theorem jz5:∀{L:Ls} {j:Nat},(sls (at' L j::L.set j none)).Perm (sls L)
 | [],j=>by simp[at',sls]
 | q::L,0=>by
  cases q with
  |none=>simp[at',sls]
  |some x=>simp[at',sls]
 | q::L,j+1=>by
  have ih:=jz5 (L:=L) (j:=j);have e:at' (q::L) (j+1)=at' L j:=by simp[at']
  rw[e,List.set_cons_succ];have e2:∀(a b:Option Sl) (M:Ls),(sls (a::b::M)).Perm (sls (b::a::M)):=λa b M=>by
   cases a<;>cases b<;>simp[sls]
   exact List.Perm.swap ..
  refine(e2 _ _ _).trans ?_;cases q with
  |none=>simpa [sls]using ih
  |some y=>simpa [sls]using ih
theorem qkp:∀{R:List Nat} {L:Ls},R.Nodup->(sls (R.map (at' L)++clr R L)).Perm (sls L)
 | [],L,_=>by simp[clr]
 | j::R,L,h=>by
  rw[Yy]at h;have e:R.map (at' L)=R.map (at' (L.set j none)):=by
   apply List.map_congr_left;intro i hi;have:j≠i:=λe=>h.1 (e▸hi)
   unfold at';rw[Xu this]
  rw[List.map_cons,List.cons_append,clr,e];have ih:=qkp (R:=R) (L:=L.set j none) h.2;refine List.Perm.trans ?_ (jz5 (L:=L) (j:=j));cases hq:at' L j with
  |none=>simpa [sls]using ih
  |some x=>simpa [sls]using ih
theorem qxr{α:Type}:∀{R:List Nat} {L:List (Option α)},(clr R L).length=L.length
 |[],_=>rfl
 |j::R,L=>by rw[clr,qxr,Ys]
theorem qxs{α:Type}:∀{R:List Nat} {L:List (Option α)} {j:Nat},j∈R->at' (clr R L) j=none
 | [],_,_,h=>by cases h
 | i :: R,L,j,h=>by
  rw [clr]
  by_cases hR:j∈R
  ·exact qxs hR
  ·have e:j=i:=by simpa [hR]using h
   subst e;have gen:∀{R:List Nat} {M:List (Option α)},j∉R->at' (clr R M) j=at' M j:=by
    intro R
    induction R with
    |nil=>intro M _;rfl
    |cons r R ih=>
     intro M h;rw[Xh,not_or]at h;rw[clr,ih h.2];unfold at';rw[Xu (Ne.symm h.1)]
   rw[gen hR];unfold at'
   by_cases hl:j<L.length
   ·rw[Y5 hl];rfl
   ·rw[List.set_eq_of_length_le (by omega),Yp (by omega)];rfl
theorem kzd:∀{R:List Nat} {B L:Ls},R.Nodup->(∀j∈R,at' L j=none)->(∀j∈R,j<L.length)->B.length=R.length->(sls (back R B L)).Perm (sls (B++L))
 | [],B,L,_,_,_,hl=>by
  have:B=[]:=by simpa using hl
  subst this;simp [back]
 | j :: R,[],L,_,_,_,hl=>by simp at hl
 | j :: R,q::B,L,hn,hz,hr,hl=>by
  rw [Yy]at hn;rw [back];have hj:=hr j X3;have ih:=kzd (R:=R) (B:=B) (L:=L.set j q) hn.2 (λi hi=>by
   have:j≠i:=λe=>hn.1 (e▸hi)
   unfold at';rw [Xu this];exact hz i (lc9 _ hi)) (λi hi=>by rw[Ys];exact hr i (lc9 _ hi)) (by simpa using hl)
  refine ih.trans ?_;have sp:∀{M:Ls} {i:Nat},at' M i=none->i<M.length->(sls (M.set i q)).Perm (sls (q::M)):=by
   intro M
   induction M with
   | nil=>intro i _ h;simp at h
   | cons r M ihM=>
    intro i h1 h2;cases i with
    | zero=>
     have:r=none:=by simpa [at']using h1
     subst this;cases q<;>simp[sls]
    | succ i=>
     have:=ihM (i:=i) (by simpa [at']using h1) (by simpa using h2);rw[List.set_cons_succ];cases r with
     | none=>cases q<;>simpa [sls]using this
     | some y=>
      cases q with
      |none=>simpa [sls]using this
      |some x=>
       simp only[qjo]at this ⊢;exact(this.cons y).trans (List.Perm.swap ..)
  rw[QQ,List.cons_append];have h1:=sp (hz j X3) hj;have h2:(sls B++sls (L.set j q)).Perm (sls B++sls (q::L)):=h1.append_left _;refine h2.trans ?_;cases q with
  |none=>simp
  |some x=>
   simp only[qjo,QQ];exact List.perm_middle
section
variable {K:PySem.W.Frag}{H H1 H2 H':Hp}{L L1 L' T:Ls}{x y:Sl}
theorem WX(p:L.Perm L'):(j8 L).Perm (j8 L'):=p.flatMap_right _
theorem jz0(p:L.Perm L'):(jY L).Perm (jY L'):=p.flatMap_right _
theorem World.perm(w:World K H L)(p:L.Perm L'):World K H L':=
 ⟨λx hx=>w.ok x (p.mem_iff.mpr hx),(WX p).nodup_iff.mp w.nd,λa ha hf=>w.ds a ((WX p).mem_iff.mpr ha) ((jz0 p).mem_iff.mpr hf)⟩
theorem Step.perm(s : Step H L H' L'){M M' : Ls}(p : L.Perm M)(p' : L'.Perm M'): Step H M H' M':=
  ⟨λa ob h hn=>s.keep a ob h λz=>hn ((WX p).mem_iff.mp z),
   λa ha=>(s.own a ((WX p').mem_iff.mpr ha)).imp (λz=>(WX p).mem_iff.mp z) id,
   λa ha=>(s.frz a ((jz0 p').mem_iff.mpr ha)).imp (λz=>(jz0 p).mem_iff.mp z) λz=>z.imp (λz=>(WX p).mem_iff.mp z) id⟩
theorem Step.frm(s:Step H L H' L'):Step H (L++T) H' (L'++T) where
 keep:=λa ob h hn=>s.keep a ob h λz=>hn (by rw[jZ];exact ll9 _ z)
 own:=λa ha=>by
  rw[jZ]at ha ⊢;rcases List.mem_append.mp ha with z|z
  ·exact(s.own a z).imp (ll9 _) id
  ·exact .inl (lr9 _ z)
 frz:=λa ha=>by
  rw[qw]at ha ⊢;rw[jZ];rcases List.mem_append.mp ha with z|z
  ·exact(s.frz a z).imp (ll9 _) λz=>z.imp (ll9 _) id
  ·exact .inl (lr9 _ z)
theorem wk4(w:World K H (T++L))(s:Step H L H' L')(w':World K H' L'):World K H' (T++L')/\Step H (T++L) H' (T++L'):=by
 have w1:World K H (L++T):=w.comm;exact⟨(s.frame w1 w' w1.left).comm,s.frm.perm List.perm_append_comm List.perm_append_comm⟩
end
theorem ex8{α β γ:Type}{P:Prop}{a b c d e:α->β->γ->Prop}(h:∃x y z,a x y z/\b x y z/\c x y z/\d x y z/\e x y z)(f:∀x y z,a x y z->b x y z->c x y z->d x y z->e x y z->P):P:=
 h.elim λx h=>h.elim λy h=>h.elim λz h=>f x y z h.1 h.2.1 h.2.2.1 h.2.2.2.1 h.2.2.2.2
theorem ex7{α β γ:Type}{P:Prop}{a b c d:α->β->γ->Prop}(h:∃x y z,a x y z/\b x y z/\c x y z/\d x y z)(f:∀x y z,a x y z->b x y z->c x y z->d x y z->P):P:=
 h.elim λx h=>h.elim λy h=>h.elim λz h=>f x y z h.1 h.2.1 h.2.2.1 h.2.2.2
theorem kZ{X:Cx}{e:Expr}{t t':TE}(h:PE X e t)(w:∀ σ H Q,t' σ H Q->t σ H Q):PE X e t':=λpins s σ H Q I q=>h pins s σ H Q I (w σ H Q q)
theorem qjy{X:Cx}{e:Expr}{t t':TT}(h:PT X e t)(w:∀ σ H Q,t' σ H Q->t σ H Q):PT X e t':=λpins s σ H Q I q=>h pins s σ H Q I (w σ H Q q)
theorem zw{X:Cx}{e:Stmt}{t t':TS}(h:PS X e t)(w:∀D σ H,t' D σ H->t D σ H):PS X e t':=λpins s σ H D I q=>h pins s σ H D I (w D σ H q)
theorem qw7{X:Cx}{e:List Stmt}{t t':TS}(h:PSs X e t)(w:∀D σ H,t' D σ H->t D σ H):PSs X e t':=λpins s σ H D I q=>h pins s σ H D I (w D σ H q)
structure Fx0 where
 K:PySem.W.Frag
 mg:Str->Option Value
 EX:XK
noncomputable def Xc{α:Type}(Z:Fx0)(σ:L2.St)(H:Hp)(L:Ls)(r:Res α):Prop:=∀E' c,r=.exc E' c->∀C L' H',Z.mg c=some (.ref C)->Mt E' σ L'->World Z.K H' L'->Step H L H' L'->Z.EX (.ref C) none H'
theorem Xc.step{α:Type}{Z:Fx0}{σ:L2.St}{H H1:Hp}{L L1:Ls}{r:Res α}(x:Xc Z σ H L r)(s:Step H L H1 L1):Xc Z σ H1 L1 r:=λE' c e C L' H' hm m w s'=>x E' c e C L' H' hm m w (s.trans s')
theorem Xc.map{α β:Type}{Z:Fx0}{σ:L2.St}{H:Hp}{L:Ls}{r:Res α}{E':En}{c:Str}(x:Xc Z σ H L r)(e:r=.exc E' c):Xc Z σ H L (.exc E' c:Res β):=λE1 c1 e1=>by
 injection e1 with h1 h2;subst h1 h2;exact x _ _ e
noncomputable def tQ(Z:Fx0)(q:Bool)(c:Ex):TE:=fun σ H Q=>∃E L r,Mt E σ L/\World Z.K H L/\c E=some r/\Xc Z σ H L r /\
 ∀E' a,r=.ok E' a->∀(x:Sl) L' H',x.o=a.1->x.d=a.2->Mt E' σ L'->World Z.K H' (some x::L')->Step H L H' (some x::L')->(q=true->k9 H H'/\∀b∈x.own,H b=none)->Q x.v H'
def Src(H:Hp)(L:Ls)(as:List Addr):Prop:=∀b∈as,b∈jY L\/b∈j8 L\/H b=none
theorem Src.back{H H1:Hp}{L L1:Ls}{as:List Addr}(h:Src H1 L1 as)(s:Step H L H1 L1):Src H L as:=λb hb=>by
 rcases h b hb with z|z|z
 ·exact s.frz b z
 ·exact .inr (s.own b z)
 ·by_cases ho:b∈j8 L
  ·exact .inr (.inl ho)
  ·refine .inr (.inr ?_);cases e:H b with
   |none=>rfl
   |some ob=>rw[s.keep b ob e ho]at z;cases z
noncomputable def tV(Z:Fx0)(q:Bool)(c:Ex):TE:=fun σ H Q=>∃E L r,Mt E σ L/\World Z.K H L/\c E=some r/\Xc Z σ H L r /\
 ∀E' a,r=.ok E' a->∀(x:Sl) L' H',x.o=a.1->x.d=a.2->Mt E' σ L'->World Z.K H' L'->x.ok Z.K H'->(∀b∈x.frz,b∉j8 L')->Src H L x.as->Step H L H' L'->(q=true->k9 H H')->Q x.v H'
def QE(X:Cx)(Z:Fx0)(q:Bool)(c:Ex)(e:Expr):Prop:=PE X e (tQ Z q c)
def QV(X:Cx)(Z:Fx0)(q:Bool)(c:Ex)(e:Expr):Prop:=PE X e (tV Z q c)
section
variable {X:Cx}{Z:Fx0}{q qa qb:Bool}{a b c:Ex}{e ea eb:Expr}{pos:Pos}{α:Type}{σ:L2.St}{H:Hp}{L:Ls}{E:En}
theorem ww{β:Type}{m:Option (Res α)}{F:En->α->Option (Res β)}{r:Res β}(h:bnd m F=some r):(∃E1 x,m=some (.ok E1 x)/\F E1 x=some r)\/∃E1 c,m=some (.exc E1 c)/\r=.exc E1 c:=by
 cases m with
 |none=>cases h
 |some q=>
  cases q with
  |ok E1 x=>exact .inl ⟨E1,x,rfl,h⟩
  |exc E1 c=>exact .inr ⟨E1,c,rfl,(oq9 h).symm⟩
theorem Wz{F:En->Sd->Option (Res α)}{r:Res α}{G:VK}(m:Mt E σ L)(w:World Z.K H L)(h:bnd (a E) F=some r)(xc:Xc Z σ H L r)
  (k:∀E1 s,F E1 s=some r->∀(x:Sl) L1 H1,x.o=s.1->x.d=s.2->Mt E1 σ L1->World Z.K H1 (some x::L1)->Step H L H1 (some x::L1)->(q=true->k9 H H1/\∀b∈x.own,H b=none)->G x.v H1):tQ Z q a σ H G:=by
 rcases ww h with⟨E1,s,h1,h2⟩|⟨E1,c,h1,h2⟩
 ·exact⟨E,L,_,m,w,h1,(λ_ _ z=>by cases z),λE' s' z x L' H' e1 e2 m' w' st sm=>by
   injection z with z1 z2;subst z1 z2;exact k _ _ h2 x L' H' e1 e2 m' w' st sm⟩
 ·exact⟨E,L,_,m,w,h1,xc.map h2,λE' s' z=>by cases z⟩
theorem wq{F:En->Sd->Option (Res α)}{r:Res α}{G:VK}(m:Mt E σ L)(w:World Z.K H L)(h:bnd (a E) F=some r)(xc:Xc Z σ H L r)
  (k:∀E1 s,F E1 s=some r->∀(x:Sl) L1 H1,x.o=s.1->x.d=s.2->Mt E1 σ L1->World Z.K H1 L1->x.ok Z.K H1->(∀b∈x.frz,b∉j8 L1)->Src H L x.as->Step H L H1 L1->(q=true->k9 H H1)->G x.v H1):tV Z q a σ H G:=by
 rcases ww h with⟨E1,s,h1,h2⟩|⟨E1,c,h1,h2⟩
 ·exact⟨E,L,_,m,w,h1,(λ_ _ z=>by cases z),λE' s' z x L' H' e1 e2 m' w' ok fr sr st sm=>by
   injection z with z1 z2;subst z1 z2;exact k _ _ h2 x L' H' e1 e2 m' w' ok fr sr st sm⟩
 ·exact⟨E,L,_,m,w,h1,xc.map h2,λE' s' z=>by cases z⟩
theorem W3{x:Sl}{K:PySem.W.Frag}{H1 H2:Hp}{L1 L2':Ls}(ok:x.ok K H1)(fr:∀b∈x.frz,b∉j8 L1)(st:Step H1 L1 H2 L2')(sm:k9 H1 H2):x.ok K H2/\∀b∈x.frz,b∉j8 L2':=
 ⟨RepO.kp ok (Kp.of_same sm),λb hb ho=>(st.own b ho).elim (fr b hb) λz=>ok.some (Sl.frz_as hb) z⟩
theorem xw{x:Option α}{r:Res α}(h:val E x=some r):∃y,x=some y/\r=.ok E y:=by
 cases x with
 |none=>cases h
 |some y=>exact⟨y,rfl,(oq9 h).symm⟩
theorem QE.weak(h:QE X Z true c e):QE X Z q c e:=kZ h fun σ H Q au=>ex8 au λE L r m w hc xc k=>⟨E,L,r,m,w,hc,xc,λE' s z x L' H' e1 e2 m' w' st sm=>k E' s z x L' H' e1 e2 m' w' st λ_=>sm rfl⟩
theorem kju{x:Sl}{H1:Hp}{L1:Ls}(st:Step H L H1 (some x::L1)):Src H L x.as:=λb hb=>by
 rcases Sl.as_of hb with z|z
 ·exact .inr (st.own b (by rw[jQ];exact ll9 _ z))
 ·exact st.frz b (by rw[kQ];exact ll9 _ z)
theorem j4(h:QE X Z q c e):QV X Z q (vE c) e:=kZ h fun σ H Q au=>ex8 au λE L r m w hc xc k=>
 Wz m w hc xc λE1 s h1 x L1 H1 e1 e2 m1 w1 st sm=>by
  cases oq9 h1;exact k _ _ rfl x.let L1 H1 rfl e2 m1 w1.tail (K1 w1.head) (λb hb=>w1.apart b hb) (kju (x:=x) st) (st.trans Step.drop) λhq=>(sm hq).1
theorem V5{x:Sl}{H1:Hp}{L1:Ls}(st:Step H L H1 L1)(sr:Src H L x.as)(ho:x.own=[]):Step H L H1 (some x::L1) where
 keep:=st.keep
 own:=λb hb=>by rw[jQ,ho]at hb;exact st.own b hb
 frz:=λb hb=>by
  rw[kQ]at hb;rcases List.mem_append.mp hb with z|z
  ·exact sr b (Sl.frz_as z)
  ·exact st.frz b z
theorem qwi{x:Sl}(h:x.o=.no):x.own=[]:=by unfold Sl.own;rw[h]
theorem kxy{x:Sl}(h:x.o=.no):x.frz=x.as:=by unfold Sl.frz;rw[h]
theorem vvq{x:Sl}(h:x.as=[]):x.own=[]:=List.eq_nil_iff_forall_not_mem.mpr λa ha=>by have:=Sl.own_as ha;rw[h]at this;exact nomatch this
theorem k6(h:QV X Z q c e):QE X Z q (cH c) e:=kZ h fun σ H Q au=>ex8 au λE L r m w hc xc k=>
 wq m w hc xc λE1 s h1 x L1 H1 e1 e2 m1 w1 ok fr sr st sm=>by
  by_cases ho:s.1=.no
  ·rw[Xf ho]at h1;cases oq9 h1;have eo:x.o=.no:=e1.trans ho;exact k _ _ rfl x L1 H1 eo e2 m1 (w1.consNo ok eo λb hb=>fr b (by rw[kxy eo];exact hb)) (V5 st sr (qwi eo)) λhq=>⟨sm hq,by rw[qwi eo];exact λ_ z=>(nomatch z)⟩
  ·rw[Xm ho]at h1
   by_cases hp:s.2.pure=true
   ·rw[Xf hp]at h1;cases oq9 h1;obtain⟨z,rp⟩:=RepL.pu (g':=false) (RepO.wk ok) (by rw[e2];exact hp);exact k _ _ rfl ⟨.dp,x.d,x.v,[]⟩ L1 H1 rfl e2 m1 (w1.consPu rp rfl) (V5 (x:=⟨.dp,x.d,x.v,[]⟩) st (λb hb=>nomatch hb) rfl) λhq=>⟨sm hq,λ_ z=>(nomatch z)⟩
   ·rw[Xm hp]at h1;cases h1
theorem q_C{d:D}{v:V}(h:PE X e (tC v))(hr:∀H,RepL Z.K H false d v []):QE X Z true (cC d) e:=kZ h fun σ H Q au=>ex8 au λE L r m w hc xc k=>by
 cases oq9 hc;exact k _ _ rfl ⟨.dp,d,v,[]⟩ L H rfl rfl m (w.consPu (hr H) rfl) (V5 (x:=⟨.dp,d,v,[]⟩) Step.refl (λb hb=>nomatch hb) rfl) λ_=>⟨λ_ _ z=>z,λ_ z=>(nomatch z)⟩
theorem q_V{i:Nat}(h:PE X e (J8 i)):QE X Z true (cV i) e:=kZ h fun σ H Q au=>ex8 au λE L r m w hc xc k=>by
 unfold cV at hc
 split at hc
 ·rename_i o d hE;cases oq9 hc;obtain⟨x,h1,h2,h3,h4⟩:=m.get hE;refine⟨x.v,h4,k _ _ rfl x.let _ H rfl h3 ?_ (w.read h1) (Step.read h1) λ_=>⟨λ_ _ z=>z,λ_ z=>(nomatch z)⟩⟩;have:=m.let h1
  rwa [h3]at this
 ·cases hc
theorem Vq:∀{E:En} {σ:L2.St} {L:Ls} (j:Nat),Mt E σ L->Mt (E.set j none) σ (L.set j none):=by
 intro E σ L j m
 induction m generalizing j with
 |nil=>exact .nil
 |un m ih=>cases j with
  |zero=>exact .un m
  |succ j=>exact .un (ih j)
 |cons m ih=>cases j with
  |zero=>exact .un m
  |succ j=>exact .cons (ih j)
theorem jwt{x:Sl}:∀{L:Ls} {i:Nat},L[i]?=some (some x)->(none::L).Perm (some x::L.set i none)
 |[],_,h=>by simp at h
 |q::L,0,h=>by
  have e:q=some x:=by simpa using h
  subst e;exact List.Perm.swap ..
 |q::L,i+1,h=>by
  have:=jwt (L:=L) (i:=i) (by simpa using h);rw[List.set_cons_succ];exact(List.Perm.swap ..).trans ((this.cons q).trans (List.Perm.swap ..))
theorem wv3{i:Nat}(h:PE X e (J8 i)):QE X Z false (cMv i) e:=kZ h fun σ H Q au=>ex8 au λE L r m w hc xc k=>by
 unfold cMv at hc
 split at hc
 ·rename_i s hE;cases oq9 hc;obtain⟨o,d⟩:=s;obtain⟨x,h1,h2,h3,h4⟩:=m.get hE;have wn:World Z.K H (none::L):=⟨λy hy=>w.ok y (by simpa using hy),by simpa using w.nd,by simpa using w.ds⟩;have sn:Step H L H (none::L):=⟨λ_ _ z _=>z,λa z=>.inl (by simpa using z),λa z=>.inl (by simpa using z)⟩;exact⟨x.v,h4,k _ _ rfl x _ H h2 h3 (Vq i m) (wn.perm (jwt h1)) (sn.trans (Step.refl.perm (List.Perm.refl _) (jwt h1))) λz=>(nomatch z)⟩
 ·cases hc
theorem q_vV{i:Nat}(h:PE X e (J8 i)):QV X Z true (vV i) e:=kZ h fun σ H Q au=>ex8 au λE L r m w hc xc k=>by
 unfold vV at hc
 split at hc
 ·rename_i s hE;cases oq9 hc;obtain⟨o,d⟩:=s;obtain⟨x,h1,h2,h3,h4⟩:=m.get hE;have hx:=x4 h1;refine⟨x.v,h4,k _ _ rfl x L H h2 h3 m w (w.ok x hx) (λb hb ho=>w.ds b ho (mem_frozen.mpr ⟨x,hx,hb⟩)) (λb hb=>?_) Step.refl λ_=>λ_ _ z=>z⟩;rcases Sl.as_of hb with z|z
  ·exact .inr (.inl (mem_owned.mpr ⟨x,hx,z⟩))
  ·exact .inl (mem_frozen.mpr ⟨x,hx,z⟩)
 ·cases hc
structure Out (K:PySem.W.Frag)(H H':Hp)(z:Sl)(fr:List Addr):Prop where
 same:k9 H H'
 ok:z.ok K H'
 new:∀b∈z.own,H b=none
 nd:z.own.Nodup
 fr:∀b∈z.frz,b∈fr
noncomputable def Ad1(K:PySem.W.Frag)(r:V->Hp->VK->Prop)(f:Sd->Option Sd):Prop:=∀(H:Hp) (x:Sl) (s:Sd) (Q:VK),x.ok K H->f (x.o,x.d)=some s->(∀(z:Sl) H',z.o=s.1->z.d=s.2->Out K H H' z x.frz->Q z.v H')->r x.v H Q
noncomputable def Ad2(K:PySem.W.Frag)(r:R2)(f:Sd->Sd->Option Sd):Prop:=∀(H:Hp) (x y:Sl) (s:Sd) (Q:VK),x.ok K H->y.ok K H->f (x.o,x.d) (y.o,y.d)=some s->(∀(z:Sl) H',z.o=s.1->z.d=s.2->Out K H H' z (x.frz++y.frz)->Q z.v H')->r x.v y.v H Q
theorem kvt{K:PySem.W.Frag}{H H':Hp}{d:D}{v:V}{fr:List Addr}(s:k9 H H')(r:RepL K H' false d v []):Out K H H' ⟨.dp,d,v,[]⟩ fr:=⟨s,r,λ_ h=>(nomatch h),Y9,λ_ h=>(nomatch h)⟩
theorem xj{H:Hp}:k9 H H:=λ_ _ z=>z
theorem q9{H H1 H2:Hp}(a:k9 H H1)(b:k9 H1 H2):k9 H H2:=λc ob h=>b c ob (a c ob h)
theorem Kk{z:Sl}{fr:List Addr}{H1 H2:Hp}{L1:Ls}(w:World Z.K H1 L1)(st:Step H L H1 L1)(o:Out Z.K H1 H2 z fr)(ap:∀b∈fr,b∉j8 L1)(al:∀b∈fr,H1 b≠none)(sr:Src H L fr):
  World Z.K H2 (some z::L1)/\Step H L H2 (some z::L1):=by
 have w2:World Z.K H2 L1:=⟨λx hx=>RepO.kp (w.ok x hx) (Kp.of_same o.same),w.nd,w.ds⟩;refine⟨w2.cons o.ok o.nd (λb hb ho=>w.own_some ho (o.new b hb)) (λb hb hf=>w.frz_some hf (o.new b hb)) (λb hb=>ap b (o.fr b hb)) (λb hb hf=>al b (o.fr b hf) (o.new b hb)),?_⟩;refine⟨λb ob h hn=>o.same b ob (st.keep b ob h hn),λb hb=>?_,λb hb=>?_⟩
 ·rw[jQ]at hb;rcases List.mem_append.mp hb with z|z
  ·by_cases ho:b∈j8 L
   ·exact .inl ho
   ·refine .inr ?_;cases e:H b with
    |none=>rfl
    |some ob=>have:=o.new b z;rw[st.keep b ob e ho]at this;cases this
  ·exact st.own b z
 ·rw[kQ]at hb;rcases List.mem_append.mp hb with z|z
  ·exact sr b (o.fr b z)
  ·exact st.frz b z
theorem W0{as bs:List Addr}(h:Src H L as)(hb:∀b∈bs,b∈as):Src H L bs:=λb z=>h b (hb b z)
theorem qvc{as bs:List Addr}(h:Src H L as)(h':Src H L bs):Src H L (as++bs):=λb z=>(List.mem_append.mp z).elim (h b) (h' b)
theorem J5{H H1:Hp}{b:Addr}(s:k9 H H1)(h:H1 b=none):H b=none:=by
 cases e:H b with
 |none=>rfl
 |some ob=>rw[s b ob e]at h;cases h
theorem Qz{r:V->Hp->VK->Prop}{f:Sd->Option Sd}(ad:Ad1 Z.K r f){Q:VK}(h:tQ Z q (cF1 f a) σ H Q):tUn r (tV Z q a) σ H Q:=by
 obtain⟨E,L,R,m,w,hc,xc,k⟩:=h;refine wq m w hc xc λE1 s h1 x L1 H1 e1 e2 m1 w1 ok fr sr st sm=>?_
 obtain⟨z,hz,rfl⟩:=xw h1;refine ad H1 x z Q ok (by rw[e1,e2];exact hz) λy H' ho hd o=>?_
 obtain⟨w3,ef⟩:=Kk w1 st o fr (λb hb=>ok.some (Sl.frz_as hb)) (W0 sr λb hb=>Sl.frz_as hb);exact k _ _ rfl y L1 H' ho hd m1 w3 ef λhq=>⟨q9 (sm hq) o.same,λb hb=>J5 (sm hq) (o.new b hb)⟩
theorem kwg{r:R2}{f:Sd->Sd->Option Sd}(ad:Ad2 Z.K r f){Q:VK}(h:tQ Z qa (cF2 f a b) σ H Q):tOp r (tV Z qa a) (tV Z true b) σ H Q:=by
 obtain⟨E,L,R,m,w,hc,xc,k⟩:=h;refine wq m w hc xc λE1 s h1 x L1 H1 e1 e2 m1 w1 ok fr sr st sm=>?_
 refine wq m1 w1 h1 (xc.step st) λE2 s2 h2 y L2 H2 e3 e4 m2 w2 ku ri ql be fj=>?_
 obtain⟨z,hz,rfl⟩:=xw h2;have kx:=W3 ok fr be (fj rfl);refine ad H2 x y z Q kx.1 ku (by rw[e1,e2,e3,e4];exact hz) λy' H' ho hd o=>?_
 obtain⟨w3,ef⟩:=Kk w2 (st.trans be) o (λb hb=>(List.mem_append.mp hb).elim (kx.2 b) (ri b)) (λb hb=>(List.mem_append.mp hb).elim (λz=>kx.1.some (Sl.frz_as z)) λz=>ku.some (Sl.frz_as z))
  (qvc (W0 sr λb hb=>Sl.frz_as hb) (W0 (ql.back st) λb hb=>Sl.frz_as hb))
 exact k _ _ rfl y' L2 H' ho hd m2 w3 ef λhq=>⟨q9 (sm hq) (q9 (fj rfl) o.same),λb hb=>J5 (q9 (sm hq) (fj rfl)) (o.new b hb)⟩
theorem vW{op:Operator}{r:R2}{f:Sd->Sd->Option Sd}(ho:OpR X (binaryOp op) r)(ad:Ad2 Z.K r f)(ha:QV X Z qa a ea)(hb:QV X Z true b eb):QE X Z qa (cF2 f a b) (.BinOp ea op eb pos):=
 kZ (wve ho ha hb) fun σ H Q h=>kwg ad h
theorem zK{op:CmpOp}{r:R2}{f:Sd->Sd->Option Sd}(ho:OpR X (compareOp op) r)(ad:Ad2 Z.K r f)(ha:QV X Z qa a ea)(hb:QV X Z true b eb)(hm:behindInMarks op eb=false):QE X Z qa (cF2 f a b) (.Compare ea [op] [eb] pos):=
 kZ (vvl ho ha hb hm) fun σ H Q h=>kwg ad h
theorem RepA.get{K:PySem.W.Frag}{H:Hp}{g:Bool}:∀{ds:List D} {xs:List V} {as:List Addr} {i:Nat} {d:D},RepA K H g ds xs as->ds[i]?=some d->∃v bs,xs[i]?=some v/\RepL K H g d v bs/\∀b∈bs,b∈as
 | [],_,_,_,_,_,e=>by simp at e
 | d::ds,_,_,i,d',h,e=>by
  unfold RepA at h;obtain⟨x,r,bs,cs,rfl,rfl,h1,h2⟩:=h;cases i with
  |zero=>
   have e:d=d':=by simpa using e
   subst e;exact⟨x,bs,by simp,h1,λb hb=>ll9 _ hb⟩
  |succ i=>
   obtain⟨v,d6,e1,e2,e3⟩:=RepA.get (i:=i) h2 (by simpa using e);exact⟨v,d6,by simpa using e1,e2,λb hb=>lr9 _ (e3 b hb)⟩
theorem RepA.len{K:PySem.W.Frag}{H:Hp}{g:Bool}:∀{ds:List D} {xs:List V} {as:List Addr},RepA K H g ds xs as->ds.length=xs.length
 |[],_,_,h=>by unfold RepA at h;rw[h.1];rfl
 |d::ds,_,_,h=>by
  unfold RepA at h;obtain⟨x,r,bs,cs,rfl,rfl,h1,h2⟩:=h;simp[RepA.len h2]
theorem items{K:PySem.W.Frag}{H:Hp}{x:Sl}{ds:List D}(ok:x.ok K H)(h:x.d=.lst ds\/x.d=.tup ds):∃a xs bs,x.v=.ref a/\((x.d=.lst ds/\LsR K H a xs)\/(x.d=.tup ds/\SqT K H a xs))/\RepA K H (x.o != .dp) ds xs bs/\(∀b∈bs,b∈x.as)/\(x.o≠.dp->∀b∈bs,b∈x.frz):=by
 obtain⟨o,d,v,as⟩:=x;dsimp only at h;rcases h with rfl|rfl
 ·cases o with
  |no=>
   have ok:RepL K H true (.lst ds) v as:=ok;unfold RepL at ok;obtain⟨a,xs,bs,rfl,r,q⟩:=ok;rcases q with⟨q,rfl⟩|⟨_,q,rfl⟩
   ·exact⟨a,xs,bs,rfl,.inl ⟨rfl,.inl (.inl q)⟩,r,λb hb=>lc9 _ hb,λ_ b hb=>lc9 _ hb⟩
   ·exact⟨a,xs,as,rfl,.inl ⟨rfl,.of q⟩,r,λb hb=>hb,λ_ b hb=>hb⟩
  |rt=>
   obtain⟨a,xs,bs,rfl,r,q,rfl⟩:=(show RepR K H (.lst ds) v as from ok);exact⟨a,xs,bs,rfl,.inl ⟨rfl,.inl (.inl q)⟩,r,λb hb=>lc9 _ hb,λ_ b hb=>by simpa [Sl.frz]using hb⟩
  |dp=>
   have ok:RepL K H false (.lst ds) v as:=ok;unfold RepL at ok;obtain⟨a,xs,bs,rfl,r,q⟩:=ok;rcases q with⟨q,rfl⟩|⟨z,_⟩
   ·exact⟨a,xs,bs,rfl,.inl ⟨rfl,.inl (.inl q)⟩,r,λb hb=>lc9 _ hb,λz=>absurd rfl z⟩
   ·cases z
 ·cases o with
  |no=>
   have ok:RepL K H true (.tup ds) v as:=ok;unfold RepL at ok;obtain⟨a,xs,rfl,q,r⟩:=ok;exact⟨a,xs,as,rfl,.inr ⟨rfl,q⟩,r,λb hb=>hb,λ_ b hb=>hb⟩
  |rt=>exact(show RepR K H (.tup ds) v as from ok).elim
  |dp=>
   have ok:RepL K H false (.tup ds) v as:=ok;unfold RepL at ok;obtain⟨a,xs,rfl,q,r⟩:=ok;exact⟨a,xs,as,rfl,.inr ⟨rfl,q⟩,r,λb hb=>hb,λz=>absurd rfl z⟩
theorem J0{K:PySem.W.Frag}{H:Hp}{x:Sl}{ds:List D}(ok:x.ok K H)(h:x.d=.lst ds\/x.d=.tup ds)(hl:qQ (x.o,x.d)=true):∃a xs bs,x.v=.ref a/\((x.d=.lst ds/\LsR K H a xs)\/(x.d=.tup ds/\SqT K H a xs))/\RepA K H true ds xs bs/\(∀b∈bs,b∈x.frz):=by
 obtain⟨a,xs,bs,e,q,r,h1,h2⟩:=items ok h
 by_cases ho:x.o=.dp
 ·have hp:D.pures ds=true:=by
   unfold qQ at hl;rw[show(x.o,x.d).1=Own.dp from ho]at hl;have:wx6 x.d=ds:=by rcases h with h|h<;>rw[h]<;>rfl
   simpa [this]using hl
  obtain⟨rfl,r'⟩:=RepA.pu (g':=true) r hp;exact⟨a,xs,[],e,q,r',λ_ z=>nomatch z⟩
 ·have:(x.o != Own.dp)=true:=by simpa using ho
  rw[this]at r;exact⟨a,xs,bs,e,q,r,h2 ho⟩
end
section
variable {K:PySem.W.Frag}{H:Hp}{x y:Sl}
theorem vq{i:Int}(ok:x.ok K H)(h:x.d=.int i):x.v=.int i:=by
 have:=RepO.wk ok;rw[h]at this;unfold RepL at this;exact this.1
theorem KY{i:Bool}(ok:x.ok K H)(h:x.d=.bl i):x.v=.bl i:=by
 have:=RepO.wk ok;rw[h]at this;unfold RepL at this;exact this.1
theorem vkr(ok:x.ok K H)(h:x.d=.non):x.v=.non:=by
 have:=RepO.wk ok;rw[h]at this;unfold RepL at this;exact this.1
theorem wY{z:Str}(ok:x.ok K H)(h:x.d=.str z):x.v=.str z/\z.length<=sizeLine:=by
 have:=RepO.wk ok;rw[h]at this;unfold RepL at this;exact⟨this.1,this.2.2⟩
theorem zV{i:Int}{g:Bool}:RepL K H g (.int i) (.int i) []:=by unfold RepL;exact⟨rfl,rfl⟩
theorem vj{i:Bool}{g:Bool}:RepL K H g (.bl i) (.bl i) []:=by unfold RepL;exact⟨rfl,rfl⟩
theorem qvn{g:Bool}:RepL K H g .non .non []:=by unfold RepL;exact⟨rfl,rfl⟩
theorem QX{z:Str}{g:Bool}(h:z.length<=sizeLine):RepL K H g (.str z) (.str z) []:=by unfold RepL;exact⟨rfl,rfl,h⟩
theorem Q9{i:Int}{fr:List Addr}:Out K H H ⟨.dp,.int i,.int i,[]⟩ fr:=kvt xj zV
theorem xJ{i:Bool}{fr:List Addr}:Out K H H ⟨.dp,.bl i,.bl i,[]⟩ fr:=kvt xj vj
theorem Wv{z:Str}{fr:List Addr}(h:z.length<=sizeLine):Out K H H ⟨.dp,.str z,.str z,[]⟩ fr:=kvt xj (QX h)
theorem vwz{C:Int->Int->Prop}{g:Int->Int->Int}{f:Int->Int->Option Int}(h:∀i j k,f i j=some k->C i j/\k=g i j):Ad2 K (rI C λi j=>.int (g i j)) (pu2 (i2 f)):=by
 intro H x y s Q ox oy hf k;unfold pu2 i2 at hf;dsimp only at hf
 split at hf
 ·rename_i i j e1 e2;cases hk:f i j with
  |none=>rw[hk]at hf;cases hf
  |some n=>
   rw[hk]at hf;cases oq9 hf;obtain⟨hc,rfl⟩:=h i j n hk;exact⟨i,j,vq ox e1,vq oy e2,hc,k ⟨.dp,.int (g i j),.int (g i j),[]⟩ H rfl rfl Q9⟩
 ·cases hf
theorem xv{g:Int->Int->Bool}:Ad2 K (rI0 λi j=>.bl (g i j)) (pu2 (c2 g)):=by
 intro H x y s Q ox oy hf k;unfold pu2 c2 at hf;dsimp only at hf
 split at hf
 ·rename_i i j e1 e2;cases oq9 hf;exact⟨i,j,vq ox e1,vq oy e2,k ⟨.dp,.bl (g i j),.bl (g i j),[]⟩ H rfl rfl xJ⟩
 ·cases hf
theorem wX:Ad2 K (rI wq4 λi j=>.int (i / j)) (pu2 qK):=vwz λi j k h=>by
 split at h
 ·rename_i c;exact⟨c,(oq9 h).symm⟩
 ·cases h
theorem wkx:Ad2 K (rI (λ_ j=>0<j) λi j=>.int (i % j)) (pu2 jW):=vwz λi j k h=>by
 split at h
 ·rename_i c;exact⟨c,(oq9 h).symm⟩
 ·cases h
theorem wkw:Ad2 K (rI wxg λi j=>.int (i*2 ^ j.toNat)) (pu2 wvy):=vwz λi j k h=>by
 split at h
 ·rename_i c;exact⟨c,(oq9 h).symm⟩
 ·cases h
end
noncomputable def vz7(K:PySem.W.Frag):R2:=λx y H Q=>∃l b xs zs,x=.ref l/\y=.ref b/\LsR K H l xs/\LsR K H b zs/\xs.length+zs.length<=sizeLine/\∀p,H p=none->Q (.ref p) (upd H p (.lst (xs++zs)))
theorem op_catL{X:Cx}:OpR X (binaryOp .Add) (vz7 X.K):=by
 intro pins s σ H x y v u Q I rx ry h;obtain⟨l,b,xs,zs,rfl,rfl,hH,hB,hz,q⟩:=h;cases rx;cases ry;obtain⟨z,aa,n,r,e⟩:=hH.is I;obtain⟨z2,bu,n2,r2,e2⟩:=hB.is I;have hl:=r.length;have im:=r2.length;refine PySem.P.add_list e e2 ?_ (by rw[X6,X6];omega);have ea:aa.toArray++bu.toArray=(aa++bu).toArray:=by simp
 rw[ea];exact⟨.ref _,_,I.lnew (t':=s.toks) (r.append r2) (by rw[Xn];omega),rfl,q _ I.fresh⟩
def vz8(K:PySem.W.Frag):R2:=λx y H Q=>∃a b ys,x=.ref a/\y=.ref b/\SqT K H a []/\SqT K H b ys/\Q (.ref b) H
theorem op_catE{X:Cx}:OpR X (binaryOp .Add) (vz8 X.K):=by
 intro pins s σ H x y v u Q I rx ry h;obtain⟨a,b,ys,rfl,rfl,ha,hb,q⟩:=h;cases rx;cases ry;obtain⟨aa,r1,p1,_⟩:=I.tuple ha;obtain⟨bu,r2,p2,_⟩:=I.tuple hb;obtain⟨⟨cls,dd,data,sl⟩,ho,hc,n,hd⟩:=id p1;obtain⟨⟨cls2,dd2,data2,m5⟩,jh,mz,n2,gm⟩:=id p2;simp only at hc hd mz gm;subst hc hd mz gm;have e:aa=[]:=r1.nil_iff.mpr rfl;subst e;exact concat_meets ⟨_,ho,rfl⟩ ⟨_,jh,rfl⟩ noFill_tuple_add seq_tuple_add PySem.F.slot_tuple_add PySem.F.entry_tuple_add (PySem.F.args_tuple_add_2 _ _)
   (tuple_addW0 a b [].toArray bu.toArray n n2 dd dd2 sl m5 (by simp)) ⟨ho,jh,⟨.ref b,H,I,rfl,q⟩⟩
noncomputable def vz9(K:PySem.W.Frag):R2:=λx y H Q=>rI0 (λi j=>.int (i+j)) x y H Q\/(∃i j,x=.str i/\y=.str j/\i.length+j.length<=sizeLine/\Q (.str (i++j)) H)\/vz7 K x y H Q\/vz8 K x y H Q\/vz6 K x y H Q
theorem wjb{X:Cx}{K:PySem.W.Frag}(hK:X.K=K):OpR X (binaryOp .Add) (vz9 K):=by subst hK;exact op_add.or (op_add_str.or (op_catL.or (op_catE.or vvu)))
theorem RepA.app{K:PySem.W.Frag}{H:Hp}{g:Bool}{ds':List D}{xs':List V}{d6:List Addr}(h':RepA K H g ds' xs' d6):∀{ds:List D} {xs:List V} {as:List Addr},RepA K H g ds xs as->RepA K H g (ds++ds') (xs++xs') (as++d6)
 |[],_,_,h=>by unfold RepA at h;rw[h.1,h.2];exact h'
 |d::ds,_,_,h=>by
  unfold RepA at h;obtain⟨x,r,bs,cs,rfl,rfl,h1,h2⟩:=h;rw[List.cons_append];unfold RepA;exact⟨x,r++xs',bs,cs++d6,rfl,by rw[Xk],h1,RepA.app h' h2⟩
theorem x5{H:Hp}{p:Addr}{o:HO}(h:H p=none):k9 H (upd H p o):=λb u q=>by rw[qx (Jx q h)];exact q
theorem JX{K:PySem.W.Frag}{H:Hp}{p:Addr}{ds:List D}{xs:List V}{bs fr:List Addr}(hp:H p=none)(r:RepA K H true ds xs bs)(hb:∀b∈bs,b∈fr):Out K H (upd H p (.lst xs)) ⟨.rt,.lst ds,.ref p,p::bs⟩ fr:=by
 refine⟨x5 hp,⟨p,xs,bs,rfl,r.kp (Kp.of_same (x5 hp)),xX,rfl⟩,λb hb=>?_,?_,λb fq=>hb b (by simpa [Sl.frz]using fq)⟩
 ·have:b=p:=by simpa [Sl.own]using hb
  rw[this];exact hp
 ·simp[Sl.own]
theorem kkc{K:PySem.W.Frag}{H:Hp}{p:Addr}{ds:List D}{xs:List V}{bs fr:List Addr}(hp:H p=none)(r:RepA K H true ds xs bs)(hb:∀b∈bs,b∈fr):Out K H (upd H p (.tup xs)) ⟨.no,.tup ds,.ref p,bs⟩ fr:=by
 refine⟨x5 hp,?_,λb hb=>(nomatch hb),Y9,λb fq=>hb b fq⟩;show RepL K _ true (.tup ds) (.ref p) bs;unfold RepL;exact⟨p,xs,rfl,SqT.of xX,r.kp (Kp.of_same (x5 hp))⟩
theorem wq0{K:PySem.W.Frag}:Ad2 K (vz9 K) jq:=by
 intro H x y s Q ox oy hf k;unfold jq at hf;dsimp only at hf
 split at hf
 ·rename_i i j e1 e2;cases oq9 hf;exact .inl ⟨i,j,vq ox e1,vq oy e2,k ⟨.dp,.int _,.int _,[]⟩ H rfl rfl Q9⟩
 ·rename_i i j e1 e2
  split at hf
  ·rename_i hl;cases oq9 hf;have hl':(i++j).length<=sizeLine:=by rw[strLen_append];exact hl
   exact .inr (.inl ⟨i,j,(wY ox e1).1,(wY oy e2).1,hl,k ⟨.dp,.str _,.str _,[]⟩ H rfl rfl (Wv hl')⟩)
  ·cases hf
 ·rename_i i j e1 e2
  split at hf
  ·rename_i hl;cases oq9 hf;obtain⟨a,xs,bs,e3,q3,r3,h3⟩:=J0 ox (.inl e1) hl.2.1;obtain⟨b,ys,cs,e4,q4,r4,h4⟩:=J0 oy (.inl e2) hl.2.2;have q3:LsR K H a xs:=by rcases q3 with⟨_,z⟩|⟨z,_⟩;exact z;rw[e1]at z;cases z
   have q4:LsR K H b ys:=by rcases q4 with⟨_,z⟩|⟨z,_⟩;exact z;rw[e2]at z;cases z
   refine .inr (.inr (.inl ⟨a,b,xs,ys,e3,e4,q3,q4,by rw[<-r3.len,<-r4.len];exact hl.1,λp hp=>?_⟩));exact k ⟨.rt,.lst (i++j),.ref p,p::(bs++cs)⟩ _ rfl rfl (JX hp (r4.app r3) λb hb=>(List.mem_append.mp hb).elim (λz=>ll9 _ (h3 b z)) λz=>lr9 _ (h4 b z))
  ·cases hf
 ·rename_i i j e1 e2
  split at hf
  ·rename_i hl;cases oq9 hf;obtain⟨a,xs,bs,e3,q3,r3,h3⟩:=J0 ox (.inr e1) hl.2.1;obtain⟨b,ys,cs,e4,q4,r4,h4⟩:=J0 oy (.inr e2) hl.2.2;have q3:SqT K H a xs:=by rcases q3 with⟨z,_⟩|⟨_,z⟩;rw[e1]at z;cases z;exact z
   have q4:SqT K H b ys:=by rcases q4 with⟨z,_⟩|⟨_,z⟩;rw[e2]at z;cases z;exact z
   have ap:=r4.app r3;have ov:∀b∈bs++cs,b∈x.frz++y.frz:=λb hb=>(List.mem_append.mp hb).elim (λz=>ll9 _ (h3 b z)) λz=>lr9 _ (h4 b z)
   have same:∀c zs,zs=xs++ys->SqT K H c zs->Q (.ref c) H:=λc zs e hq=>by
    refine k ⟨.no,.tup (i++j),.ref c,bs++cs⟩ H rfl rfl ⟨xj,?_,λb hb=>(nomatch hb),Y9,ov⟩;show RepL K H true (.tup (i++j)) (.ref c) (bs++cs);unfold RepL;exact⟨c,zs,rfl,hq,by rw[e];exact ap⟩
   by_cases hx:xs=[]
   ·subst hx;exact .inr (.inr (.inr (.inl ⟨a,b,ys,e3,e4,q3,q4,same b ys rfl q4⟩)))
   ·refine .inr (.inr (.inr (.inr ⟨a,b,xs,ys,e3,e4,q3,q4,hx,by rw[<-r3.len,<-r4.len];exact hl.1,λhy=>?_,λhy p hp=>?_⟩)))
    ·exact same a xs (by rw[hy,Xv]) q3
    ·exact k ⟨.no,.tup (i++j),.ref p,bs++cs⟩ _ rfl rfl (kkc hp ap ov)
  ·cases hf
 ·cases hf
noncomputable def tT(Z:Fx0)(q:Bool)(c:Ts):TT:=fun σ H Q=>∃E L r,Mt E σ L/\World Z.K H L/\c E=some r/\Xc Z σ H L r /\
 ∀E' k,r=.ok E' k->∀L' H',Mt E' σ L'->World Z.K H' L'->Step H L H' L'->(q=true->k9 H H')->Q k H'
def QT(X:Cx)(Z:Fx0)(q:Bool)(c:Ts)(e:Expr):Prop:=PT X e (tT Z q c)
def QW(X:Cx)(Z:Fx0)(q:Bool)(c:Ts)(e:Expr):Prop:=PW X e (tT Z q c)
section
variable {X:Cx}{Z:Fx0}{q qa qb:Bool}{a b c:Ex}{u v:Ts}{e ea eb:Expr}{es:List Expr}{pos:Pos}{α β:Type}{σ:L2.St}{H:Hp}{L:Ls}{E:En}
theorem vkl{e:Expr}{t t':TT}(h:PW X e t)(w:∀ σ H Q,t' σ H Q->t σ H Q):PW X e t':=λwh pins s σ H Q I q=>h wh pins s σ H Q I (w σ H Q q)
theorem qzj{F:En->Bool->Option (Res α)}{r:Res α}{G:Bool->Hp->Prop}(m:Mt E σ L)(w:World Z.K H L)(h:bnd (u E) F=some r)(xc:Xc Z σ H L r)
  (k:∀E1 s,F E1 s=some r->∀L1 H1,Mt E1 σ L1->World Z.K H1 L1->Step H L H1 L1->(q=true->k9 H H1)->G s H1):tT Z q u σ H G:=by
 rcases ww h with⟨E1,s,h1,h2⟩|⟨E1,c,h1,h2⟩
 ·exact⟨E,L,_,m,w,h1,(λ_ _ z=>by cases z),λE' s' z L' H' m' w' st sm=>by
   injection z with z1 z2;subst z1 z2;exact k _ _ h2 L' H' m' w' st sm⟩
 ·exact⟨E,L,_,m,w,h1,xc.map h2,λE' s' z=>by cases z⟩
theorem kzu(ha:QT X Z q u ea):QW X Z q u (.BoolOp .And [ea] pos):=vva ha
theorem xk(ha:QT X Z q u ea):QW X Z q u (.BoolOp .Or [ea] pos):=vzj ha
theorem qw0(ha:QT X Z q u ea)(hb:QW X Z q v (.BoolOp .And (eb::es) pos)):QW X Z q (Q.tAnd u v) (.BoolOp .And (ea::eb::es) pos):=
 vkl (vzk ha hb) fun σ H Q au=>ex8 au λE L r m w hc xc k=>qzj m w hc xc λE1 s h1 L1 H1 m1 w1 st sm=>by
  cases s with
  |true=>
   rw[Xf rfl]at h1 ⊢;exact⟨E1,L1,r,m1,w1,h1,xc.step st,λE' k' z L' H' m' w' ff ip=>k E' k' z L' H' m' w' (st.trans ff) λhq=>q9 (sm hq) (ip hq)⟩
  |false=>
   rw[Xm (by decide)]at h1 ⊢;cases oq9 h1;exact k _ _ rfl L1 H1 m1 w1 st sm
theorem vz(ha:QT X Z q u ea)(hb:QW X Z q v (.BoolOp .Or (eb::es) pos)):QW X Z q (Q.tOr u v) (.BoolOp .Or (ea::eb::es) pos):=
 vkl (wva ha hb) fun σ H Q au=>ex8 au λE L r m w hc xc k=>qzj m w hc xc λE1 s h1 L1 H1 m1 w1 st sm=>by
  cases s with
  |false=>
   rw[Xm (by decide)]at h1 ⊢;exact⟨E1,L1,r,m1,w1,h1,xc.step st,λE' k' z L' H' m' w' ff ip=>k E' k' z L' H' m' w' (st.trans ff) λhq=>q9 (sm hq) (ip hq)⟩
  |true=>
   rw[Xf rfl]at h1 ⊢;cases oq9 h1;exact k _ _ rfl L1 H1 m1 w1 st sm
theorem QW.pt(h:QW X Z q u e):QT X Z q u e:=PW.pt h
theorem qJ(ha:QT X Z q u ea):QT X Z q (Q.tNot u) (.UnaryOp .Not ea pos):=
 qjy (vzl ha) fun σ H Q au=>ex8 au λE L r m w hc xc k=>qzj m w hc xc λE1 s h1 L1 H1 m1 w1 st sm=>by
  cases oq9 h1;exact k _ _ rfl L1 H1 m1 w1 st sm
theorem qj{op:CmpOp}{r:R2}{f:Sd->Sd->Option Sd}(ho:OpR X (compareOp op) r)(ad:Ad2 Z.K r f)(ha:QV X Z qa a ea)(hb:QV X Z true b eb)(hm:behindInMarks op eb=false)(hf:∀x y s,f x y=some s->∃k,s.2=.bl k):QT X Z qa (Q.tE (cF2 f a b)) (.Compare ea [op] [eb] pos):=
 qjy (vvd ho ha hb hm) fun σ H Q au=>ex8 au λE L r m w hc xc k=>by
  refine kwg ad ?_;have oz:bnd (cF2 f a b E) (λE x=>val E (truth x.2))=some r:=hc;rcases ww oz with⟨E1,s,h1,h2⟩|⟨E1,c,h1,h2⟩
  ·refine⟨E,L,_,m,w,h1,(λ_ _ z=>by cases z),λE' s' z x L' H' e1 e2 m' w' st sm=>?_⟩;injection z with z1 z2;subst z1 z2;obtain⟨kk,hk⟩:∃k,s.2=.bl k:=by
    unfold cF2 at h1;rcases ww h1 with⟨E2,s2,h3,h4⟩|⟨_,_,_,z⟩
    ·rcases ww h4 with⟨E3,s3,h5,h6⟩|⟨_,_,_,z⟩
     ·obtain⟨y,hy,z⟩:=xw h6;cases z;exact hf _ _ _ hy
     ·cases z
    ·cases z
   rw[hk]at h2;cases oq9 h2;exact⟨kk,KY w'.head (e2.trans hk),k _ _ rfl L' H' m' w'.tail (st.trans Step.drop) λhq=>(sm hq).1⟩
  ·exact⟨E,L,_,m,w,h1,xc.map h2,λE' s' z=>by cases z⟩
end
def Pn(pn:List Nat)(σ σ':L2.St):Prop:=∀p∈pn,σ'[p]?=σ[p]?
theorem Pn.refl{pn:List Nat}{σ:L2.St}:Pn pn σ σ:=λ_ _=>rfl
theorem Pn.trans{pn:List Nat}{σ σ1 σ2:L2.St}(a:Pn pn σ σ1)(b:Pn pn σ1 σ2):Pn pn σ σ2:=λp hp=>(b p hp).trans (a p hp)
theorem Pn.set{pn:List Nat}{σ σ1:L2.St}{i:Nat}{y:Option V}(a:Pn pn σ σ1)(h:i∉pn):Pn pn σ (σ1.set i y):=λp hp=>by
 have:i≠p:=λe=>h (e▸hp)
 rw[Xu this];exact a p hp
noncomputable def FlP(Z:Fx0)(pn:List Nat)(D:Ends)(σ:L2.St)(H:Hp)(L:Ls):Fl->Prop
 |.nx E'=>∀ σ' L' H',Pn pn σ σ'->Mt E' σ' L'->World Z.K H' L'->Step H L H' L'->D.nx σ' H'
 |.ct E'=>∀ σ' L' H',Pn pn σ σ'->Mt E' σ' L'->World Z.K H' L'->Step H L H' L'->D.ct σ' H'
 |.bk E'=>∀ σ' L' H',Pn pn σ σ'->Mt E' σ' L'->World Z.K H' L'->Step H L H' L'->D.bk σ' H'
 |.rt E' a=>∀(x:Sl) σ' L' H',x.o=a.1->x.d=a.2->Pn pn σ σ'->Mt E' σ' L'->World Z.K H' (some x::L')->Step H L H' (some x::L')->D.rt x.v H'
 |.xc E' c=>∀C σ' L' H',Z.mg c=some (.ref C)->Pn pn σ σ'->Mt E' σ' L'->World Z.K H' L'->Step H L H' L'->Z.EX (.ref C) none H'
theorem FlP.step{Z:Fx0}{pn:List Nat}{D:Ends}{σ σ1:L2.St}{H H1:Hp}{L L1:Ls}{r:Fl}(k:FlP Z pn D σ H L r)(s:Step H L H1 L1)(p:Pn pn σ σ1):FlP Z pn D σ1 H1 L1 r:=by
 cases r with
 |nx E'=>exact fun σ' L' H' p' m w s'=>k σ' L' H' (p.trans p') m w (s.trans s')
 |ct E'=>exact fun σ' L' H' p' m w s'=>k σ' L' H' (p.trans p') m w (s.trans s')
 |bk E'=>exact fun σ' L' H' p' m w s'=>k σ' L' H' (p.trans p') m w (s.trans s')
 |rt E' a=>exact λx σ' L' H' e1 e2 p' m w s'=>k x σ' L' H' e1 e2 (p.trans p') m w (s.trans s')
 |xc E' c=>exact λC σ' L' H' hm p' m w s'=>k C σ' L' H' hm (p.trans p') m w (s.trans s')
theorem FlP.xc{α:Type}{Z:Fx0}{pn:List Nat}{D:Ends}{σ:L2.St}{H:Hp}{L:Ls}{E':En}{c:Str}(k:FlP Z pn D σ H L (.xc E' c)):Xc Z σ H L (.exc E' c:Res α):=λE1 c1 e C L' H' hm m w s=>by
 injection e with h1 h2;subst h1 h2;exact k C σ L' H' hm Pn.refl m w s
def tS(Z:Fx0)(pn:List Nat)(c:Sm):TS:=λD σ H=>∃E L r,Mt E σ L/\World Z.K H L/\c E=some r/\FlP Z pn D σ H L r
def QS(X:Cx)(Z:Fx0)(pn:List Nat)(c:Sm)(st:Stmt):Prop:=PS X st (tS Z pn c)
def QSs(X:Cx)(Z:Fx0)(pn:List Nat)(c:Sm)(st:List Stmt):Prop:=PSs X st (tS Z pn c)
section
variable {X:Cx}{Z:Fx0}{pn:List Nat}{q qa qb:Bool}{a b c:Ex}{u v:Ts}{A B:Sm}{e ea eb:Expr}{st:Stmt}{ss tt:List Stmt}{pos:Pos}{α:Type}{σ:L2.St}{H:Hp}{L:Ls}{E:En}{D:Ends}
theorem jza{m:Option (Res α)}{F:En->α->Option Fl}{r:Fl}(h:ofE m F=some r):(∃E1 x,m=some (.ok E1 x)/\F E1 x=some r)\/∃E1 c,m=some (.exc E1 c)/\r=.xc E1 c:=by
 cases m with
 |none=>cases h
 |some q=>
  cases q with
  |ok E1 x=>exact .inl ⟨E1,x,rfl,h⟩
  |exc E1 c=>exact .inr ⟨E1,c,rfl,(oq9 h).symm⟩
theorem W5{F:En->Sd->Option Fl}{r:Fl}{G:VK}(m:Mt E σ L)(w:World Z.K H L)(h:ofE (a E) F=some r)(k:FlP Z pn D σ H L r)
  (g:∀E1 s,F E1 s=some r->∀(x:Sl) L1 H1,x.o=s.1->x.d=s.2->Mt E1 σ L1->World Z.K H1 (some x::L1)->Step H L H1 (some x::L1)->(q=true->k9 H H1/\∀b∈x.own,H b=none)->G x.v H1):tQ Z q a σ H G:=by
 rcases jza h with⟨E1,s,h1,h2⟩|⟨E1,c,h1,rfl⟩
 ·exact⟨E,L,_,m,w,h1,(λ_ _ z=>by cases z),λE' s' z x L' H' e1 e2 m' w' st sm=>by
   injection z with z1 z2;subst z1 z2;exact g _ _ h2 x L' H' e1 e2 m' w' st sm⟩
 ·exact⟨E,L,_,m,w,h1,k.xc,λE' s' z=>by cases z⟩
theorem vxs{F:En->Bool->Option Fl}{r:Fl}{G:Bool->Hp->Prop}(m:Mt E σ L)(w:World Z.K H L)(h:ofE (u E) F=some r)(k:FlP Z pn D σ H L r)
  (g:∀E1 s,F E1 s=some r->∀L1 H1,Mt E1 σ L1->World Z.K H1 L1->Step H L H1 L1->G s H1):tT Z q u σ H G:=by
 rcases jza h with⟨E1,s,h1,h2⟩|⟨E1,c,h1,rfl⟩
 ·exact⟨E,L,_,m,w,h1,(λ_ _ z=>by cases z),λE' s' z L' H' m' w' st sm=>by
   injection z with z1 z2;subst z1 z2;exact g _ _ h2 L' H' m' w' st⟩
 ·exact⟨E,L,_,m,w,h1,k.xc,λE' s' z=>by cases z⟩
theorem qv:QSs X Z pn kW []:=qw7 vve λD σ H au=>ex7 au λE L r m w hc k=>by
 cases oq9 hc;exact k σ L H Pn.refl m w Step.refl
theorem jJ(h1:QS X Z pn A st)(h2:QSs X Z pn B ss):QSs X Z pn (j6 A B) (st::ss):=qw7 (vj4 h1 h2) λD σ H au=>ex7 au λE L r m w hc k=>by
 unfold j6 at hc;cases ha:A E with
 |none=>rw[ha]at hc;cases hc
 |some f=>
  rw[ha]at hc;cases f with
  |nx E1=>exact⟨E,L,_,m,w,ha,fun σ' L' H' p m' w' s=>⟨E1,L',r,m',w',hc,k.step s p⟩⟩
  |ct E1=>cases oq9 hc;exact⟨E,L,_,m,w,ha,k⟩
  |bk E1=>cases oq9 hc;exact⟨E,L,_,m,w,ha,k⟩
  |rt E1 x=>cases oq9 hc;exact⟨E,L,_,m,w,ha,k⟩
  |xc E1 x=>cases oq9 hc;exact⟨E,L,_,m,w,ha,k⟩
theorem jk(h1:QS X Z pn A st):QSs X Z pn A [st]:=qw6 h1
theorem jV(h:QE X Z q a ea):QS X Z pn (jw a) (.Return (some ea) pos):=zw (vzn h) λD σ H au=>ex7 au λE L r m w hc k=>
 W5 m w hc k λE1 s h1 x L1 H1 e1 e2 m1 w1 st _=>by
  cases oq9 h1;exact k x σ L1 H1 e1 e2 Pn.refl m1 w1 st
theorem kY(hc:QT X Z q u e)(ha:QSs X Z pn A ss)(hb:QSs X Z pn B tt):QS X Z pn (sIf u A B) (.If e ss tt pos):=zw (wvb hc ha hb) λD σ H au=>ex7 au λE L r m w hc k=>
 vxs m w hc k λE1 s h1 L1 H1 m1 w1 st=>by
  cases s with
  |true=>rw[Xf rfl]at h1 ⊢;exact⟨E1,L1,r,m1,w1,h1,k.step st Pn.refl⟩
  |false=>rw[Xm (by decide)]at h1 ⊢;exact⟨E1,L1,r,m1,w1,h1,k.step st Pn.refl⟩
theorem W1{x:Sl}{i:Nat}{s:Sd}(m:Mt E σ L)(e1:x.o=s.1)(e2:x.d=s.2):Mt (E.set i (some s)) (σ.set i (some x.v)) (L.set i (some x)):=by
 have:=m.set (x:=x) i;rw[e1,e2]at this;exact this
theorem wv8{i:Nat}{y:Str}{d9:Pos}(hN:X.N.Nodup)(hi:X.N[i]?=some y)(hx:Loc X.env.scope y)(h:QE X Z q a ea)(hp:autoParam (i∉pn) ŕ)(hs:autoParam (swapsWith ea (some (.Name y d9)) pos.line X.env=pure false) Ŕ)(hf:autoParam (X.fn y=true\/X.env.scope.names.lookup y=some .local) Ř):
  QS X Z pn (jK i a) (.Assign [.Name y d9] ea pos):=zw (vzm hN hi hx h hs hf) λD σ H au=>ex7 au λE L r m w hc k=>
 W5 m w hc k λE1 s h1 x L1 H1 e1 e2 m1 w1 st _=>by
  cases oq9 h1;exact k (σ.set i (some x.v)) (L1.set i (some x)) H1 (Pn.refl.set hp) (W1 m1 e1 e2) w1.set (st.trans Step.set)
theorem vzg{i:Nat}{y:Str}{d9:Pos}(hp:i∉pn)(h:PS X (.Assign [.Name y d9] ea pos) (λD σ H=>tQ Z q a σ H λv H1=>D.nx (σ.set i (some v)) H1)):
  QS X Z pn (jK i a) (.Assign [.Name y d9] ea pos):=zw h λD σ H au=>ex7 au λE L r m w hc k=>
 W5 m w hc k λE1 s h1 x L1 H1 e1 e2 m1 w1 st _=>by
  cases oq9 h1;exact k (σ.set i (some x.v)) (L1.set i (some x)) H1 (Pn.refl.set hp) (W1 m1 e1 e2) w1.set (st.trans Step.set)
end
structure Walks (K:PySem.W.Frag)(J:It)(T:List Sl)(ds:List D):Prop where
 no:∀t∈T,t.o=.no
 go:∀i H,(∀t∈T,t.ok K H)->i<ds.length->J.go i H
 stop:∀H,(∀t∈T,t.ok K H)->J.stop ds.length H
 yld:∀i H v H' d,(∀t∈T,t.ok K H)->J.yld i H v H'->ds[i]?=some d->∃z:Sl,z.o=.no/\z.d=d/\z.v=v/\k9 H H'/\z.ok K H'/\∀b∈z.as,∃t∈T,b∈t.as
noncomputable def tI(Z:Fx0)(q:Bool)(it:Ev (List D)):TI:=fun σ H R=>∃E L r,Mt E σ L/\World Z.K H L/\it E=some r/\Xc Z σ H L r /\
 ∀E' ds,r=.ok E' ds->∀J T L' H',Mt E' σ L'->World Z.K H' (L'++T.map some)->Step H L H' (L'++T.map some)->ds.length<=sizeLine->(q=true->k9 H H')->Walks Z.K J T ds->R J H'
def QI(X:Cx)(Z:Fx0)(q:Bool)(tg:Expr)(it:Ev (List D))(e:Expr):Prop:=PI X tg e (tI Z q it)
def wwh(K:PySem.W.Frag)(H0:Hp)(T:List Sl)(H:Hp):Prop:=(∀t∈T,t.ok K H)/\∀t∈T,Kp H0 H t.as
structure WalksD (K:PySem.W.Frag)(H0:Hp)(J:It)(T:List Sl)(ds:List D):Prop where
 no:∀t∈T,t.o=.no
 go:∀i H,wwh K H0 T H->i<ds.length->J.go i H
 stop:∀H,wwh K H0 T H->J.stop ds.length H
 yld:∀i H v H' d,wwh K H0 T H->J.yld i H v H'->ds[i]?=some d->∃z:Sl,z.o=.no/\z.d=d/\z.v=v/\k9 H H'/\z.ok K H'/\∀b∈z.as,∃t∈T,b∈t.as
theorem Walks.D{K:PySem.W.Frag}{H0:Hp}{J:It}{T:List Sl}{ds:List D}(h:Walks K J T ds):WalksD K H0 J T ds:=⟨h.no,λi H o=>h.go i H o.1,λH o=>h.stop H o.1,λi H v H' d o=>h.yld i H v H' d o.1⟩
noncomputable def tID(Z:Fx0)(q:Bool)(it:Ev (List D)):TI:=fun σ H R=>∃E L r,Mt E σ L/\World Z.K H L/\it E=some r/\Xc Z σ H L r /\
 ∀E' ds,r=.ok E' ds->∀J T L' H',Mt E' σ L'->World Z.K H' (L'++T.map some)->Step H L H' (L'++T.map some)->ds.length<=sizeLine->(q=true->k9 H H')->WalksD Z.K H' J T ds->R J H'
def QID(X:Cx)(Z:Fx0)(q:Bool)(tg:Expr)(it:Ev (List D))(e:Expr):Prop:=PI X tg e (tID Z q it)
theorem QI.D{X:Cx}{Z:Fx0}{q:Bool}{tg:Expr}{it:Ev (List D)}{e:Expr}(h:QI X Z q tg it e):QID X Z q tg it e:=λpins s σ H R I hz=>h pins s σ H R I (by
 obtain⟨E,L,r,m,w,e,x,k⟩:=hz;exact⟨E,L,r,m,w,e,x,λE' ds z J T L' H' m' w' st hl sm wk=>k E' ds z J T L' H' m' w' st hl sm wk.D⟩)
structure WalksS (K:PySem.W.Frag)(q:Bool)(H0:Hp)(J:It)(T:List Sl)(ds:List D):Prop where
 no:∀t∈T,t.o=.no
 go:∀i H,(∀t∈T,t.ok K H)->(q=true->k9 H0 H)->i<ds.length->J.go i H
 stop:∀H,(∀t∈T,t.ok K H)->(q=true->k9 H0 H)->J.stop ds.length H
 yld:∀i H v H' d,(∀t∈T,t.ok K H)->(q=true->k9 H0 H)->J.yld i H v H'->ds[i]?=some d->∃z:Sl,z.o=.no/\z.d=d/\z.v=v/\k9 H H'/\z.ok K H'/\∀b∈z.as,∃t∈T,b∈t.as
theorem vqk{K:PySem.W.Frag}{q:Bool}{H0:Hp}{J:It}{T:List Sl}{ds:List D}(h:Walks K J T ds):WalksS K q H0 J T ds:=⟨h.no,λi H o _=>h.go i H o,λH o _=>h.stop H o,λi H v H' d o _=>h.yld i H v H' d o⟩
noncomputable def tIS(Z:Fx0)(q:Bool)(it:Ev (List D)):TI:=fun σ H R=>∃E L r,Mt E σ L/\World Z.K H L/\it E=some r/\Xc Z σ H L r /\
 ∀E' ds,r=.ok E' ds->∀J T L' H',Mt E' σ L'->World Z.K H' (L'++T.map some)->Step H L H' (L'++T.map some)->ds.length<=sizeLine->(q=true->k9 H H')->WalksS Z.K q H J T ds->R J H'
def QIS(X:Cx)(Z:Fx0)(q:Bool)(tg:Expr)(it:Ev (List D))(e:Expr):Prop:=PI X tg e (tIS Z q it)
theorem wwy{X:Cx}{Z:Fx0}{q:Bool}{tg:Expr}{it:Ev (List D)}{e:Expr}(h:QI X Z q tg it e):QIS X Z q tg it e:=λpins s σ H R I hz=>h pins s σ H R I (by
 obtain⟨E,L,r,m,w,e,x,k⟩:=hz;exact⟨E,L,r,m,w,e,x,λE' ds z J T L' H' m' w' st hl sm wk=>k E' ds z J T L' H' m' w' st hl sm (vqk wk)⟩)
noncomputable def tG(Z:Fx0)(pn:List Nat)(tg:Tg):TG:=λv σ H Q=>∃(E:En) (L:Ls) (z:Sl) (E':En),Mt E σ L/\World Z.K H (some z::L)/\z.o=.no/\z.v=v/\tg.put z.d E=some E' /\
 ∀ σ' L',Pn pn σ σ'->Mt E' σ' L'->World Z.K H L'->Step H (some z::L) H L'->Q σ' H
def QG(X:Cx)(Z:Fx0)(pn:List Nat)(tg:Tg)(e:Expr):Prop:=PG X e (tG Z pn tg)
section
variable {X:Cx}{Z:Fx0}{pn:List Nat}{e:Expr}{σ:L2.St}{H:Hp}{L:Ls}{E:En}
theorem vko{t t':TG}(h:PG X e t)(w:∀v σ H Q,t' v σ H Q->t v σ H Q):PG X e t':=λpins s σ H x v Q I r q=>h pins s σ H x v Q I r (w x σ H Q q)
theorem wv4{i:Nat}(h:PG X e (qxf i))(hp:autoParam (i∉pn) ŕ):QG X Z pn (.n i) e:=vko h λv σ H Q ⟨E,L,z,E',m,w,ho,hv,bf,k⟩=>by
 cases oq9 bf;rw[<-hv];exact k (σ.set i (some z.v)) (L.set i (some z)) (Pn.refl.set hp) (W1 m ho rfl) w.set Step.set
def gNs:List Nat->TGs
 |[]=>wx9
 |i::is=>wk9 (qxf i) (gNs is)
theorem qxe{Q:L2.St->Hp->Prop}{M:Ls}{σ0:L2.St}:∀{is:List Nat} {ds:List D} {xs:List V} {bs:List Addr} {E:En} {L:Ls} {σ:L2.St} {E':En},Mt E σ L->World Z.K H L->RepA Z.K H true ds xs bs->(∀b∈bs,b∉j8 L)->(∀b∈bs,b∈jY M)->Step H M H L->Pn pn σ0 σ ->
  setAll is ds E=some E'->(∀i∈is,i∉pn)->(∀ σ' L',Pn pn σ0 σ'->Mt E' σ' L'->World Z.K H L'->Step H M H L'->Q σ' H)->gNs is xs σ H Q
 | [],[],xs,bs,E,L,σ,E',m,w,r,_,_,st,p,e,_,k=>by
  cases oq9 e;unfold RepA at r;exact⟨r.1,k σ L p m w st⟩
 | [],_::_,_,_,_,_,_,_,_,_,_,_,_,_,_,e,_,_=>by cases e
 | _::_,[],_,_,_,_,_,_,_,_,_,_,_,_,_,e,_,_=>by cases e
 | i::is,d::ds,xs,bs,E,L,σ,E',m,w,r,hb,hf,st,p,e,hi,k=>by
  unfold RepA at r;obtain⟨x,rr,cs,es,rfl,rfl,h1,h2⟩:=r;have w1:World Z.K H (some ⟨.no,d,x,cs⟩::L):=w.consNo (x:=⟨.no,d,x,cs⟩) h1 rfl λb fq=>hb b (ll9 _ fq)
  have s1:Step H M H (L.set i (some ⟨.no,d,x,cs⟩)):=by
   refine⟨λ_ _ h _=>h,λa ha=>?_,λa ha=>?_⟩
   ·rcases XQ ha with z|z
    ·exact nomatch z
    ·exact st.own a z
   ·rcases jkv ha with z|z
    ·exact .inl (hf a (ll9 _ z))
    ·exact st.frz a z
  exact⟨x,rr,rfl,qxe (is:=is) (W1 (x:=⟨.no,d,x,cs⟩) (s:=(.no,d)) m rfl rfl) w1.set h2 (λb fq ho=>by
   rcases XQ ho with z|z
   ·exact nomatch z
   ·exact hb b (lr9 _ fq) z) (λb fq=>hf b (lr9 _ fq)) s1 (p.set (hi i X3)) e (λj hj=>hi j (lc9 _ hj)) k⟩
theorem kv4:∀{is:List Nat} {ds:List D} {E E':En},setAll is ds E=some E'->is.length=ds.length
 |[],[],_,_,_=>rfl
 |[],_::_,_,_,e=>by cases e
 |_::_,[],_,_,e=>by cases e
 |i::is,d::ds,E,E',e=>by rw[Xb,Xb,kv4 (E:=E.set i (some (.no,d))) e]
noncomputable def wqa(K:PySem.W.Frag)(n:Nat)(t:TGs):TG:=λv σ H Q=>∃a xs,v=.ref a/\(SqT K H a xs\/SqL K H a xs)/\xs.length=n/\t xs σ H Q
section
variable {prog:Program}{w:PySem.World}{A:Around}{E':Value->Shared->Prop}
theorem kz4{it t:Addr}{items:Array Value}(ft:t≠it):∀(n i:Nat) (s:Shared) (Q:List Value->Shared->Prop),s.heap.IsListIter it t i->s.heap.IsList t items->i+n<=items.size ->
  (∀h',h'.IsListIter it t (i+n)->Heap.SameBut it s.heap h'->Q ((items.toList.drop i).take n) { s with heap:=h' })->wpAny (model prog w) A (draw (.ref it) n) Q E' s
 | 0,i,s,Q,gq,_,_,hQ=>by
  show wpAny _ _ (pure []) Q E' s;exact X5 (by simpa using hQ s.heap gq (Heap.SameBut.refl ..))
 | n+1,i,s,Q,gq,ht,gh,hQ=>by
  have em:i<items.size:=by omega
  show wpAny _ _ (pyNext (.ref it) >>= _) Q E' s;refine X0 (wpAny_pyNext_list_item gq ht (x:=items[i]) (by simp[em]) λh₁ oi r0=>?_);have ht₁:h₁.IsList t items:=by
   obtain⟨o,ho,r⟩:=ht;exact⟨o,(r0.2 t ft).trans ho,r⟩
  refine X0 (Yl (kz4 ft n (i+1) _ _ oi ht₁ (by omega) λh₂ hit₂ hs₂=>X5 ?_));have hd:items.toList.drop i=items[i]::items.toList.drop (i+1):=by simp[List.drop_eq_getElem_cons,em]
  have:=hQ h₂ (by rw[show i+(n+1)=i+1+n by omega];exact hit₂) (r0.trans hs₂);rw[hd,List.take_succ_cons]at this;exact this
theorem kjf{s:Shared}{t:Addr}{items:Array Value}{Q:List Value->Shared->Prop}(hh:A.handled=none)(ht:s.heap.IsList t items)
  (hQ:∀h',Heap.ExtBut s.heap.objs.size s.heap h'->Q items.toList { s with heap:=h' }):wpAny (model prog w) A (unpackItems (.ref t) items.size none) Q E' s:=by
 have em:t≠s.heap.objs.size:=by obtain⟨o,ho,_⟩:=ht;exact Xq (Xd ho)
 unfold unpackItems;refine X0 ?_;unfold notIterableAtAll;refine X0 (wpAny_specialOf ht.typeIs slot_list_iter.lookup ?_);refine X5 ?_;simp only[Bool.false_eq_true,if_false];refine X0 (Yl (Yz ht ?_));have ht0:∀o:Obj,(s.heap.push o).IsList t items:=λo=>by
  obtain⟨ob,ho,r⟩:=ht;exact⟨ob,X1 _ ho,r⟩
 refine X0 (Yl (kz4 em items.size 0 _ _ ⟨_,X8 _ rfl,rfl,rfl⟩ (ht0 _) (by omega) λh₁ oi r0=>?_));have og:List.take items.size (List.drop 0 items.toList)=items.toList:=by
  rw[List.drop_zero];exact List.take_of_length_le (by simp)
 rw[og];rw[Xm (by simp)];have ht₁:h₁.IsList t items:=by
  obtain⟨o,ho,r⟩:=ht0 _;exact⟨o,(r0.2 t em).trans ho,r⟩
 refine X0 (Yl (wpAny_pyNext_list_end hh oi ht₁ (by simp) λh₂ he₂=>?_));simp only[Option.isSome_none,Bool.false_eq_true,if_false];exact X5 (hQ h₂ λb o hb e=>he₂ b o hb (r0.extBut b o hb (X1 _ e)))
theorem kj2{s:Shared}{env:Env}{cg:List Expr}{x1}{pos:Pos}{t:Addr}{items:Array Value}{Q:Unit->Shared->Prop}(hh:A.handled=none)(ht:s.heap.IsList t items)
  (hn:(assignEach cg env).length=items.size) (rj:(assignEach cg env).findIdx? (·.1)=none)
  (h:∀h',Heap.ExtBut s.heap.objs.size s.heap h'->wpAny (model prog w) A (assignInOrder ((assignEach cg env).map (·.2)) items.toList) Q E' { s with heap:=h' }):
  wpAny (model prog w) A (assign (.Tuple cg x1 pos) env (.ref t)) Q E' s:=by
 rw[assign_Tuple];refine X0 (wpAny_standAt ?_);unfold unpack;rw[hn,rj];exact X0 (Yl (kjf hh ht h))
end
theorem Vv(K:PySem.W.Frag){es:List Expr}{k:Nat}{t:TGs}{n:Nat}{pos:Pos}(h:PGs X es t)(hc:autoParam (X.calm=true) Ŕ)(hK:autoParam (X.K=K) Ŕ)
  (hn:autoParam ((assignEach es X.env).length=n) Ŕ) (bm:autoParam ((assignEach es X.env).findIdx? (·.1)=none) Ŕ):PG X (.Tuple es k pos) (wqa K n t):=by
 subst hK;intro pins s σ H v u Q I r hw;obtain⟨a,xs,e1,hq,hl,hw⟩:=hw;subst e1;cases r;rcases hq with hq|hq
 ·obtain⟨aa,rv,ht,hz⟩:=I.tuple hq;refine assign_Tuple_tuple (I.ok.hd hc) ht (by simp[hn,<-hl,rv.length]) bm λh' hx=>?_
  have I1:L2.Inv X pins σ H { s with heap:=h' }:=I.kept (t':=s.toks) λb o e=>hx b o (Xq (Xd e)) e
  exact h pins _ σ H xs _ Q I1 (by simpa using rv) hw
 ·obtain⟨aa,rv,ht,hz⟩:=I.list hq;refine kj2 (I.ok.hd hc) ht.isList (by simp[hn,<-hl,rv.length]) bm λh' hx=>?_
  have I1:L2.Inv X pins σ H { s with heap:=h' }:=I.kept (t':=s.toks) λb o e=>hx b o (Xq (Xd e)) e
  exact h pins _ σ H xs _ Q I1 (by simpa using rv) hw
theorem YW{is:List Nat}(h:PG X e (wqa Z.K is.length (gNs is)))(hp:autoParam (∀i∈is,i∉pn) ŕ):QG X Z pn (.t is) e:=vko h λv σ H Q ⟨E,L,z,E',m,w,ho,hv,bf,k⟩=>by
 have fin:∀ds:List D,(z.d=.lst ds\/z.d=.tup ds)->setAll is ds E=some E'->wqa Z.K is.length (gNs is) v σ H Q:=λds hd bf=>by
  obtain⟨a,xs,bs,e1,q1,r,h1,h2⟩:=items w.head hd;rw[ho]at r;refine⟨a,xs,hv.symm.trans e1,?_,by rw[kv4 bf,r.len],qxe (M:=some z::L) m w.tail r (λb hb=>w.apart b (h1 b hb)) (λb hb=>?_) Step.drop Pn.refl bf hp k⟩
  ·rcases q1 with⟨_,z'⟩|⟨_,z'⟩
   ·exact .inr z'.sq
   ·exact .inl z'
  ·rw[kQ,kxy ho];exact ll9 _ (h1 b hb)
 cases hd:z.d with
 |tup ds=>rw[hd]at bf;exact fin ds (.inr hd) bf
 |lst ds=>rw[hd]at bf;exact fin ds (.inl hd) bf
 |_=>rw[hd]at bf;cases bf
end
section
variable {X:Cx}{Z:Fx0}{pn:List Nat}{q:Bool}{tg av:Expr}{it:Ev (List D)}{t:Tg}{B:Sm}{ss:List Stmt}{pos:Pos}{σ:L2.St}{H:Hp}{L:Ls}{E:En}
theorem kv9{K:PySem.W.Frag}{T:List Sl}{H1 H2:Hp}{L1:Ls}{z:Sl}(w:World K H1 (L1++T.map some))(hT:∀t∈T,t.o=.no)(sm:k9 H1 H2)(ok:z.ok K H2)(ho:z.o=.no)(hz:∀b∈z.as,∃t∈T,b∈t.as):
  World K H2 ((some z::L1)++T.map some)/\Step H1 (L1++T.map some) H2 ((some z::L1)++T.map some):=by
 have w2:World K H2 (L1++T.map some):=⟨λx hx=>RepO.kp (w.ok x hx) (Kp.of_same sm),w.nd,w.ds⟩;have hf:∀b∈z.as,b∈jY (L1++T.map some):=λb hb=>by
  obtain⟨t,ht,hbt⟩:=hz b hb;rw[qw];exact lr9 _ (mem_frozen.mpr ⟨t,Xl ht,by rw[kxy (hT t ht)];exact hbt⟩)
 refine⟨w2.consNo ok ho λb hb hL=>w2.ds b hL (hf b hb),λa ob h _=>sm a ob h,λa ha=>?_,λa ha=>?_⟩
 ·rw[List.cons_append,jQ,qwi ho]at ha;exact .inl ha
 ·rw[List.cons_append,kQ,kxy ho]at ha;rcases List.mem_append.mp ha with q|q
  ·exact .inl (hf a q)
  ·exact .inl q
theorem stay{K:PySem.W.Frag}{T L1 L2:Ls}{H1 H2:Hp}(w:World K H1 (L1++T))(s:Step H1 L1 H2 L2)(w2:World K H2 L2):World K H2 (L2++T)/\Step H1 (L1++T) H2 (L2++T):=⟨s.frame w w2 w.left,s.frm⟩
theorem Step.dropT{T:Ls}{H1:Hp}{L1:Ls}:Step H1 (L1++T) H1 L1:=⟨λ_ _ h _=>h,λa ha=>.inl (by rw[jZ];exact ll9 _ ha),λa ha=>.inl (by rw[qw];exact ll9 _ ha)⟩
theorem Kp.trans{H H1 H2:Hp}{as:List Addr}(a:Kp H H1 as)(b:Kp H1 H2 as):Kp H H2 as:=⟨λc xs e=>b.1 c xs (a.1 c xs e),λc o u e=>b.2.1 c o u (a.2.1 c o u e),λc hc ob e=>b.2.2 c hc ob (a.2.2 c hc ob e)⟩
theorem qjz{K:PySem.W.Frag}{H2 H3:Hp}{L2 L3:Ls}{T:List Sl}(w:World K H2 (L2++T.map some))(hT:∀t∈T,t.o=.no)(s:Step H2 L2 H3 L3){H0:Hp}(h:∀t∈T,Kp H0 H2 t.as):∀t∈T,Kp H0 H3 t.as:=λt ht=>
 (h t ht).trans (s.kp w.left λb hb z=>w.ds b (by rw[jZ];exact ll9 _ z) (by
  rw[qw];exact lr9 _ (mem_frozen.mpr ⟨t,Xl ht,by rw[kxy (hT t ht)];exact hb⟩)))
theorem vzc(hp:PassesOwn (model X.prog X.w) X.A X.env X.xe)(hc:X.calm=true)(hi:QID X Z q tg it av)(hg:QG X Z pn t tg)(hb:QSs X Z pn B ss)(hs:autoParam (∀x,foldedSetIterable av X.env x=pure x) Ŗ):QS X Z pn (vK it t B) (.For tg av ss [] pos):=zw (vkm hp hc hi hg hb hs) λD σ H au=>ex7 au λE L r m w hr k=>by
 have hr:ofE (it E) (λE ds=>JZ t B ds E)=some r:=hr;rcases jza hr with⟨E1,ds,h1,h2⟩|⟨E1,c,h1,rfl⟩
 rotate_left
 ·exact⟨E,L,_,m,w,h1,k.xc,λE' s' z=>by cases z⟩
 refine⟨E,L,_,m,w,h1,(λ_ _ z=>by cases z),λE' ds' z J T L' H' m' w' st hz _ wk=>?_⟩;injection z with z1 z2;subst z1 z2;have jy:∀{H2:Hp} {L2:Ls},World Z.K H2 (L2++T.map some)->∀t∈T,t.ok Z.K H2:=λw2 t ht=>w2.ok t (lr9 _ (Xl ht))
 refine⟨λi n σ1 H1=>∃E1 L1,Mt E1 σ1 L1/\World Z.K H1 (L1++T.map some)/\Step H L H1 (L1++T.map some)/\Pn pn σ σ1/\JZ t B (ds.drop i) E1=some r/\i<=ds.length/\n=ds.length - i/\∀t∈T,Kp H' H1 t.as,⟨_,E1,L',m',w',st,Pn.refl,h2,Z1 _,rfl,λ_ _=>Kp.of_same xj⟩,?_⟩;rintro i n σ1 H1 ⟨E1,L1,m1,w1,jg,p1,f1,hi,rfl,pins⟩
 by_cases em:i<ds.length
 ·have hd:ds.drop i=ds[i]::ds.drop (i+1):=List.drop_eq_getElem_cons em;rw [hd]at f1;unfold JZ at f1;cases bf:t.put ds[i] E1 with
  | none=>rw[bf]at f1;cases f1
  | some E2=>
   rw[bf]at f1;dsimp only at f1;refine .inr ⟨wk.go i H1 ⟨jy w1,pins⟩ em,fun σ2 H2=>∃E2 L2,Mt E2 σ2 L2/\World Z.K H2 (L2++T.map some)/\Step H L H2 (L2++T.map some)/\Pn pn σ σ2/\JZ t B (ds.drop (i+1)) E2=some r/\∀t∈T,Kp H' H2 t.as,fun σ2 H2 ⟨E2,L2,a1,a2,a3,a4,a5,a6⟩=>⟨ds.length - (i+1),by omega,E2,L2,a1,a2,a3,a4,a5,em,rfl,a6⟩,λv H2 hy=>?_⟩;obtain⟨z,zo,zd,zv,sm,rn,zas⟩:=wk.yld i H1 v H2 ds[i] ⟨jy w1,pins⟩ hy (X2 em);obtain⟨wz,sz⟩:=kv9 w1 wk.no sm rn zo zas;refine⟨E1,L1,z,E2,m1,wz.left,zo,zv,by rw[zd];exact bf,fun σ2 L2 p2 m2 w2 be=>?_⟩;obtain⟨w3,ef⟩:=stay wz be w2;have km:Step H L H2 (L2++T.map some):=jg.trans (sz.trans ef);have my:∀t∈T,Kp H' H2 t.as:=λt ht=>(pins t ht).trans (Kp.of_same sm)
   cases hB:B E2 with
   | none=>rw[hB]at f1;cases f1
   | some g=>
    rw[hB]at f1;refine⟨E2,L2,g,m2,w2,hB,?_⟩;have fin:∀{g:Fl},g=r->(∀ σ',D.nx σ'=D.nx σ')->FlP Z pn D σ2 H2 (L2++T.map some) g:=λe _=>e▸k.step km (p1.trans p2)
    cases g with
    |nx E3=>
     intro σ3 L3 H3 p3 m3 w4 s3;obtain⟨w5,s5⟩:=stay w3 s3 w4;exact⟨E3,L3,m3,w5,km.trans s5,(p1.trans p2).trans p3,f1,qjz w3 wk.no s3 my⟩
    |ct E3=>
     intro σ3 L3 H3 p3 m3 w4 s3;obtain⟨w5,s5⟩:=stay w3 s3 w4;exact⟨E3,L3,m3,w5,km.trans s5,(p1.trans p2).trans p3,f1,qjz w3 wk.no s3 my⟩
    |bk E3=>
     have e:=oq9 f1;subst e;intro σ3 L3 H3 p3 m3 w4 s3;exact k σ3 L3 H3 ((p1.trans p2).trans p3) m3 w4 ((km.trans Step.dropT).trans s3)
    |rt E3 x=>
     have e:=oq9 f1;subst e;intro y σ3 L3 H3 e1 e2 p3 m3 w4 s3;exact k y σ3 L3 H3 e1 e2 ((p1.trans p2).trans p3) m3 w4 ((km.trans Step.dropT).trans s3)
    |xc E3 c=>
     have e:=oq9 f1;subst e;intro C σ3 L3 H3 hm p3 m3 w4 s3;exact k C σ3 L3 H3 hm ((p1.trans p2).trans p3) m3 w4 ((km.trans Step.dropT).trans s3)
 ·have e:i=ds.length:=by omega
  subst e;rw[List.drop_length]at f1;cases oq9 f1;exact .inl ⟨wk.stop H1 ⟨jy w1,pins⟩,k σ1 L1 H1 p1 m1 w1.left (jg.trans Step.dropT)⟩
theorem wv5(hp:PassesOwn (model X.prog X.w) X.A X.env X.xe)(hc:X.calm=true)(hi:QI X Z q tg it av)(hg:QG X Z pn t tg)(hb:QSs X Z pn B ss)(hs:autoParam (∀x,foldedSetIterable av X.env x=pure x) Ŗ):QS X Z pn (vK it t B) (.For tg av ss [] pos):=vzc hp hc hi.D hg hb hs
end
mutual
noncomputable def jX(h:Heap):D->Value->Prop
 |.non,u=>u=.none
 |.bl b,u=>u=.bool b
 |.int i,u=>∃t,u=.int i t
 |.str z,u=>∃t,u=.str z t
 |.tup ds,u=>∃a us,u=.ref a/\h.IsTuple a us.toArray/\CReps h ds us
 |.lst ds,u=>∃a us,u=.ref a/\h.IsList a us.toArray/\CReps h ds us
 |.dct _,_=>False
 |.obj _ _,_=>False
noncomputable def CReps(h:Heap):List D->List Value->Prop
 |[],us=>us=[]
 |d::ds,us=>∃u r,us=u::r/\jX h d u/\CReps h ds r
end
theorem qkj{n:Nat}{k:List (D×D)}:D.flat n (.dct k)=false:=by cases n<;>simp[D.flat]
theorem qki{n:Nat}{c:Str}{k:List (Str×D)}:D.flat n (.obj c k)=false:=by cases n<;>simp[D.flat]
section
variable {X:Cx}{pins:List (Addr×Obj)}{σ:L2.St}{H:Hp}{s:Shared}
mutual
theorem XW(I:Inv X pins σ H s){g:Bool}:∀{n:Nat} {d:D} {v:V} {as:List Addr} {u:Value},RepL X.K H g d v as->d.flat n=true->RelV v u->jX s.heap d u
 | _,.non,_,_,_,h,_,r=>by
  unfold RepL at h;rw[h.1]at r;unfold jX;exact r
 | _,.bl _,_,_,_,h,_,r=>by
  unfold RepL at h;rw[h.1]at r;unfold jX;exact r
 | _,.int _,_,_,_,h,_,r=>by
  unfold RepL at h;rw[h.1]at r;unfold jX;exact r
 | _,.str _,_,_,_,h,_,r=>by
  unfold RepL at h;rw[h.1]at r;unfold jX;exact r
 | 0,.tup ds,_,_,_,h,f,r=>by unfold D.flat at f;cases f
 | n+1,.tup ds,_,_,_,h,f,r=>by
  unfold RepL at h;unfold D.flat at f;obtain⟨a,xs,rfl,q,ra⟩:=h;cases r;obtain⟨aa,rv,p,_⟩:=I.tuple q;unfold jX;exact⟨a,aa,rfl,p,creps_of I ra f rv⟩
 | 0,.lst ds,_,_,_,h,f,r=>by unfold D.flat at f;cases f
 | n+1,.lst ds,_,_,_,h,f,r=>by
  unfold RepL at h;unfold D.flat at f;obtain⟨a,xs,bs,rfl,ra,q⟩:=h;cases r;have q':SqL X.K H a xs:=by
   rcases q with⟨q,_⟩|⟨_,q,_⟩
   ·exact SqL.of q
   ·exact(LsR.of q).sq
  obtain⟨aa,rv,p,_⟩:=I.list q';unfold jX;exact⟨a,aa,rfl,p.isList,creps_of I ra f rv⟩
 |_,.dct _,_,_,_,h,f,r=>by rw[qkj]at f;cases f
 |_,.obj _ _,_,_,_,h,f,r=>by rw[qki]at f;cases f
theorem creps_of(I:Inv X pins σ H s){g:Bool}:∀{n:Nat} {ds:List D} {xs:List V} {as:List Addr} {us:List Value},RepA X.K H g ds xs as->D.flats n ds=true->Vals xs us->CReps s.heap ds us
 | _,[],_,_,_,h,_,r=>by
  unfold RepA at h;rw[h.1]at r;cases r;unfold CReps;rfl
 | n,d::ds,_,_,_,h,f,r=>by
  unfold RepA at h;unfold D.flats at f;rw[Bool.and_eq_true]at f;obtain⟨x,rr,bs,cs,rfl,rfl,h1,h2⟩:=h;cases r with
  |cons r1 r2=>
   unfold CReps;exact⟨_,_,rfl,XW I h1 f.1 r1,creps_of I h2 f.2 r2⟩
end
end
theorem CReps.len{h:Heap}:∀{ds:List D} {us:List Value},CReps h ds us->ds.length=us.length
 |[],_,r=>by unfold CReps at r;rw[r];rfl
 |d::ds,_,r=>by
  unfold CReps at r;obtain⟨u,rr,rfl,_,h2⟩:=r;simp[CReps.len h2]
theorem CReps.get{h:Heap}:∀{ds:List D} {us:List Value} {j:Nat} {d:D},CReps h ds us->ds[j]?=some d->∃u,us[j]?=some u/\jX h d u
 | [],_,_,_,_,e=>by simp at e
 | d::ds,_,j,d',r,e=>by
  unfold CReps at r;obtain⟨u,rr,rfl,h1,h2⟩:=r;cases j with
  |zero=>
   have e:d=d':=by simpa using e
   subst e;exact⟨u,by simp,h1⟩
  |succ j=>
   obtain⟨w,e1,e2⟩:=CReps.get (j:=j) h2 (by simpa using e);exact⟨w,by simpa using e1,e2⟩
theorem vqn{h:Heap}{a:Addr}{x y:Array Value}(p:h.IsTuple a x)(q:h.IsTuple a y):x=y:=by
 obtain⟨o,h1,_,n,h2⟩:=p;obtain⟨o',h3,_,n',h4⟩:=q;rw[h1]at h3;cases h3;rw[h2]at h4;injection h4
theorem vw3{h:Heap}{a:Addr}{x y:Array Value}(p:h.IsList a x)(q:h.IsList a y):x=y:=by
 obtain⟨o,h1,_,n,h2⟩:=p;obtain⟨o',h3,_,n',h4⟩:=q;rw[h1]at h3;cases h3;rw[h2]at h4;injection h4
theorem qwq{h:Heap}{a:Addr}{x y:Array Value}(p:h.IsList a x)(q:h.IsTuple a y):False:=by
 obtain⟨o,h1,h2,_⟩:=p;obtain⟨o',h3,h4,_⟩:=q;rw[h1]at h3;cases h3;rw[h2]at h4;exact absurd (Value.type.inj h4) (by decide)
mutual
theorem kwc{h:Heap}:∀{d d':D} {u:Value},jX h d u->jX h d' u->d=d'
 | .non,d',u,a,b=>by
  unfold jX at a;subst a;cases d'<;>unfold jX at b<;>first|rfl|exact b.elim|(cases b;done)|(obtain⟨_,b⟩:=b;cases b;done)|(obtain⟨_,_,b,_⟩:=b;cases b)
 | .bl k,d',u,a,b=>by
  unfold jX at a;subst a;cases d'<;>unfold jX at b<;>first|exact b.elim|(cases b;rfl)|(cases b;done)|(obtain⟨_,b⟩:=b;cases b;done)|(obtain⟨_,_,b,_⟩:=b;cases b)
 | .int k,d',u,a,b=>by
  unfold jX at a;obtain⟨t,rfl⟩:=a;cases d'<;>unfold jX at b<;>first|exact b.elim|(cases b;done)|(obtain⟨_,b⟩:=b;cases b;rfl)|(obtain⟨_,b⟩:=b;cases b;done)|(obtain⟨_,_,b,_⟩:=b;cases b)
 | .str k,d',u,a,b=>by
  unfold jX at a;obtain⟨t,rfl⟩:=a;cases d'<;>unfold jX at b<;>first|exact b.elim|(cases b;done)|(obtain⟨_,b⟩:=b;cases b;rfl)|(obtain⟨_,b⟩:=b;cases b;done)|(obtain⟨_,_,b,_⟩:=b;cases b)
 | .tup ds,d',u,a,b=>by
  unfold jX at a;obtain⟨x,us,rfl,p,r⟩:=a;cases d' with
  |tup es=>
   unfold jX at b;obtain⟨y,ws,e,p',r'⟩:=b;cases e;have e2:us=ws:=by simpa using vqn p p'
   subst e2;rw[creps_inj r r']
  |lst es=>
   unfold jX at b;obtain⟨y,ws,e,p',r'⟩:=b;cases e;exact(qwq p' p).elim
  |non=>unfold jX at b;cases b
  |bl k=>unfold jX at b;cases b
  |int k=>unfold jX at b;obtain⟨_,b⟩:=b;cases b
  |str k=>unfold jX at b;obtain⟨_,b⟩:=b;cases b
  |dct k=>unfold jX at b;exact b.elim
  |obj k l=>unfold jX at b;exact b.elim
 | .lst ds,d',u,a,b=>by
  unfold jX at a;obtain⟨x,us,rfl,p,r⟩:=a;cases d' with
  |lst es=>
   unfold jX at b;obtain⟨y,ws,e,p',r'⟩:=b;cases e;have e2:us=ws:=by simpa using vw3 p p'
   subst e2;rw[creps_inj r r']
  |tup es=>
   unfold jX at b;obtain⟨y,ws,e,p',r'⟩:=b;cases e;exact(qwq p p').elim
  |non=>unfold jX at b;cases b
  |bl k=>unfold jX at b;cases b
  |int k=>unfold jX at b;obtain⟨_,b⟩:=b;cases b
  |str k=>unfold jX at b;obtain⟨_,b⟩:=b;cases b
  |dct k=>unfold jX at b;exact b.elim
  |obj k l=>unfold jX at b;exact b.elim
 |.dct k,_,_,a,_=>by unfold jX at a;exact a.elim
 |.obj k l,_,_,a,_=>by unfold jX at a;exact a.elim
theorem creps_inj{h:Heap}:∀{ds ds':List D} {us:List Value},CReps h ds us->CReps h ds' us->ds=ds'
 | [],ds',us,a,b=>by
  unfold CReps at a;subst a;cases ds' with
  |nil=>rfl
  |cons d ds=>unfold CReps at b;obtain⟨_,_,e,_⟩:=b;cases e
 | d::ds,ds',us,a,b=>by
  unfold CReps at a;obtain⟨u,r,rfl,h1,h2⟩:=a;cases ds' with
  |nil=>unfold CReps at b;cases b
  |cons d' ds'=>
   unfold CReps at b;obtain⟨u',r',e,h3,h4⟩:=b;cases e;rw[kwc h1 h3,creps_inj h2 h4]
end
mutual
theorem WQ:∀{n:Nat} {d:D},d.flat n=true->peq d d=true
 |_,.non,_=>by unfold peq;rfl
 |_,.bl b,_=>by unfold peq;simp
 |_,.int b,_=>by unfold peq;simp
 |_,.str b,_=>by unfold peq;simp
 |0,.tup ds,f=>by unfold D.flat at f;cases f
 |n+1,.tup ds,f=>by unfold peq;unfold D.flat at f;exact peqs_refl f
 |0,.lst ds,f=>by unfold D.flat at f;cases f
 |n+1,.lst ds,f=>by unfold peq;unfold D.flat at f;exact peqs_refl f
 |_,.dct _,f=>by rw[qkj]at f;cases f
 |_,.obj _ _,f=>by rw[qki]at f;cases f
theorem peqs_refl:∀{n:Nat} {d:List D},D.flats n d=true->peqs d d=true
 |_,[],_=>by unfold peqs;rfl
 |n,d::ds,f=>by
  unfold D.flats at f;rw[Bool.and_eq_true]at f;unfold peqs;rw[WQ f.1,peqs_refl f.2];rfl
end
theorem jze : ∀{n : Nat} {ds : List D} {j : Nat} {d : D}, D.flats n ds = true -> ds[j]? = some d -> d.flat n = true
  | _, [], _, _, _, e=>by simp at e
  | n, d::ds, j, d', f, e=>by
    unfold D.flats at f;rw[Bool.and_eq_true]at f;cases j with
    | zero => have e : d = d':= by simpa using e
              subst e; exact f.1
    |succ j=>exact jze (j:= j) f.2 (by simpa using e)
def pAt(as bs:List D)(j:Nat):Bool:=match as[j]?,bs[j]? with
 |some a,some b=>peq a b
 |_,_=>true
theorem jx3:∀(as bs:List D),as.length=bs.length->(List.range as.length).all (pAt as bs)=peqs as bs
 |[],[],_=>by unfold peqs;rfl
 |a::as,b::bs,h=>by
  have ih:=jx3 as bs (by simpa using h);rw[Xb,List.range_succ_eq_map,List.all_cons,List.all_map];unfold peqs;rw[<-ih];rfl
 |[],_::_,h=>by simp at h
 |_::_,[],h=>by simp at h
theorem kjx:∀(as bs:List D),as.length≠bs.length->peqs as bs=false
 |[],[],h=>by simp at h
 |a::as,b::bs,h=>by
  unfold peqs;rw[kjx as bs (by simpa using h),Bool.and_false]
 |[],_::_,_=>by unfold peqs;rfl
 |_::_,[],_=>by unfold peqs;rfl
theorem qjg(as bs:List D):((List.range (min as.length bs.length)).all (pAt as bs)&&as.length==bs.length)=peqs as bs:=by
 by_cases e:as.length=bs.length
 ·rw[<-e,Nat.min_self,jx3 as bs e];simp[e]
 ·rw[kjx as bs e];have:(as.length==bs.length)=false:=by simpa using e
  rw[this,Bool.and_false]
section
variable {s:Shared}
theorem kzy{as bs:List D}{us ws:List Value}{A:Around}(ra:CReps s.heap as us)(rb:CReps s.heap bs ws)
  (h:∀(j:Nat) (d d':D) (u w:Value),as[j]?=some d->bs[j]?=some d'->jX s.heap d u->jX s.heap d' w->SeqAt.EqAt A s u w (peq d d')):
  ∀j (h1:j<us.toArray.size) (h2:j<ws.toArray.size),SeqAt.EqAt A s us.toArray[j] ws.toArray[j] (pAt as bs j):=λj h1 h2=>by
 have l1:=ra.len;have l2:=rb.len;simp only[X6]at h1 h2;have ha:j<as.length:=by omega
 have hb:j<bs.length:=by omega
 obtain⟨u,eu,ru⟩:=ra.get (X2 ha);obtain⟨w,ew,qc⟩:=rb.get (X2 hb);have e1:us.toArray[j]=u:=by
  obtain⟨_,q⟩:=List.getElem?_eq_some_iff.mp eu
  simpa using q
 have e2:ws.toArray[j]=w:=by
  obtain⟨_,q⟩:=List.getElem?_eq_some_iff.mp ew
  simpa using q
 have e3:pAt as bs j=peq as[j] bs[j]:=by
  unfold pAt;rw[X2 ha,X2 hb]
 rw[e1,e2,e3];exact h j _ _ u w (X2 ha) (X2 hb) ru qc
inductive Cv (h:Heap):D->Value->Prop
 |non:Cv h .non .none
 |bl (b:Bool):Cv h (.bl b) (.bool b)
 |int (i:Int) (t:_):Cv h (.int i) (.int i t)
 |str (z:Str) (t:_):Cv h (.str z) (.str z t)
 |lst {ds:List D} {a:Addr} {us:List Value} (p:h.IsList a us.toArray) (q:CReps h ds us):Cv h (.lst ds) (.ref a)
 |tup {ds:List D} {a:Addr} {us:List Value} (p:h.IsTuple a us.toArray) (q:CReps h ds us):Cv h (.tup ds) (.ref a)
theorem crv{h:Heap}{d:D}{u:Value}(r:jX h d u):Cv h d u:=by
 cases d<;>unfold jX at r
 all_goals first|exact r.elim|(subst r;constructor)|(obtain⟨_,rfl⟩:=r;constructor)|(obtain⟨_,_,rfl,p,q⟩:=r;first|exact .lst p q|exact .tup p q)
theorem vz1{A:Around}{d d':D}{u w:Value}(hu:A.units<cLine)(r:jX s.heap d u)(r':jX s.heap d' w)
  (el:∀(as bs:List D) (us ws:List Value),(d=.lst as\/d=.tup as)->(d'=.lst bs\/d'=.tup bs)->CReps s.heap as us->CReps s.heap bs ws->∀j (h1:j<us.toArray.size) (h2:j<ws.toArray.size),SeqAt.EqAt A.in1 s us.toArray[j] ws.toArray[j] (pAt as bs j)):
  SeqAt.RcAt A s u w (peq d d'):=by
 cases crv r<;>cases crv r'<;>unfold peq
 ·exact SeqAt.RcAt.none_none
 ·exact SeqAt.RcAt.none_bool _
 ·exact SeqAt.RcAt.none_int _ _
 ·exact SeqAt.RcAt.none_str _ _
 ·exact SeqAt.RcAt.none_list ‹_› hu
 ·exact SeqAt.RcAt.none_tuple ‹_› hu
 ·exact SeqAt.RcAt.bool_none _
 ·exact SeqAt.RcAt.bool_bool _ _
 ·exact SeqAt.RcAt.bool_int _ _ _
 ·exact SeqAt.RcAt.bool_str _ _ _
 ·exact SeqAt.RcAt.bool_list _ ‹_› hu
 ·exact SeqAt.RcAt.bool_tuple _ ‹_› hu
 ·exact SeqAt.RcAt.int_none _ _
 ·exact SeqAt.RcAt.int_bool _ _ _
 ·exact SeqAt.RcAt.int_int _ _ _ _
 ·exact SeqAt.RcAt.int_str _ _ _ _
 ·exact SeqAt.RcAt.int_list _ _ ‹_› hu
 ·exact SeqAt.RcAt.int_tuple _ _ ‹_› hu
 ·exact SeqAt.RcAt.str_none _ _
 ·exact SeqAt.RcAt.str_bool _ _ _
 ·exact SeqAt.RcAt.str_int _ _ _ _
 ·exact SeqAt.RcAt.str_str _ _ _ _
 ·exact SeqAt.RcAt.str_list _ _ ‹_› hu
 ·exact SeqAt.RcAt.str_tuple _ _ ‹_› hu
 ·exact SeqAt.RcAt.list_none ‹_› hu
 ·exact SeqAt.RcAt.list_bool _ ‹_› hu
 ·exact SeqAt.RcAt.list_int _ _ ‹_› hu
 ·exact SeqAt.RcAt.list_str _ _ ‹_› hu
 ·rename_i as a us p ra bs b ws p' rb;have l1:=ra.len;have l2:=rb.len
  by_cases hl:as.length=bs.length
  ·rw[<-jx3 as bs hl];have z:=SeqAt.RcAt.lists (A:=A) (s:=s) (e:=pAt as bs) p p' (by simp only[X6];omega) hu (el as bs us ws (.inl rfl) (.inl rfl) ra rb);rw[X6,<-l1]at z;exact z
  ·rw[kjx as bs hl];exact SeqAt.RcAt.lists_lengths p p' (by simp only[X6,bne_iff_ne];omega) hu
 ·exact SeqAt.RcAt.list_tuple ‹_› ‹_› hu
 ·exact SeqAt.RcAt.tuple_none ‹_› hu
 ·exact SeqAt.RcAt.tuple_bool _ ‹_› hu
 ·exact SeqAt.RcAt.tuple_int _ _ ‹_› hu
 ·exact SeqAt.RcAt.tuple_str _ _ ‹_› hu
 ·exact SeqAt.RcAt.tuple_list ‹_› ‹_› hu
 ·rename_i as a us p ra bs b ws p' rb;have l1:=ra.len;have l2:=rb.len;rw[<-qjg as bs];have z:=SeqAt.RcAt.tuples (A:=A) (s:=s) (e:=pAt as bs) p p' hu (el as bs us ws (.inr rfl) (.inr rfl) ra rb);rw[X6,X6,<-l1,<-l2]at z;exact z
theorem wqw{A:Around}{d d':D}{u w:Value}(hu:A.units<cLine)(r:jX s.heap d u)(r':jX s.heap d' w)
  (el:∀(as bs:List D) (us ws:List Value),(d=.lst as\/d=.tup as)->(d'=.lst bs\/d'=.tup bs)->CReps s.heap as us->CReps s.heap bs ws->∀j (h1:j<us.toArray.size) (h2:j<ws.toArray.size),SeqAt.EqAt A.in1 s us.toArray[j] ws.toArray[j] (pAt as bs j)):
  SeqAt.RcNeAt A s u w (!peq d d'):=by
 cases crv r<;>cases crv r'<;>unfold peq
 ·exact SeqAt.RcNeAt.none_none
 ·exact SeqAt.RcNeAt.none_bool _
 ·exact SeqAt.RcNeAt.none_int _ _
 ·exact SeqAt.RcNeAt.none_str _ _
 ·exact SeqAt.RcNeAt.none_list ‹_› hu
 ·exact SeqAt.RcNeAt.none_tuple ‹_› hu
 ·exact SeqAt.RcNeAt.bool_none _
 ·exact SeqAt.RcNeAt.bool_bool _ _
 ·exact SeqAt.RcNeAt.bool_int _ _ _
 ·exact SeqAt.RcNeAt.bool_str _ _ _
 ·exact SeqAt.RcNeAt.bool_list _ ‹_› hu
 ·exact SeqAt.RcNeAt.bool_tuple _ ‹_› hu
 ·exact SeqAt.RcNeAt.int_none _ _
 ·exact SeqAt.RcNeAt.int_bool _ _ _
 ·exact SeqAt.RcNeAt.int_int _ _ _ _
 ·exact SeqAt.RcNeAt.int_str _ _ _ _
 ·exact SeqAt.RcNeAt.int_list _ _ ‹_› hu
 ·exact SeqAt.RcNeAt.int_tuple _ _ ‹_› hu
 ·exact SeqAt.RcNeAt.str_none _ _
 ·exact SeqAt.RcNeAt.str_bool _ _ _
 ·exact SeqAt.RcNeAt.str_int _ _ _ _
 ·exact SeqAt.RcNeAt.str_str _ _ _ _
 ·exact SeqAt.RcNeAt.str_list _ _ ‹_› hu
 ·exact SeqAt.RcNeAt.str_tuple _ _ ‹_› hu
 ·exact SeqAt.RcNeAt.list_none ‹_› hu
 ·exact SeqAt.RcNeAt.list_bool _ ‹_› hu
 ·exact SeqAt.RcNeAt.list_int _ _ ‹_› hu
 ·exact SeqAt.RcNeAt.list_str _ _ ‹_› hu
 ·rename_i as a us p ra bs b ws p' rb;have l1:=ra.len;have l2:=rb.len
  by_cases hl:as.length=bs.length
  ·rw[<-jx3 as bs hl];have z:=SeqAt.RcNeAt.lists (A:=A) (s:=s) (e:=pAt as bs) p p' (by simp only[X6];omega) hu (el as bs us ws (.inl rfl) (.inl rfl) ra rb);rw[X6,<-l1]at z;exact z
  ·rw[kjx as bs hl];exact SeqAt.RcNeAt.lists_lengths p p' (by simp only[X6,bne_iff_ne];omega) hu
 ·exact SeqAt.RcNeAt.list_tuple ‹_› ‹_› hu
 ·exact SeqAt.RcNeAt.tuple_none ‹_› hu
 ·exact SeqAt.RcNeAt.tuple_bool _ ‹_› hu
 ·exact SeqAt.RcNeAt.tuple_int _ _ ‹_› hu
 ·exact SeqAt.RcNeAt.tuple_str _ _ ‹_› hu
 ·exact SeqAt.RcNeAt.tuple_list ‹_› ‹_› hu
 ·rename_i as a us p ra bs b ws p' rb;have l1:=ra.len;have l2:=rb.len;rw[<-qjg as bs];have z:=SeqAt.RcNeAt.tuples (A:=A) (s:=s) (e:=pAt as bs) p p' hu (el as bs us ws (.inr rfl) (.inr rfl) ra rb);rw[X6,X6,<-l1,<-l2]at z;exact z
theorem kwa{A:Around}{a a':Addr}{b:Bool}(lv:Value.ref a=Value.ref a'->b=true)(rc:SeqAt.RcAt A s (.ref a) (.ref a') b):SeqAt.EqAt A s (.ref a) (.ref a') b:=by
 by_cases e:a=a'
 ·subst e;rw[lv rfl];exact SeqAt.EqAt.same _
 ·exact SeqAt.EqAt.of_refs e rc
theorem ww0{A:Around}{d d':D}{u w:Value}(hu:A.units<cLine)(r:jX s.heap d u)(r':jX s.heap d' w)(lv:u=w->peq d d'=true)(rc:SeqAt.RcAt A s u w (peq d d')):SeqAt.EqAt A s u w (peq d d'):=by
 cases crv r<;>cases crv r'<;>try unfold peq
 ·exact SeqAt.EqAt.same _
 ·exact SeqAt.EqAt.none_bool _
 ·exact SeqAt.EqAt.none_int _ _
 ·exact SeqAt.EqAt.none_str _ _
 ·exact SeqAt.EqAt.none_list ‹_› hu
 ·exact SeqAt.EqAt.none_tuple ‹_› hu
 ·exact SeqAt.EqAt.bool_none _
 ·exact SeqAt.EqAt.bool_bool _ _
 ·exact SeqAt.EqAt.bool_int _ _ _
 ·exact SeqAt.EqAt.bool_str _ _ _
 ·exact SeqAt.EqAt.bool_list _ ‹_› hu
 ·exact SeqAt.EqAt.bool_tuple _ ‹_› hu
 ·exact SeqAt.EqAt.int_none _ _
 ·exact SeqAt.EqAt.int_bool _ _ _
 ·exact SeqAt.EqAt.int_int _ _ _ _
 ·exact SeqAt.EqAt.int_str _ _ _ _
 ·exact SeqAt.EqAt.int_list _ _ ‹_› hu
 ·exact SeqAt.EqAt.int_tuple _ _ ‹_› hu
 ·exact SeqAt.EqAt.str_none _ _
 ·exact SeqAt.EqAt.str_bool _ _ _
 ·exact SeqAt.EqAt.str_int _ _ _ _
 ·exact SeqAt.EqAt.str_str _ _ _ _
 ·exact SeqAt.EqAt.str_list _ _ ‹_› hu
 ·exact SeqAt.EqAt.str_tuple _ _ ‹_› hu
 ·exact SeqAt.EqAt.list_none ‹_› hu
 ·exact SeqAt.EqAt.list_bool _ ‹_› hu
 ·exact SeqAt.EqAt.list_int _ _ ‹_› hu
 ·exact SeqAt.EqAt.list_str _ _ ‹_› hu
 ·exact kwa lv rc
 ·exact kwa lv rc
 ·exact SeqAt.EqAt.tuple_none ‹_› hu
 ·exact SeqAt.EqAt.tuple_bool _ ‹_› hu
 ·exact SeqAt.EqAt.tuple_int _ _ ‹_› hu
 ·exact SeqAt.EqAt.tuple_str _ _ ‹_› hu
 ·exact kwa lv rc
 ·exact kwa lv rc
theorem qkk:∀(n:Nat) {d d':D} {u w:Value} {A:Around},d.flat n=true->jX s.heap d u->jX s.heap d' w->A.units+n<cLine->SeqAt.EqAt A s u w (peq d d')
 | n,d,d',u,w,A,f,r,r',hu=>by
  refine ww0 (by omega) r r' (λe=>?_) (vz1 (by omega) r r' λas bs us ws h1 h2 ra rb=>?_)
  rotate_left
  ·cases n with
   |zero=>rcases h1 with rfl|rfl<;>(unfold D.flat at f;cases f)
   |succ n=>
    have fs:D.flats n as=true:=by rcases h1 with rfl|rfl<;>(unfold D.flat at f;exact f)
    exact kzy ra rb λj d d' u w e1 e2 q1 q2=>qkk n (jze fs e1) q1 q2 (by have:=L3.in1_units A;omega)
  ·subst e;rw[kwc r' r];exact WQ f
end
section
variable {X:Cx}{Z:Fx0}{K:PySem.W.Frag}
noncomputable def wwx(K:PySem.W.Frag):R2:=λx y H Q=>∃d d' as bs,RepL K H true d x as/\RepL K H true d' y bs/\d.flat 40=true/\d'.flat 40=true/\Q (.bl (peq d d')) H
noncomputable def wws(K:PySem.W.Frag):R2:=λx y H Q=>∃d d' as bs,RepL K H true d x as/\RepL K H true d' y bs/\d.flat 40=true/\d'.flat 40=true/\Q (.bl (!peq d d')) H
theorem vX(hu:X.A.units+64<cLine)(hK:autoParam (X.K=K) Ŕ):OpR X (compareOp .Eq) (wwx K):=by
 subst hK;intro pins s σ H x y v u Q I rx ry h;obtain⟨d,d',as,bs,h1,h2,f1,f2,q⟩:=h;have c1:=XW I h1 f1 rx;have c2:=XW I h2 f2 ry;refine vz1 (by omega) c1 c2 (λas bs us ws e1 e2 ra rb=>kzy ra rb λj d d' u w e3 e4 q1 q2=>?_) _ _ _ _ ⟨.bl _,H,I,rfl,q⟩;have fs:D.flats 39 as=true:=by rcases e1 with rfl|rfl<;>(unfold D.flat at f1;exact f1)
 exact qkk 39 (jze fs e3) q1 q2 (by have:=L3.in1_units X.A;omega)
theorem zZ(hu:X.A.units+64<cLine)(hK:autoParam (X.K=K) Ŕ):OpR X (compareOp .NotEq) (wws K):=by
 subst hK;intro pins s σ H x y v u Q I rx ry h;obtain⟨d,d',as,bs,h1,h2,f1,f2,q⟩:=h;have c1:=XW I h1 f1 rx;have c2:=XW I h2 f2 ry;refine wqw (by omega) c1 c2 (λas bs us ws e1 e2 ra rb=>kzy ra rb λj d d' u w e3 e4 q1 q2=>?_) _ _ _ _ ⟨.bl _,H,I,rfl,q⟩;have fs:D.flats 39 as=true:=by rcases e1 with rfl|rfl<;>(unfold D.flat at f1;exact f1)
 exact qkk 39 (jze fs e3) q1 q2 (by have:=L3.in1_units X.A;omega)
theorem vY:Ad2 K (wwx K) (pu2 fEq):=by
 intro H x y s Q ox oy hf k;unfold pu2 fEq at hf;dsimp only at hf
 by_cases hc:(x.d.flat 40&&y.d.flat 40)=true
 ·rw[Xf hc]at hf;rw[Bool.and_eq_true]at hc;cases oq9 hf;exact⟨x.d,y.d,x.as,y.as,RepO.wk ox,RepO.wk oy,hc.1,hc.2,k ⟨.dp,.bl _,.bl _,[]⟩ H rfl rfl xJ⟩
 ·rw[Xm hc]at hf;cases hf
theorem zq:Ad2 K (wws K) (pu2 fNe):=by
 intro H x y s Q ox oy hf k;unfold pu2 fNe at hf;dsimp only at hf
 by_cases hc:(x.d.flat 40&&y.d.flat 40)=true
 ·rw[Xf hc]at hf;rw[Bool.and_eq_true]at hc;cases oq9 hf;exact⟨x.d,y.d,x.as,y.as,RepO.wk ox,RepO.wk oy,hc.1,hc.2,k ⟨.dp,.bl _,.bl _,[]⟩ H rfl rfl xJ⟩
 ·rw[Xm hc]at hf;cases hf
end
end Q
namespace Q
open PySem PySem.Spec PyProof.Rows L2 L3
abbrev Sl.sd(x:Sl):Sd:=(x.o,x.d)
noncomputable def tA(Z:Fx0)(q:Bool)(cs:List Ex):TA:=fun σ H Q=>∃E L r,Mt E σ L/\World Z.K H L/\vk cs E=some r/\Xc Z σ H L r /\
 ∀E' ys,r=.ok E' ys->∀(xs:List Sl) L' H',xs.map Sl.sd=ys->Mt E' σ L'->World Z.K H' (xs.map some++L')->Step H L H' (xs.map some++L')->(q=true->k9 H H'/\∀b∈j8 (xs.map some),H b=none)->Q (xs.map Sl.v) H'
def QA(X:Cx)(Z:Fx0)(q:Bool)(cs:List Ex)(es:List Expr):Prop:=PA X es (tA Z q cs)
theorem kx8{X:Cx}{es:List Expr}{t t':TA}(h:PA X es t)(w:∀ σ H Q,t' σ H Q->t σ H Q):PA X es t':=λpos pins s σ H Q I q=>h pos pins s σ H Q I (w σ H Q q)
section
variable {X:Cx}{Z:Fx0}{pn:List Nat}{q:Bool}{c:Ex}{cs:List Ex}{e:Expr}{es:List Expr}{pos:Pos}{σ:L2.St}{H:Hp}{L:Ls}{E:En}
theorem jv:QA X Z true [] []:=kx8 wW fun σ H Q au=>ex8 au λE L r m w hc xc k=>by
 cases oq9 hc;exact k _ _ rfl [] L H rfl m w Step.refl λ_=>⟨λ_ _ z=>z,λ_ z=>(nomatch z)⟩
theorem j5(h:QE X Z q c e)(hs:QA X Z q cs es)(bm:autoParam (starEach (e::es) X.env=(false,eval e X.env)::starEach es X.env) Ŕ):QA X Z q (c::cs) (e::es):=
 kx8 (vZ h hs bm) fun σ H Q au=>ex8 au λE L r m w hc xc k=>by
  refine Wz m w (show bnd (c E) _=some r from hc) xc λE1 s h1 x L1 H1 e1 e2 m1 w1 st sm=>?_
  have s1:Step H L H1 L1:=st.trans Step.drop;rcases ww h1 with⟨E2,ys,h2,h3⟩|⟨E2,cc,h2,h3⟩
  ·cases oq9 h3;refine⟨E1,L1,_,m1,w1.tail,h2,(λ_ _ z=>by cases z),λE' ys' z xs L2 H2 e3 m2 w2 be fj=>?_⟩;injection z with z1 z2;subst z1 z2;obtain⟨w3,ef⟩:=wk4 (T:=[some x]) w1 be w2;refine k _ _ rfl (x::xs) L2 H2 (by rw[List.map_cons,e3];simp[Sl.sd,e1,e2]) m2 w3 (st.trans ef) λhq=>?_
   obtain⟨a1,a2⟩:=sm hq;obtain⟨b1,b2⟩:=fj hq;refine⟨q9 a1 b1,λb hb=>?_⟩;rw[List.map_cons,jQ]at hb;rcases List.mem_append.mp hb with z|z
   ·exact a2 b z
   ·exact J5 a1 (b2 b z)
  ·exact⟨E1,L1,_,m1,w1.tail,h2,(xc.step s1).map h3,λE' s' z=>by cases z⟩
end
section
variable {X:Cx}{Z:Fx0}{q:Bool}{cs:List Ex}{es:List Expr}{pos:Pos}{σ:L2.St}{H:Hp}{L:Ls}{E:En}{α:Type}
theorem kq1:∀{cs:List Ex} {E E':En} {ys:List Sd},vk cs E=some (.ok E' ys)->ys.length=cs.length
 | [],E,E',ys,h=>by cases oq9 h;rfl
 | c::cs,E,E',ys,h=>by
  rcases ww (show bnd (c E) _=some _ from h)with⟨E1,x,h1,h2⟩|⟨_,_,_,z⟩
  ·rcases ww h2 with⟨E2,xs,h3,h4⟩|⟨_,_,_,z⟩
   ·cases oq9 h4;rw[Xb,Xb,kq1 h3]
   ·cases z
  ·cases z
theorem vx0{F:En->List Sd->Option (Res α)}{r:Res α}{G:List V->Hp->Prop}(m:Mt E σ L)(w:World Z.K H L)(h:bnd (vk cs E) F=some r)(xc:Xc Z σ H L r)
  (k:∀E1 ys,F E1 ys=some r->ys.length=cs.length->∀(xs:List Sl) L1 H1,xs.map Sl.sd=ys->Mt E1 σ L1->World Z.K H1 (xs.map some++L1)->Step H L H1 (xs.map some++L1)->(q=true->k9 H H1/\∀b∈j8 (xs.map some),H b=none)->G (xs.map Sl.v) H1):tA Z q cs σ H G:=by
 rcases ww h with⟨E1,s,h1,h2⟩|⟨E1,c,h1,h2⟩
 ·exact⟨E,L,_,m,w,h1,(λ_ _ z=>by cases z),λE' s' z xs L' H' e1 m' w' st sm=>by
   injection z with z1 z2;subst z1 z2;exact k _ _ h2 (kq1 h1) xs L' H' e1 m' w' st sm⟩
 ·exact⟨E,L,_,m,w,h1,xc.map h2,λE' s' z=>by cases z⟩
theorem jx5{K:PySem.W.Frag}{H:Hp}(g:Bool):∀{xs:List Sl},(∀x∈xs,x.ok K H)->(g=false->∀x∈xs,v9 x.sd=true)->∃bs,RepA K H g (xs.map Sl.d) (xs.map Sl.v) bs/\(∀b∈bs,∃x∈xs,b∈x.as)/\(g=false->bs=j8 (xs.map some))/\(g=true->bs=xs.flatMap Sl.as)
 | [],_,_=>⟨[],by unfold RepA;exact⟨rfl,rfl⟩,λ_ h=>(nomatch h),λ_=>rfl,λ_=>rfl⟩
 | x :: xs,h,ht=>by
  obtain⟨bs,r,hb,ho,hg⟩:=jx5 g (xs:=xs) (λy hy=>h y (lc9 _ hy)) λhg y hy=>ht hg y (lc9 _ hy)
  have hx:=h x X3;have pw:∃cs,RepL K H g x.d x.v cs/\(∀b∈cs,b∈x.as)/\(g=false->cs=x.own)/\(g=true->cs=x.as):=by
   cases g with
   | true=>exact⟨x.as,RepO.wk hx,λb hb=>hb,(λz=>by cases z),λ_=>rfl⟩
   | false=>
    have t:=ht rfl x X3;unfold v9 at t
    by_cases ho:x.o=.dp
    ·refine⟨x.as,?_,λb hb=>hb,λ_=>?_,λz=>by cases z⟩
     ·have:=hx;unfold Sl.ok at this;rw[ho]at this;exact this
     ·unfold Sl.own;rw[ho]
    ·have hp:x.d.pure=true:=by
      rcases Bool.or_eq_true_iff.mp t with z|z
      ·exact absurd (by simpa using z) ho
      ·exact z
     obtain⟨z,rp⟩:=RepL.pu (g':=false) (RepO.wk hx) hp;exact⟨[],rp,λ_ h=>(nomatch h),λ_=>(vvq z).symm,λz=>by cases z⟩
  obtain⟨cs,r1,h1,h2,h3⟩:=pw;refine⟨cs++bs,?_,λb fq=>?_,λnr=>?_,λnr=>?_⟩
  ·rw[List.map_cons,List.map_cons];unfold RepA;exact⟨x.v,xs.map Sl.v,cs,bs,rfl,rfl,r1,r⟩
  ·rcases List.mem_append.mp fq with z|z
   ·exact⟨x,X3,h1 b z⟩
   ·obtain⟨y,hy,hby⟩:=hb b z;exact⟨y,lc9 _ hy,hby⟩
  ·rw[List.map_cons,jQ,h2 nr,ho nr]
  ·rw[List.flatMap_cons,h3 nr,hg nr]
theorem vji{K:PySem.W.Frag}{H:Hp}{p:Addr}{xs:List Sl}{L:Ls}(w:World K H (xs.map some++L))(hp:H p=none):
  ∃bs,World K (upd H p (.lst (xs.map Sl.v))) (some ⟨.rt,.lst (xs.map Sl.d),.ref p,p::bs⟩::L)/\Step H (xs.map some++L) (upd H p (.lst (xs.map Sl.v))) (some ⟨.rt,.lst (xs.map Sl.d),.ref p,p::bs⟩::L):=by
 obtain⟨bs,r,hb,_,_⟩:=jx5 true (xs:=xs) (λx hx=>w.ok x (ll9 _ (Xl hx))) (λz=>by cases z);have ap:∀b∈bs,b∉j8 L:=λb fq hL=>by
  obtain⟨x,hx,ie⟩:=hb b fq;rcases Sl.as_of ie with z|z
  ·have nd:=w.nd;rw[jZ,X7]at nd;exact nd.2.2 b (mem_owned.mpr ⟨x,Xl hx,z⟩) b hL rfl
  ·exact w.ds b (by rw[jZ];exact lr9 _ hL) (by rw[qw];exact ll9 _ (mem_frozen.mpr ⟨x,Xl hx,z⟩))
 have al:∀b∈bs,H b≠none:=λb fq=>by
  obtain⟨x,hx,ie⟩:=hb b fq;exact(w.ok x (ll9 _ (Xl hx))).some ie
 have sr:Src H (xs.map some++L) bs:=λb fq=>by
  obtain⟨x,hx,ie⟩:=hb b fq;rcases Sl.as_of ie with z|z
  ·exact .inr (.inl (by rw[jZ];exact ll9 _ (mem_owned.mpr ⟨x,Xl hx,z⟩)))
  ·exact .inl (by rw[qw];exact ll9 _ (mem_frozen.mpr ⟨x,Xl hx,z⟩))
 have o:Out K H (upd H p (.lst (xs.map Sl.v))) ⟨.rt,.lst (xs.map Sl.d),.ref p,p::bs⟩ bs:=JX hp r λb hb=>hb
 have st:Step H (xs.map some++L) H L:=⟨λ_ _ h _=>h,λa ha=>.inl (by rw[jZ];exact lr9 _ ha),λa ha=>.inl (by rw[qw];exact lr9 _ ha)⟩;exact⟨bs,Kk (Z:=⟨K,λ_=>none,λ_ _ _=>True⟩) w.right st o ap al sr⟩
theorem vjh{K:PySem.W.Frag}{H:Hp}{p:Addr}{xs:List Sl}{L:Ls}(w:World K H (xs.map some++L))(hp:H p=none):
  ∃bs,World K (upd H p (.tup (xs.map Sl.v))) (some ⟨.no,.tup (xs.map Sl.d),.ref p,bs⟩::L)/\Step H (xs.map some++L) (upd H p (.tup (xs.map Sl.v))) (some ⟨.no,.tup (xs.map Sl.d),.ref p,bs⟩::L):=by
 obtain⟨bs,r,hb,_,_⟩:=jx5 true (xs:=xs) (λx hx=>w.ok x (ll9 _ (Xl hx))) (λz=>by cases z);have ap:∀b∈bs,b∉j8 L:=λb fq hL=>by
  obtain⟨x,hx,ie⟩:=hb b fq;rcases Sl.as_of ie with z|z
  ·have nd:=w.nd;rw[jZ,X7]at nd;exact nd.2.2 b (mem_owned.mpr ⟨x,Xl hx,z⟩) b hL rfl
  ·exact w.ds b (by rw[jZ];exact lr9 _ hL) (by rw[qw];exact ll9 _ (mem_frozen.mpr ⟨x,Xl hx,z⟩))
 have al:∀b∈bs,H b≠none:=λb fq=>by
  obtain⟨x,hx,ie⟩:=hb b fq;exact(w.ok x (ll9 _ (Xl hx))).some ie
 have sr:Src H (xs.map some++L) bs:=λb fq=>by
  obtain⟨x,hx,ie⟩:=hb b fq;rcases Sl.as_of ie with z|z
  ·exact .inr (.inl (by rw[jZ];exact ll9 _ (mem_owned.mpr ⟨x,Xl hx,z⟩)))
  ·exact .inl (by rw[qw];exact ll9 _ (mem_frozen.mpr ⟨x,Xl hx,z⟩))
 have o:Out K H (upd H p (.tup (xs.map Sl.v))) ⟨.no,.tup (xs.map Sl.d),.ref p,bs⟩ bs:=kkc hp r λb hb=>hb
 have st:Step H (xs.map some++L) H L:=⟨λ_ _ h _=>h,λa ha=>.inl (by rw[jZ];exact lr9 _ ha),λa ha=>.inl (by rw[qw];exact lr9 _ ha)⟩;exact⟨bs,Kk (Z:=⟨K,λ_=>none,λ_ _ _=>True⟩) w.right st o ap al sr⟩
theorem qwp{K:PySem.W.Frag}{H H':Hp}{xs:List Sl}{L:Ls}{d:D}{v:V}{ps:List Addr}(w:World K H (xs.map some++L))(ht:∀x∈xs,v9 x.sd=true)(hp:∀b∈ps,H b=none)(nd:ps.Nodup)(sm:k9 H H')
  (rep:∀bs,RepA K H false (xs.map Sl.d) (xs.map Sl.v) bs->RepL K H' false d v (ps++bs)):
  World K H' (some ⟨.dp,d,v,ps++j8 (xs.map some)⟩::L)/\Step H (xs.map some++L) H' (some ⟨.dp,d,v,ps++j8 (xs.map some)⟩::L):=by
 obtain⟨bs,r,hb,ho,_⟩:=jx5 false (xs:=xs) (λx hx=>w.ok x (ll9 _ (Xl hx))) (λ_=>ht);have e:=ho rfl;subst e;have w2:World K H' (xs.map some++L):=⟨λx hx=>RepO.kp (w.ok x hx) (Kp.of_same sm),w.nd,w.ds⟩;have ndx:=w.nd;rw[jZ,X7]at ndx;have al:∀b∈j8 (xs.map some),H b≠none:=λb hb=>w.own_some (by rw[jZ];exact ll9 _ hb)
 refine⟨w2.right.cons (x:=⟨.dp,d,v,ps++j8 (xs.map some)⟩) (rep _ r) ?_ (λa ha hL=>?_) (λa ha hf=>?_) (λa ha=>(nomatch ha)) (λa ha=>λz=>(nomatch z)),⟨λa ob h _=>sm a ob h,λa ha=>?_,λa ha=>?_⟩⟩
 ·show(ps++j8 (xs.map some)).Nodup;rw[X7];exact⟨nd,ndx.1,λa ha b hb e=>by subst e;exact al a hb (hp a ha)⟩
 ·rcases List.mem_append.mp (show a∈ps++j8 (xs.map some)from ha)with z|z
  ·exact w.own_some (by rw[jZ];exact lr9 _ hL) (hp a z)
  ·exact ndx.2.2 a z a hL rfl
 ·rcases List.mem_append.mp (show a∈ps++j8 (xs.map some)from ha)with z|z
  ·exact w.frz_some (by rw[qw];exact lr9 _ hf) (hp a z)
  ·exact w.ds a (by rw[jZ];exact ll9 _ z) (by rw[qw];exact lr9 _ hf)
 ·rw[jQ]at ha;rcases List.mem_append.mp ha with z|z
  ·rcases List.mem_append.mp (show a∈ps++j8 (xs.map some)from z)with y|y
   ·exact .inr (hp a y)
   ·exact .inl (by rw[jZ];exact ll9 _ y)
  ·exact .inl (by rw[jZ];exact lr9 _ z)
 ·rw[kQ]at ha;exact .inl (by rw[qw];exact lr9 _ ha)
theorem wq7{xs:List Sl}{ys:List Sd}(h:xs.map Sl.sd=ys):xs.map Sl.d=ys.map (·.2):=by rw[<-h,Xx];rfl
theorem qjq{xs:List Sl}{ys:List Sd}(h:xs.map Sl.sd=ys)(ht:ys.all v9=true):∀x∈xs,v9 x.sd=true:=λx hx=>by
 rw[<-h,List.all_map,Yv]at ht;exact ht x hx
theorem qk8{o:Own}{xs:List Sl}{ys:List Sd}{E':En}{r:Res Sd}{L':Ls}{H1:Hp}{Q:VK}{Hq:Hp}{Lq:Ls}(h:mkL o E' ys=some r)(e:xs.map Sl.sd=ys)(w:World Z.K H1 (xs.map some++L'))(st:Step Hq Lq H1 (xs.map some++L'))(sm:q=true->k9 Hq H1/\∀b∈j8 (xs.map some),Hq b=none)
  (k:∀E'' a,r=.ok E'' a->∀(x:Sl) L'' H',x.o=a.1->x.d=a.2->Mt E'' σ L''->World Z.K H' (some x::L'')->Step Hq Lq H' (some x::L'')->(q=true->k9 Hq H'/\∀b∈x.own,Hq b=none)->Q x.v H') (m:Mt E' σ L'):
  ∀ p,H1 p=none->Q (.ref p) (upd H1 p (.lst (xs.map Sl.v))):=by
 intro p hp;unfold mkL at h
 by_cases ho:o=.dp
 ·rw[Xf ho]at h
  by_cases ht:ys.all v9=true
  ·rw[Xf ht]at h;cases oq9 h;obtain⟨w2,s2⟩:=qwp (d:=.lst (xs.map Sl.d)) (v:=.ref p) (ps:=[p]) w (qjq e ht) (λb hb=>by rw[List.mem_singleton.mp hb];exact hp) (by simp) (x5 (o:=.lst (xs.map Sl.v)) hp) (λbs r=>by
    unfold RepL;exact⟨p,_,bs,rfl,r.kp (Kp.of_same (x5 hp)),.inl ⟨xX,rfl⟩⟩)
   refine k _ _ rfl ⟨.dp,.lst (xs.map Sl.d),.ref p,_⟩ L' _ rfl (by rw[wq7 e]) m w2 (st.trans s2) λhq=>⟨q9 (sm hq).1 (x5 hp),λb hb=>?_⟩
   rcases List.mem_append.mp (show b∈[p]++j8 (xs.map some)from hb)with z|z
   ·rw[List.mem_singleton.mp z];exact J5 (sm hq).1 hp
   ·exact(sm hq).2 b z
  ·rw[Xm ht]at h;cases h
 ·rw[Xm ho]at h;cases oq9 h;obtain⟨bs,w2,s2⟩:=vji w hp;refine k _ _ rfl ⟨.rt,.lst (xs.map Sl.d),.ref p,p::bs⟩ L' _ rfl (by rw[wq7 e]) m w2 (st.trans s2) λhq=>⟨q9 (sm hq).1 (x5 hp),λb hb=>?_⟩
  have:b=p:=by simpa [Sl.own]using hb
  rw[this];exact J5 (sm hq).1 hp
theorem vxk{xs:List Sl}{ys:List Sd}{n:Nat}(h:xs.map Sl.sd=ys)(hl:ys.length=n)(hz:n<=1000):(xs.map Sl.v).length<=sizeLine:=by
 have:xs.length=n:=by rw[<-hl,<-h,X4]
 rw[X4,this];exact Xw hz (by decide)
theorem xx{o:Own}(h:QA X Z q cs es)(hz:autoParam (cs.length<=1000) ŕ):QE X Z q (qk o cs) (.List es pos):=kZ (vzw h) fun σ H Q au=>ex8 au λE L r m w hc xc k=>
 vx0 m w (show bnd (vk cs E) _=some r from hc) xc λE1 ys h1 hl xs L1 H1 e1 m1 w1 st sm=>⟨vxk e1 hl hz,qk8 (o:=o) (E':=E1) (ys:=ys) (by unfold mkL;exact h1) e1 w1 st sm k m1⟩
theorem xV{o:Own}{x1}(h:QA X Z q cs es)(hz:autoParam (cs.length<=1000) ŕ):QE X Z q (qZ o cs) (.Tuple es x1 pos):=kZ (vzt h) fun σ H Q au=>ex8 au λE L r m w hc xc k=>
 vx0 m w (show bnd (vk cs E) _=some r from hc) xc λE1 ys h1 hl xs L1 H1 e1 m1 w1 st sm=>⟨vxk e1 hl hz,λp hp=>by
  by_cases ho:o=.dp
  ·rw[Xf ho]at h1
   by_cases ht:ys.all v9=true
   ·rw[Xf ht]at h1;cases oq9 h1;obtain⟨w2,s2⟩:=qwp (d:=.tup (xs.map Sl.d)) (v:=.ref p) (ps:=[]) w1 (qjq e1 ht) (λb hb=>(nomatch hb)) (by simp) (x5 (o:=.tup (xs.map Sl.v)) hp) (λbs r=>by
     unfold RepL;exact⟨p,_,rfl,SqT.of xX,r.kp (Kp.of_same (x5 hp))⟩)
    exact k _ _ rfl ⟨.dp,.tup (xs.map Sl.d),.ref p,_⟩ L1 _ rfl (by rw[wq7 e1]) m1 w2 (st.trans s2) λhq=>⟨q9 (sm hq).1 (x5 hp),λb hb=>(sm hq).2 b hb⟩
   ·rw[Xm ht]at h1;cases h1
  ·rw[Xm ho]at h1;cases oq9 h1;obtain⟨bs,w2,s2⟩:=vjh w1 hp;exact k _ _ rfl ⟨.no,.tup (xs.map Sl.d),.ref p,bs⟩ L1 _ rfl (by rw[wq7 e1]) m1 w2 (st.trans s2) λhq=>⟨q9 (sm hq).1 (x5 hp),λb hb=>(nomatch hb)⟩⟩
end
noncomputable def spF(K:PySem.W.Frag)(mg:Str->Option Value)(n:Nat)(f:Fn):Sp:=λvs H Q E=>∃(xs:List Sl) (r:Res Sd),vs=xs.map Sl.v/\xs.length=n/\World K H (xs.map some)/\f (xs.map Sl.sd)=some r /\
 (∀E' c,r=.exc E' c->∀C H',mg c=some (.ref C)->Step H (xs.map some) H' []->E (.ref C) none H') /\
 ∀E' a,r=.ok E' a->∀(x:Sl) H',x.o=a.1->x.d=a.2->World K H' [some x]->Step H (xs.map some) H' [some x]->Q x.v H'
theorem kz{K:PySem.W.Frag}{mg:Str->Option Value}{n:Nat}{f:Fn}{ps:List Str}(hn:ps.length=n):∀vs H Q E,spF K mg n f vs H Q E->vs.length=ps.length:=λvs H Q E ⟨xs,r,e,hl,_⟩=>by rw[e,X4,hl,hn]
theorem kw2:∀(xs:List Sl) (k:Nat),Mt (xs.map (λx=>some x.sd)++List.replicate k none) (xs.map (λx=>some x.v)++List.replicate k none) (xs.map some++List.replicate k none)
 |[],0=>.nil
 |[],k+1=>by
  rw[List.map_nil,List.map_nil,List.map_nil,List.replicate_succ,List.replicate_succ,List.replicate_succ];exact .un (kw2 [] k)
 |x::xs,k=>.cons (x:=x) (kw2 xs k)
theorem kJ{X:Cx}{K:PySem.W.Frag}{mg:Str->Option Value}{N:List Str}{n nn:Nat}{B:Sm}{body:List Stmt}{H:Hp}{vs:List V}{Q:VK}{E:XK}(hN:N.length=nn)(t:QSs X ⟨K,mg,E⟩ [] B body)(h:spF K mg n (fn nn B) vs H Q E):
  ∃t,PSs X body t/\t { nx:=λ_ H'=>Q .non H',rt:=Q } (L2.start N vs) H:=by
 refine⟨_,t,?_⟩;obtain⟨xs,r,rfl,hl,w,hf,hx,hk⟩:=h;unfold fn at hf;rw[X4,Xx]at hf;have m:=kw2 xs (nn - xs.length);have e1:L2.start N (xs.map Sl.v)=xs.map (λx=>some x.v)++List.replicate (nn - xs.length) none:=by
  unfold L2.start;rw[Xx,X4,hN];rfl
 have wL:World K H (xs.map some++List.replicate (nn - xs.length) none):=w.same (by simp);have sL:Step H (xs.map some) H (xs.map some++List.replicate (nn - xs.length) none):=Step.refl.same (List.Perm.refl _) (by simp);cases hB:B (xs.map (λx=>some x.sd)++List.replicate (nn - xs.length) none)with
 | none=>rw[show(some∘Sl.sd)=(λx:Sl=>some x.sd)from rfl,hB]at hf;cases hf
 | some g=>
  rw[show(some∘Sl.sd)=(λx:Sl=>some x.sd)from rfl,hB]at hf;refine⟨_,_,g,e1▸m,wL,hB,?_⟩;cases g with
  |nx E1=>
   cases oq9 hf;intro σ' L' H' _ m' w' s';exact hk _ _ rfl ⟨.dp,.non,.non,[]⟩ H' rfl rfl (World.consPu (x:=⟨.dp,.non,.non,[]⟩) (L:=[]) ⟨λ_ z=>(nomatch z),Y9,λ_ z=>(nomatch z)⟩ (show RepL K H' false .non .non []from qvn) rfl) (V5 (x:=⟨.dp,.non,.non,[]⟩) ((sL.trans s').sub (by simp)) (λb hb=>(nomatch hb)) rfl)
  |rt E1 a=>
   cases oq9 hf;intro x σ' L' H' e2 e3 _ m' w' s';exact hk _ _ rfl x H' e2 e3 (w'.sub (by simp)) ((sL.trans s').sub (by simp))
  |xc E1 c=>
   cases oq9 hf;intro C σ' L' H' hm _ m' w' s';exact hx _ _ rfl C H' hm ((sL.trans s').sub (by simp))
  |ct E1=>cases hf
  |bk E1=>cases hf
section
variable {X:Cx}{Z:Fx0}{q:Bool}{cs:List Ex}{e:Expr}{es:List Expr}{pos p:Pos}{x:Str}{ps:List Str}{k n:Nat}{f:Fn}
theorem JQ:∀xs:List Sl,j8 ((xs.map Sl.let).map some)=[]
 |[]=>rfl
 |x::xs=>by rw[List.map_cons,List.map_cons,jQ,JQ xs];rfl
theorem jz1:∀xs:List Sl,jY ((xs.map Sl.let).map some)=xs.flatMap Sl.as
 |[]=>rfl
 |x::xs=>by rw[List.map_cons,List.map_cons,kQ,jz1 xs,List.flatMap_cons];rfl
theorem qwt(xs:List Sl):(xs.map Sl.let).map Sl.sd=letAll (xs.map Sl.sd):=by
 unfold letAll;rw[Xx,Xx];rfl
theorem qkw{K:PySem.W.Frag}{H:Hp}{xs:List Sl}{L:Ls}(w:World K H (xs.map some++L)):World K H ((xs.map Sl.let).map some++L)/\Step H (xs.map some++L) H ((xs.map Sl.let).map some++L):=by
 have nd:=w.nd;rw[jZ,X7]at nd;have cl:∀a∈xs.flatMap Sl.as,a∈j8 (xs.map some)\/a∈jY (xs.map some):=λa ha=>by
  obtain⟨x,hx,hax⟩:=List.mem_flatMap.mp ha;exact(Sl.as_of hax).imp (λz=>mem_owned.mpr ⟨x,Xl hx,z⟩) λz=>mem_frozen.mpr ⟨x,Xl hx,z⟩
 refine⟨⟨λx hx=>?_,by rw[jZ,JQ];exact nd.2.1,λa ha hf=>?_⟩,λ_ _ h _=>h,λa ha=>?_,λa ha=>?_⟩
 ·rcases List.mem_append.mp hx with hx|hx
  ·obtain⟨y,hy,e⟩:=List.mem_map.mp hx;cases e;obtain⟨z,hz,rfl⟩:=List.mem_map.mp hy;exact K1 (w.ok z (ll9 _ (Xl hz)))
  ·exact w.ok x (lr9 _ hx)
 ·rw[jZ,JQ]at ha;rw[qw,jz1]at hf;rcases List.mem_append.mp hf with z|z
  ·rcases cl a z with z|z
   ·exact nd.2.2 a z a ha rfl
   ·exact w.ds a (by rw[jZ];exact lr9 _ ha) (by rw[qw];exact ll9 _ z)
  ·exact w.ds a (by rw[jZ];exact lr9 _ ha) (by rw[qw];exact lr9 _ z)
 ·rw[jZ,JQ]at ha;exact .inl (by rw[jZ];exact lr9 _ ha)
 ·rw[qw,jz1]at ha;rw[qw,jZ];rcases List.mem_append.mp ha with z|z
  ·rcases cl a z with z|z
   ·exact .inr (.inl (ll9 _ z))
   ·exact .inl (ll9 _ z)
  ·exact .inl (lr9 _ z)
theorem vze(D:k7 X.prog X.w X.K X.mg X.base k x ps (spF Z.K Z.mg n f))(hr:Room k X.A)(g:zj X Z.EX)(ha:QA X Z q cs (e::es))(hn:autoParam (cs.length=n) Ŕ)(hg:autoParam (Gl X x) Ŕ)(i7:autoParam ((x==("__debug__":Str))=false) ŕ)
  (he:autoParam (starEach (e::es) X.env=(false,eval e X.env)::starEach es X.env) Ŕ) (bt:autoParam ((backTo pos (starEach es X.env)).any (·.1)=false) Ŕ):
  QE X Z q (jx f cs) (.Call (.Name x p) (e::es) [] pos):=kZ (vkp D hr g ha hg i7 he bt) fun σ H Q au=>ex8 au λE L r m w hc xc kk=>
 vx0 m w (show bnd (vk cs E) _=some r from hc) xc λE1 ys h1 hl xs L1 H1 e1 m1 w1 st sm=>by
  rw [Xv];have af:xs.length=n:=by rw[<-hn,<-hl,<-e1,X4]
  cases hf:f (letAll ys)with
  | none=>rw[hf]at h1;cases h1
  | some fr=>
   rw[hf]at h1;obtain⟨wl,sl⟩:=qkw w1;have ev:xs.map Sl.v=(xs.map Sl.let).map Sl.v:=by rw[Xx];rfl
   rw[ev];refine⟨xs.map Sl.let,fr,rfl,by rw[X4];exact af,wl.left,by rw[<-e1]at hf;rw[qwt];exact hf,λE' c ee C H' hm s'=>?_,λE' a ee y H' e2 e3 w' s'=>?_⟩
   ·subst ee;cases oq9 h1;obtain⟨w2,s2⟩:=stay wl s' ⟨λ_ z=>(nomatch z),Y9,λ_ z=>(nomatch z)⟩;exact xc _ _ rfl C L1 H' hm m1 w2 ((st.trans sl).trans s2)
   ·subst ee;cases oq9 h1;obtain⟨w2,s2⟩:=stay wl s' w';refine kk _ _ rfl y L1 H' e2 e3 m1 w2 ((st.trans sl).trans s2) λhq=>?_
    obtain⟨a1,a2⟩:=sm hq;refine⟨λb ob hb=>s'.keep b ob (a1 b ob hb) λz=>?_,λb hb=>?_⟩
    ·rw[JQ]at z;exact nomatch z
    ·rcases s'.own b (by rw[jQ];exact ll9 _ hb)with z|z
     ·rw[JQ]at z;exact nomatch z
     ·exact J5 a1 z
end
noncomputable def vz4(K:PySem.W.Frag):R2:=λx y H Q=>∃l k xs,x=.ref l/\y=.int k/\LsR K H l xs/\-(2 ^ 63)<=k/\k<2 ^ 63/\xs.length*k.toNat<=sizeLine /\
 ∀p,H p=none->Q (.ref p) (upd H p (.lst (List.replicate k.toNat xs).flatten))
theorem op_repR{X:Cx}:OpR X (binaryOp .Mult) (vz4 X.K):=by
 intro pins s σ H x y v u Q I rx ry h;obtain⟨l,k,xs,rfl,rfl,hH,h1,h2,hz,q⟩:=h;cases rx;obtain⟨t,rfl⟩:=ry;obtain⟨z,aa,n,r,e⟩:=hH.is I;have hl:=r.length;have af:aa.toArray.size*k.toNat<=sizeLine:=by rw[X6,<-hl];exact hz
 have hcap:¬aa.toArray.size*k.toNat>(2 ^ 63 - 1) / 8:=by
  have:(sizeLine:Nat)<=(2 ^ 63 - 1) / 8:=by decide
  omega
 have hfit:¬(!Builtin.List.listFitsIndex k)=true:=by
  rw[fitsIndex_both h1 h2];exact Bool.false_ne_true
 have lp:¬Builtin.List.listTooLong (aa.toArray.size*k.toNat)=true:=by
  rw[qk5 af];exact Bool.false_ne_true
 have kr:List.foldl (λx1 x2=>x1++x2) #[] (List.replicate (if aa.toArray.isEmpty=true then 0 else k.toNat) aa.toArray)=(List.replicate k.toNat aa).flatten.toArray:=by
  have f0:∀m:Nat,List.foldl (λx1 x2=>x1++x2) #[] (List.replicate m aa.toArray)=(List.replicate m aa).flatten.toArray:=λm=>by
   have:=kks aa m [];rw[List.nil_append]at this;exact this
  rw[f0];cases aa with
  |nil=>simp
  |cons a r'=>rw[Xm (by simp)]
 refine wpAny_binaryOp_repeat_ref (T:="list") (U:="int") (by decide) ⟨_,e,rfl⟩ (λs'=>typeIs_int s' k t) noFill_list_mul F.fills_int_mul F.slot_int_rmul repeat_list F.slot_int_index.lookup
  (call_meets F.slot_int_rmul (typeIs_int s k t) F.entry_int_rmul (F.args_int_rmul_2 _ _) (int___rmul___int_list k t l aa.toArray n)
   ⟨e,rfl,⟨_,e,rfl⟩,call_meets F.slot_list_mul ⟨_,e,rfl⟩ F.entry_list_mul (F.args_list_mul_2 _ _) (AutoListH.list___mul___list_int_3 l aa.toArray n k t hfit hcap lp) ⟨e,?_⟩⟩)
 rw[kr];exact⟨.ref _,_,I.lnew (t':=s.toks) (r.rep k.toNat) (by rw[qwu,Nat.mul_comm];exact hz),rfl,q _ I.fresh⟩
def vv1(K:PySem.W.Frag):R2:=λx y H Q=>rI IntMulOk (λi j=>.int (i*j)) x y H Q\/vz4 K x y H Q\/vz3 x y H Q
theorem wja{X:Cx}{K:PySem.W.Frag}(hK:autoParam (X.K=K) Ŕ):OpR X (binaryOp .Mult) (vv1 K):=by subst hK;exact op_mulI.or (op_repR.or vvs)
theorem qka{a:Int}(h:a.natAbs.log2<2000000):Builtin.Int.intBits a<=2000000:=by
 unfold Builtin.Int.intBits
 split
 ·exact Z1 _
 ·omega
theorem mulOk_of{a b:Int}(h:XJ a b=true):IntMulOk a b:=by
 unfold XJ qvg at h;simp only[Bool.or_eq_true,Bool.and_eq_true,decide_eq_true_eq]at h;rcases h with(h|h)|h
 ·exact .of_left (intBits_le_64 h.1 h.2)
 ·exact .of_right (intBits_le_64 h.1 h.2)
 ·have h1:=qka h.1;have h2:=qka h.2;unfold IntMulOk Builtin.Int.intTooBig;have e:(2:Nat) ^ 27=134217728:=by decide
  have hb:bitsLine=134217728:=e;simp only[Bool.and_eq_true,decide_eq_true_eq,not_and];intro _ _;omega
theorem RepA.reps{K:PySem.W.Frag}{H:Hp}{ds:List D}{xs:List V}{bs:List Addr}(h:RepA K H true ds xs bs):∀k:Nat,∃cs,RepA K H true (List.replicate k ds).flatten (List.replicate k xs).flatten cs/\∀b∈cs,b∈bs
 |0=>⟨[],by simp only[List.replicate_zero,List.flatten_nil];unfold RepA;exact⟨rfl,rfl⟩,λ_ z=>(nomatch z)⟩
 |k+1=>by
  obtain⟨cs,r,hc⟩:=RepA.reps h k;rw[List.replicate_succ,List.replicate_succ,Z0,Z0];exact⟨bs++cs,r.app h,λb hb=>(List.mem_append.mp hb).elim id (hc b)⟩
theorem vqd{K:PySem.W.Frag}:Ad2 K (vv1 K) wke:=by
 intro H x y s Q ox oy hf k;unfold wke at hf;dsimp only at hf
 split at hf
 ·rename_i i j e1 e2
  split at hf
  ·rename_i hm;cases oq9 hf;exact .inl ⟨i,j,vq ox e1,vq oy e2,mulOk_of hm,k ⟨.dp,.int _,.int _,[]⟩ H rfl rfl Q9⟩
  ·cases hf
 ·rename_i a n e1 e2
  split at hf
  ·rename_i hc;cases oq9 hf;obtain⟨l,xs,bs,e3,q3,r3,h3⟩:=J0 ox (.inl e1) hc.2.2.2;have q3:LsR K H l xs:=by rcases q3 with⟨_,z⟩|⟨z,_⟩;exact z;rw[e1]at z;cases z
   obtain⟨cs,r4,h4⟩:=r3.reps n.toNat;refine .inr (.inl ⟨l,n,xs,e3,vq oy e2,q3,hc.1,hc.2.1,by rw[<-r3.len];exact hc.2.2.1,λp hp=>?_⟩);exact k ⟨.rt,.lst _,.ref p,p::cs⟩ _ rfl rfl (JX hp r4 λb hb=>ll9 _ (h3 b (h4 b hb)))
  ·cases hf
 ·rename_i z n e1 e2
  split at hf
  ·rename_i hc;cases oq9 hf;exact .inr (.inr ⟨z,n,(wY ox e1).1,vq oy e2,hc.1,k ⟨.dp,.str _,.str _,[]⟩ H rfl rfl (Wv hc.2)⟩)
  ·cases hf
 ·cases hf
def dec(h:Heap)(u:Value):D:=open Classical in if e:∃d,jX h d u then e.choose else .non
theorem vq4{h:Heap}{u:Value}{d:D}(r:jX h d u):dec h u=d:=by
 unfold dec;have e:∃d,jX h d u:=⟨d,r⟩;rw[dif_pos e];exact kwc e.choose_spec r
theorem qjd{h:Heap}{d:D}:∀{ds:List D} {us:List Value},CReps h ds us->us.any (λu=>peq (dec h u) d)=ds.any λz=>peq z d
 |[],_,r=>by unfold CReps at r;rw[r];rfl
 |z::ds,_,r=>by
  unfold CReps at r;obtain⟨u,rr,rfl,h1,h2⟩:=r;rw[List.any_cons,List.any_cons,vq4 h1,qjd h2]
theorem qk9{h:Heap}:∀{ds:List D} {us:List Value} {u:Value},CReps h ds us->u∈us->∃d∈ds,jX h d u
 | [],_,_,r,hu=>by unfold CReps at r;rw[r]at hu;cases hu
 | z::ds,_,u,r,hu=>by
  unfold CReps at r;obtain⟨u',rr,rfl,h1,h2⟩:=r;rcases List.mem_cons.mp hu with rfl|hu
  ·exact⟨z,X3,h1⟩
  ·obtain⟨d,hd,c⟩:=qk9 h2 hu;exact⟨d,lc9 _ hd,c⟩
theorem kxz:∀{n:Nat} {ds:List D} {d:D},D.flats n ds=true->d∈ds->d.flat n=true
 |_,[],_,_,h=>by cases h
 |n,z::ds,d,f,h=>by
  unfold D.flats at f;rw[Bool.and_eq_true]at f;rcases List.mem_cons.mp h with rfl|h
  ·exact f.1
  ·exact kxz f.2 h
section
variable {X:Cx}{Z:Fx0}{K:PySem.W.Frag}{q qa qb:Bool}{a b c:Ex}{u v:Ts}{e ea eb:Expr}{es:List Expr}{pos p:Pos}{σ:L2.St}{H:Hp}{L:Ls}{E:En}
noncomputable def vki(K:PySem.W.Frag)(md:Bool):R2:=λx y H Q=>∃d ds as bs p xs,RepL K H true d x as/\y=.ref p/\(SqL K H p xs\/SqT K H p xs)/\RepA K H true ds xs bs/\d.flat 30=true/\D.flats 30 ds=true/\Q (.bl (if md then !(ds.any λz=>peq z d)else ds.any λz=>peq z d)) H
theorem vvv(hu:X.A.units+64<cLine):OpR X (compareOp .In) (vki X.K false):=by
 intro pins s σ H x y v u Q I rx ry h;obtain⟨d,ds,as,bs,p,xs,h1,rfl,hq,ra,f1,f2,q⟩:=h;cases ry;have c1:=XW I h1 f1 rx;have he:∀{us:List Value},CReps s.heap ds us->∀w,w∈us.toArray->SeqAt.EqAt X.A.in1 s w v (peq (dec s.heap w) d):=fun {us} cr w hw=>by
  obtain⟨d',hd,c⟩:=qk9 cr (by simpa using hw);rw[vq4 c];exact qkk 30 (kxz f2 hd) c c1 (by have:=L3.in1_units X.A;omega)
 rcases hq with hq|hq
 ·obtain⟨aa,r,pl,hz⟩:=I.list hq;have cr:=creps_of I ra f2 r;refine SeqAt.in_listAt _ pl.isList (he cr) ⟨.bl _,H,I,rfl,?_⟩;rw[List.any_toArray,qjd cr];exact q
 ·obtain⟨aa,r,pl,hz⟩:=I.tuple hq;have cr:=creps_of I ra f2 r;refine SeqAt.in_tupleAt _ pl (he cr) ⟨.bl _,H,I,rfl,?_⟩;rw[List.any_toArray,qjd cr];exact q
def vkh(md:Bool):R2:=λx y H Q=>∃i j,x=.str i/\y=.str j/\Q (.bl (if md then !VZ i j else VZ i j)) H
theorem opInStr:OpR X (compareOp .In) (vkh false):=λpins s σ H x y v u Q I rx ry ⟨i,j,e1,e2,q⟩=>qwk pins s σ H x y v u Q I rx ry ⟨i,j,e1,e2,q⟩
def wv0(K:PySem.W.Frag)(md:Bool):R2:=λx y H Q=>vkh md x y H Q\/vki K md x y H Q
theorem vjb(hu:X.A.units+64<cLine)(hK:autoParam (X.K=K) Ŕ):OpR X (compareOp .In) (wv0 K false):=by subst hK;exact opInStr.or (vvv hu)
theorem zW{H:Hp}{l:Addr}{xs:List V}(h:LsR K H l xs):SqL K H l xs:=h.sq
theorem qxc{x y:Sl}{ys:List D}{md:Bool}{Q:VK}(ox:x.ok K H)(oy:y.ok K H)(hy:y.d=.lst ys\/y.d=.tup ys)(hc:(x.d.flat 30&&D.flats 30 ys)=true)
  (k:Q (.bl (if md then !(ys.any λz=>peq z x.d)else ys.any λz=>peq z x.d)) H):wv0 K md x.v y.v H Q:=by
 rw[Bool.and_eq_true]at hc;obtain⟨l,xs,bs,e3,q3,r3,_⟩:=items oy hy;have r3':RepA K H true ys xs bs:=by
  cases ho:(y.o != .dp)with
  |true=>rw[ho]at r3;exact r3
  |false=>rw[ho]at r3;exact r3.wk
 refine .inr ⟨x.d,ys,x.as,bs,l,xs,RepO.wk ox,e3,?_,r3',hc.1,hc.2,k⟩;rcases q3 with⟨_,z⟩|⟨_,z⟩
 ·exact .inl (zW z)
 ·exact .inr z
theorem vk7:Ad2 K (wv0 K false) (pu2 wV):=by
 intro H x y s Q ox oy hf k;unfold pu2 wV fIn at hf;dsimp only at hf;cases hy:y.d with
 | lst ys=>
  rw[hy]at hf;dsimp only at hf
  split at hf
  ·rename_i hc;cases oq9 hf;exact qxc ox oy (.inl hy) hc (k ⟨.dp,.bl _,.bl _,[]⟩ H rfl rfl xJ)
  ·cases hf
 | tup ys=>
  rw[hy]at hf;dsimp only at hf
  split at hf
  ·rename_i hc;cases oq9 hf;exact qxc ox oy (.inr hy) hc (k ⟨.dp,.bl _,.bl _,[]⟩ H rfl rfl xJ)
  ·cases hf
 | str b=>
  rw[hy]at hf;dsimp only at hf
  split at hf
  ·rename_i a hx;cases oq9 hf;exact .inl ⟨a,b,(wY ox hx).1,(wY oy hy).1,k ⟨.dp,.bl _,.bl _,[]⟩ H rfl rfl xJ⟩
  ·cases hf
 |_=>rw[hy]at hf;cases hf
theorem qju{g:Bool}{d:D}{v:V}{as:List Addr}(h:RepL K H g d v as):decide (v=.non)=isNon d:=by
 cases d with
 |non=>unfold RepL at h;rw[h.1];rfl
 |bl _=>unfold RepL at h;rw[h.1];rfl
 |int _=>unfold RepL at h;rw[h.1];rfl
 |str _=>unfold RepL at h;rw[h.1];rfl
 |tup _=>unfold RepL at h;obtain⟨a,xs,e,_⟩:=h;rw[e];rfl
 |lst _=>unfold RepL at h;obtain⟨a,xs,bs,e,_⟩:=h;rw[e];rfl
 |dct _=>unfold RepL at h;obtain⟨a,xs,bs,e,_⟩:=h;rw[e];rfl
 |obj _ _=>unfold RepL at h;obtain⟨_,x,o,C,e,_⟩:=h;rw[e];rfl
theorem qz9:Ad2 K (λx y H Q=>y=.non/\Q (.bl (decide (x=.non))) H) (f2First fIsNon):=by
 intro H x y s Q ox oy hf k;unfold f2First fIsNon at hf;dsimp only at hf
 split at hf
 ·rename_i hy;cases oq9 hf;have e:=qju (RepO.wk oy);rw[hy]at e;refine⟨Ya e,?_⟩;rw[qju (RepO.wk ox)];exact k ⟨.dp,.bl _,.bl _,[]⟩ H rfl rfl xJ
 ·cases hf
theorem vky(n:Nat)(i:Int):_root_.Q.ixN n i=L2.ixN n i:=rfl
theorem vwb{x y:Sl}{d:D}{Q:VK}(ox:x.ok K H)(oy:y.ok K H)(hf:jz x.d y.d=some d)(k:∀z:Sl,z.o=sub x.o->z.d=d->z.ok K H->(∀b∈z.frz,b∈x.frz)->(∀b∈z.as,b∈x.as)->Q z.v H):rIx K x.v y.v H Q:=by
 have seq:∀ds:List D,(x.d=.lst ds\/x.d=.tup ds)->∀i:Int,y.d=.int i->((_root_.Q.ixN ds.length i).bind λj=>ds[j]?)=some d->rIx K x.v y.v H Q:=by
  intro ds hx i hy hd;obtain⟨l,xs,bs,e3,q3,r3,h3,h4⟩:=items ox hx;cases hj:_root_.Q.ixN ds.length i with
  | none=>rw[hj]at hd;cases hd
  | some j=>
   rw [hj]at hd;obtain⟨v,cs,e4,r4,h5⟩:=r3.get (show ds[j]?=some d from hd);have gw:atI xs i=some v:=by
    unfold atI;rw[<-r3.len,<-vky,hj];exact e4
   have fin:Q v H:=by
    cases ho:x.o with
    | dp=>
     rw[ho]at r4;exact k ⟨.dp,d,v,cs⟩ (by rw[ho];rfl) rfl r4 (λb hb=>(nomatch hb)) λb hb=>h3 b (h5 b hb)
    | no=>
     rw[ho]at r4;exact k ⟨.no,d,v,cs⟩ (by rw[ho];rfl) rfl r4 (λb hb=>h4 (by rw[ho];exact(λz=>nomatch z)) b (h5 b hb)) λb hb=>h3 b (h5 b hb)
    | rt=>
     rw[ho]at r4;exact k ⟨.no,d,v,cs⟩ (by rw[ho];rfl) rfl r4 (λb hb=>h4 (by rw[ho];exact(λz=>nomatch z)) b (h5 b hb)) λb hb=>h3 b (h5 b hb)
   rcases q3 with⟨_,z⟩|⟨_,z⟩
   ·exact .inl ⟨l,xs,i,v,e3,vq oy hy,zW z,gw,fin⟩
   ·exact .inr (.inl ⟨l,xs,i,v,e3,vq oy hy,z,gw,fin⟩)
 unfold jz at hf;cases hx:x.d with
 | lst ds=>
  rw [hx]at hf;cases hy:y.d with
  | int i=>rw[hy]at hf;exact seq ds (.inl hx) i hy hf
  | _=>rw[hy]at hf;cases hf
 | tup ds=>
  rw [hx]at hf;cases hy:y.d with
  | int i=>rw[hy]at hf;exact seq ds (.inr hx) i hy hf
  | _=>rw[hy]at hf;cases hf
 | str z=>
  rw [hx]at hf;cases hy:y.d with
  | int i=>
   rw [hy]at hf;have hf:((_root_.Q.ixN z.cps.size i).bind λj=>(z.cps.toList[j]?).map λc=>D.str ⟨#[c]⟩)=some d:=hf;cases hj:_root_.Q.ixN z.cps.size i with
   | none=>rw[hj]at hf;cases hf
   | some j=>
    rw[hj]at hf;cases hc:z.cps.toList[j]? with
    | none=>rw[Option.bind_some,hc]at hf;cases hf
    | some c=>
     rw[Option.bind_some,hc]at hf;cases oq9 hf;have gw:atI z.cps.toList i=some c:=by
      unfold atI;rw[Xa,<-vky,hj];exact hc
     obtain⟨e1,hz⟩:=wY ox hx;refine .inr (.inr ⟨z,i,c,e1,vq oy hy,hz,gw,?_⟩);have rp:∀g,RepL K H g (.str ⟨#[c]⟩) (.str ⟨#[c]⟩) []:=λg=>QX (show(1:Nat)<=sizeLine by decide)
     cases ho:x.o with
     |dp=>exact k ⟨.dp,.str ⟨#[c]⟩,.str ⟨#[c]⟩,[]⟩ (by rw[ho];rfl) rfl (rp false) (λb hb=>(nomatch hb)) λb hb=>(nomatch hb)
     |no=>exact k ⟨.no,.str ⟨#[c]⟩,.str ⟨#[c]⟩,[]⟩ (by rw[ho];rfl) rfl (rp true) (λb hb=>(nomatch hb)) λb hb=>(nomatch hb)
     |rt=>exact k ⟨.no,.str ⟨#[c]⟩,.str ⟨#[c]⟩,[]⟩ (by rw[ho];rfl) rfl (rp true) (λb hb=>(nomatch hb)) λb hb=>(nomatch hb)
  |_=>rw[hy]at hf;cases hf
 |non=>rw[hx]at hf;cases hf
 |bl _=>rw[hx]at hf;cases hf
 |int _=>rw[hx]at hf;cases hf
 |dct _=>rw[hx]at hf;cases hf
 |obj _ _=>rw[hx]at hf;cases hf
theorem q_ix(ha:QV X Z qa a ea)(hb:QV X Z true b eb)(hs:W4 eb)(hK:autoParam (X.K=Z.K) Ŕ):QV X Z qa (j7 a b) (.Subscript ea eb pos):=
 kZ (ZQ (hK▸kxx) ha hb hs) fun σ H Q au=>ex8 au λE L r m w hc xc k=>by
  refine wq m w (show bnd (a E) _=some r from hc) xc λE1 s h1 x L1 H1 e1 e2 m1 w1 ok fr sr st sm=>?_
  refine wq m1 w1 h1 (xc.step st) λE2 s2 h2 y L2 H2 e3 e4 m2 w2 ku ri ql be fj=>?_
  obtain⟨z,hz,rfl⟩:=xw h2;cases hf:jz s.2 s2.2 with
  |none=>rw[hf]at hz;cases hz
  |some d=>
   rw[hf]at hz;cases oq9 hz;have kx:=W3 ok fr be (fj rfl);refine vwb kx.1 ku (by rw[e2,e4];exact hf) λz zo zd rn zf za=>?_
   exact k _ _ rfl z L2 H2 (by rw[zo,e1]) zd m2 w2 rn (λb hb=>kx.2 b (zf b hb)) (W0 sr za) (st.trans be) λhq=>q9 (sm hq) (fj rfl)
theorem vj0(ht:QT X Z q u e)(ha:QE X Z q a ea)(hb:QE X Z q b eb):QE X Z q (cIf u a b) (.IfExp e ea eb pos):=kZ (vj8 ht ha hb) fun σ H Q au=>ex8 au λE L r m w hc xc k=>
 qzj m w (show bnd (u E) _=some r from hc) xc λE1 s h1 L1 H1 m1 w1 st sm=>by
  have fin:∀{c:Ex},c E1=some r->tQ Z q c σ H1 Q:=λhc=>⟨E1,L1,r,m1,w1,hc,xc.step st,λE' a z x L' H' e1 e2 m' w' ff ip=>k E' a z x L' H' e1 e2 m' w' (st.trans ff) λhq=>⟨q9 (sm hq) (ip hq).1,λb hb=>J5 (sm hq) ((ip hq).2 b hb)⟩⟩
  cases s with
  |true=>rw[Xf rfl]at h1 ⊢;exact fin h1
  |false=>rw[Xm (by decide)]at h1 ⊢;exact fin h1
theorem xZ{op}(h:QE X Z q a ea):QE X Z q a (.BoolOp op [ea] pos):=vzu h
theorem J6(ha:QV X Z q a ea)(hb:QE X Z q b (.BoolOp .And (eb::es) pos)):QE X Z q (x6 a b) (.BoolOp .And (ea::eb::es) pos):=kZ (wj1 ha hb) fun σ H Q au=>ex8 au λE L r m w hc xc k=>
 wq m w (show bnd (a E) _=some r from hc) xc λE1 s h1 x L1 H1 e1 e2 m1 w1 ok fr sr st sm=>by
  cases hs:s.2 with
  | bl kk=>
   rw[hs]at h1;refine⟨kk,KY ok (e2.trans hs),?_⟩;cases kk with
   |true=>
    rw[Xf rfl];exact⟨E1,L1,r,m1,w1,h1,xc.step st,λE' a z x L' H' e1 e2 m' w' ff ip=>k E' a z x L' H' e1 e2 m' w' (st.trans ff) λhq=>⟨q9 (sm hq) (ip hq).1,λb hb=>J5 (sm hq) ((ip hq).2 b hb)⟩⟩
   |false=>
    rw[Xm (by decide)];cases oq9 h1;obtain⟨w3,ef⟩:=Kk w1 st (xJ (K:=Z.K) (H:=H1) (i:=false) (fr:=[])) (λ_ z=>(nomatch z)) (λ_ z=>(nomatch z)) (λ_ z=>(nomatch z));exact k _ _ rfl ⟨.dp,.bl false,.bl false,[]⟩ L1 H1 rfl rfl m1 w3 ef λhq=>⟨sm hq,λ_ z=>(nomatch z)⟩
  |_=>rw[hs]at h1;cases h1
theorem vza(ha:QV X Z q a ea)(hb:QE X Z q b (.BoolOp .Or (eb::es) pos)):QE X Z q (cOr a b) (.BoolOp .Or (ea::eb::es) pos):=kZ (wvd ha hb) fun σ H Q au=>ex8 au λE L r m w hc xc k=>
 wq m w (show bnd (a E) _=some r from hc) xc λE1 s h1 x L1 H1 e1 e2 m1 w1 ok fr sr st sm=>by
  cases hs:s.2 with
  | bl kk=>
   rw[hs]at h1;refine⟨kk,KY ok (e2.trans hs),?_⟩;cases kk with
   |false=>
    rw[Xm (by decide)];exact⟨E1,L1,r,m1,w1,h1,xc.step st,λE' a z x L' H' e1 e2 m' w' ff ip=>k E' a z x L' H' e1 e2 m' w' (st.trans ff) λhq=>⟨q9 (sm hq) (ip hq).1,λb hb=>J5 (sm hq) ((ip hq).2 b hb)⟩⟩
   |true=>
    rw[Xf rfl];cases oq9 h1;obtain⟨w3,ef⟩:=Kk w1 st (xJ (K:=Z.K) (H:=H1) (i:=true) (fr:=[])) (λ_ z=>(nomatch z)) (λ_ z=>(nomatch z)) (λ_ z=>(nomatch z));exact k _ _ rfl ⟨.dp,.bl true,.bl true,[]⟩ L1 H1 rfl rfl m1 w3 ef λhq=>⟨sm hq,λ_ z=>(nomatch z)⟩
  |_=>rw[hs]at h1;cases h1
theorem wwj{x:Sl}{k:Bool}(ok:x.ok K H)(h:truth x.d=some k)(hd:∀ao,x.d≠.dct ao):wqf K x.v H k:=by
 cases hx:x.d with
 |non=>rw[hx]at h;rw[vkr ok hx];exact(oq9 h).symm
 |bl b=>rw[hx]at h;rw[KY ok hx];exact(oq9 h).symm
 |int i=>rw[hx]at h;rw[vq ok hx];exact(oq9 h).symm
 |str z=>
  rw[hx]at h;obtain⟨e,hz⟩:=wY ok hx;rw[e];refine⟨hz,?_⟩;rw[<-oq9 h];show(z.cps.size != 0)=(((z.cps.size:Nat):Int) != 0);rw[Bool.eq_iff_iff];simp
 |lst ds=>
  rw[hx]at h;obtain⟨a,xs,bs,e,q,r,_⟩:=items ok (.inl hx);rw[e];have q':LsR K H a xs:=by rcases q with⟨_,z⟩|⟨z,_⟩;exact z;rw[hx]at z;cases z
  refine .inl ⟨xs,zW q',?_⟩;rw[<-oq9 h];have:=r.len;cases ds<;>cases xs<;>simp_all
 |tup ds=>
  rw[hx]at h;obtain⟨a,xs,bs,e,q,r,_⟩:=items ok (.inr hx);rw[e];have q':SqT K H a xs:=by rcases q with⟨z,_⟩|⟨_,z⟩;rw[hx]at z;cases z;exact z
  refine .inr (.inl ⟨xs,q',?_⟩);rw[<-oq9 h];have:=r.len;cases ds<;>cases xs<;>simp_all
 |dct ao=>exact absurd hx (hd ao)
 |obj c f=>rw[hx]at h;cases h
theorem kwm{d:D}{k:Bool}(h:truthQ d=some k):truth d=some k/\∀ao,d≠.dct ao:=by
 cases d<;>first|exact⟨h,λ_ z=>nomatch z⟩|cases h
theorem qz(h:QV X Z q a ea)(he:autoParam (∀gc,isTrue ea X.env gc=(do let v <-gc;standAt ea.pos;holding [v] (truthy v))) Ŗ)(hK:autoParam (X.K=Z.K) Ŕ):QT X Z q (tEQ a) ea:=qjy (vj2 h he) fun σ H Q au=>ex8 au λE L r m w hc xc k=>
 wq m w (show bnd (a E) _=some r from hc) xc λE1 s h1 x L1 H1 e1 e2 m1 w1 ok fr sr st sm=>by
  obtain⟨kk,hk,rfl⟩:=xw h1;obtain⟨h2,h3⟩:=kwm hk;exact⟨kk,hK▸wwj ok (by rw[e2];exact h2) (by rw[e2];exact h3),k _ _ rfl L1 H1 m1 w1 st sm⟩
theorem vv6(h:QV X Z q a ea)(hK:autoParam (X.K=Z.K) Ŕ):QE X Z q (Z9 a) (.UnaryOp .Not ea pos):=by
 intro pins s σ H Q I ⟨E,L,r,m,w,hc,xc,k⟩;refine UnaryOp_ (thn (h pins s σ H _ I (wq (G:=λv H1=>∃kk,wqf X.K v H1 kk/\Q (.bl (!kk)) H1) m w (show bnd (a E) _=some r from hc) xc λE1 s h1 x L1 H1 e1 e2 m1 w1 ok fr sr st sm=>?_)) λv s1 ⟨x,H1,I1,r1,kk,t1,q1⟩=>?_)
 ·obtain⟨y,hy,rfl⟩:=xw h1;cases hk:truthQ s.2 with
  |none=>rw[hk]at hy;cases hy
  |some kk=>
   rw[hk]at hy;cases oq9 hy;obtain⟨h2,h3⟩:=kwm hk;refine⟨kk,hK▸wwj ok (by rw[e2];exact h2) (by rw[e2];exact h3),?_⟩;obtain⟨w3,ef⟩:=Kk w1 st (xJ (K:=Z.K) (H:=H1) (i:=!kk) (fr:=[])) (λ_ z=>(nomatch z)) (λ_ z=>(nomatch z)) (λ_ z=>(nomatch z));exact k _ _ rfl ⟨.dp,.bl (!kk),.bl (!kk),[]⟩ L1 H1 rfl rfl m1 w3 ef λhq=>⟨sm hq,λ_ z=>(nomatch z)⟩
 ·exact not_of (thn (vka pins s1 σ H1 x v (λkk H2=>Q (.bl (!kk)) H2) I1 r1 ⟨kk,t1,q1⟩) λc s2 ⟨H2,I2,q2⟩=>⟨.bl (!c),H2,I2,rfl,q2⟩)
end
theorem jzg{α:Type}:∀{L:List α} {i:Nat} {q:α},L[i]?=some q->∃A B,L=A++q::B/\∀q',L.set i q'=A++q'::B
 |[],_,_,h=>by simp at h
 |a::L,0,q,h=>by
  have e:a=q:=by simpa using h
  subst e;exact⟨[],L,rfl,λ_=>rfl⟩
 |a::L,i+1,q,h=>by
  obtain⟨A,B,e,f⟩:=jzg (L:=L) (i:=i) (by simpa using h);exact⟨a::A,B,by rw[e];rfl,λq'=>by rw[List.set_cons_succ,f];rfl⟩
section
variable {K:PySem.W.Frag}{H:Hp}{M T L:Ls}{y y':Sl}{l:Addr}{ob:HO}
theorem World.write(w:World K H (some y::(T++M)))(hl:l∈y.own)(ok':y'.ok K (upd H l ob))(nd:y'.own.Nodup)(h1:∀a∈y'.own,a∈y.own\/a∈j8 T)(h2:∀a∈y'.frz,a∈y.as\/a∈j8 T\/a∈jY T)(h3:∀a∈y'.own,a∉y'.frz):
  World K (upd H l ob) (some y'::M)/\Step H (some y::(T++M)) (upd H l ob) (some y'::M):=by
 have wn:=w.nd;rw [jQ,jZ,X7,X7]at wn;obtain⟨n1,⟨n2,n3,n4⟩,n5⟩:=wn;have oy:l∈j8 (some y::(T++M)):=by rw[jQ];exact ll9 _ hl
 have m4:=w.own_al oy;have ds:∀a,(a∈y.own\/a∈j8 T\/a∈j8 M)->¬(a∈y.frz\/a∈jY T\/a∈jY M):=λa ha hf=>by
  refine w.ds a ?_ ?_
  ·rw[jQ,jZ];rcases ha with z|z|z
   ·exact ll9 _ z
   ·exact lr9 _ (ll9 _ z)
   ·exact lr9 _ (lr9 _ z)
  ·rw[kQ,qw];rcases hf with z|z|z
   ·exact ll9 _ z
   ·exact lr9 _ (ll9 _ z)
   ·exact lr9 _ (lr9 _ z)
 have noM:∀z,some z∈M->l∉z.as:=λz hz ha=>by
  rcases Sl.as_of ha with q|q
  ·exact n5 l hl l (lr9 _ (mem_owned.mpr ⟨z,hz,q⟩)) rfl
  ·exact ds l (.inl hl) (.inr (.inr (mem_frozen.mpr ⟨z,hz,q⟩)))
 have ke:∀a o,H a=some o->a≠l->upd H l ob a=some o:=λa o e ne=>by rw[qx ne];exact e
 have kp:∀as:List Addr,l∉as->Kp H (upd H l ob) as:=λas hn=>by
  refine⟨λa xs e=>ke a _ e λz=>?_,λa o u e=>ke a _ e λz=>?_,λa ha o e=>ke a o e λz=>hn (z▸ha)⟩
  ·subst z;rcases m4 with⟨_,q⟩|⟨_,q⟩|⟨_,q⟩<;>(rw[e]at q;cases q)
  ·subst z;rcases m4 with⟨_,q⟩|⟨_,q⟩|⟨_,q⟩<;>(rw[e]at q;cases q)
 have wM:World K (upd H l ob) M:=by
  have w1:World K H M:=w.tail.right;exact⟨λz hz=>RepO.kp (w1.ok z hz) (kp _ (noM z hz)),w1.nd,w1.ds⟩
 refine⟨wM.cons ok' nd (λa ha hM=>?_) (λa ha hM=>?_) (λa ha hM=>?_) h3,λa o e hn=>ke a o e λz=>hn (z▸oy),λa ha=>?_,λa ha=>?_⟩
 ·rcases h1 a ha with z|z
  ·exact n5 a z a (lr9 _ hM) rfl
  ·exact n4 a z a hM rfl
 ·rcases h1 a ha with z|z
  ·exact ds a (.inl z) (.inr (.inr hM))
  ·exact ds a (.inr (.inl z)) (.inr (.inr hM))
 ·rcases h2 a ha with z|z|z
  ·rcases Sl.as_of z with z|z
   ·exact n5 a z a (lr9 _ hM) rfl
   ·exact ds a (.inr (.inr hM)) (.inl z)
  ·exact n4 a z a hM rfl
  ·exact ds a (.inr (.inr hM)) (.inr (.inl z))
 ·rw[jQ]at ha;rw[jQ,jZ];rcases List.mem_append.mp ha with z|z
  ·rcases h1 a z with z|z
   ·exact .inl (ll9 _ z)
   ·exact .inl (lr9 _ (ll9 _ z))
  ·exact .inl (lr9 _ (lr9 _ z))
 ·rw[kQ]at ha;rw[jQ,jZ,kQ,qw];rcases List.mem_append.mp ha with z|z
  ·rcases h2 a z with z|z|z
   ·rcases Sl.as_of z with z|z
    ·exact .inr (.inl (ll9 _ z))
    ·exact .inl (ll9 _ z)
   ·exact .inr (.inl (lr9 _ (ll9 _ z)))
   ·exact .inl (lr9 _ (ll9 _ z))
  ·exact .inl (lr9 _ (lr9 _ z))
theorem World.writeAt{i:Nat}(w:World K H (T++L))(hy:L[i]?=some (some y))(hl:l∈y.own)(ok':y'.ok K (upd H l ob))(nd:y'.own.Nodup)(h1:∀a∈y'.own,a∈y.own\/a∈j8 T)(h2:∀a∈y'.frz,a∈y.as\/a∈j8 T\/a∈jY T)(h3:∀a∈y'.own,a∉y'.frz):
  World K (upd H l ob) (L.set i (some y'))/\Step H (T++L) (upd H l ob) (L.set i (some y')):=by
 obtain⟨A,B,e,f⟩:=jzg hy;rw[f];subst e;have p:(T++(A++some y::B)).Perm (some y::(T++(A++B))):=by
  refine(List.Perm.append_left T (List.perm_middle (a:=some y) (l₁:=A) (l₂:=B))).trans List.perm_middle
 obtain⟨w2,s2⟩:=World.write (M:=A++B) (w.perm p) hl ok' nd h1 h2 h3;exact⟨w2.perm List.perm_middle.symm,s2.perm p.symm List.perm_middle.symm⟩
end
theorem RepA.snoc{K:PySem.W.Frag}{H:Hp}{g:Bool}{d:D}{x:V}{cs:List Addr}(h:RepL K H g d x cs){ds:List D}{xs:List V}{bs:List Addr}(r:RepA K H g ds xs bs):RepA K H g (ds++[d]) (xs++[x]) (bs++cs):=by
 refine RepA.app ?_ r;unfold RepA;exact⟨x,[],cs,[],rfl,by simp,h,by unfold RepA;exact⟨rfl,rfl⟩⟩
theorem kvr{K:PySem.W.Frag}{H:Hp}{y:Sl}{ds:List D}(ok:y.ok K H)(hd:y.d=.lst ds)(ho:y.o≠.no):∃l xs bs,y.v=.ref l/\H l=some (.lst xs)/\y.as=l::bs/\l∈y.own/\RepA K H (y.o != .dp) ds xs bs:=by
 obtain⟨o,d,v,as⟩:=y;dsimp only at hd ho;subst hd;cases o with
 |no=>exact absurd rfl ho
 |rt=>
  obtain⟨a,xs,bs,rfl,r,q,rfl⟩:=(show RepR K H (.lst ds) v as from ok);exact⟨a,xs,bs,rfl,q,rfl,by simp[Sl.own],r⟩
 |dp=>
  have ok:RepL K H false (.lst ds) v as:=ok;unfold RepL at ok;obtain⟨a,xs,bs,rfl,r,q⟩:=ok;rcases q with⟨q,rfl⟩|⟨z,_⟩
  ·exact⟨a,xs,bs,rfl,q,rfl,by simp[Sl.own],r⟩
  ·cases z
theorem kzv{K:PySem.W.Frag}{H:Hp}{T L:Ls}{i:Nat}{y:Sl}{l:Addr}{xs xs':List V}{bs cs:List Addr}{o':Own}{ds':List D}(w:World K H (T++L))(hy:L[i]?=some (some y))(hH:H l=some (.lst xs))(ha:y.as=l::bs)(hl:l∈y.own)(hv:y.v=.ref l)
  (r:RepA K H (o' != .dp) ds' xs' cs) (hc:(o'=.rt/\∀a∈cs,a∈bs\/a∈j8 T\/a∈jY T)\/(o'=.dp/\y.o=.dp/\cs.Nodup/\∀a∈cs,a∈bs\/a∈j8 T)):
  World K (upd H l (.lst xs')) (L.set i (some ⟨o',.lst ds',y.v,l::cs⟩))/\Step H (T++L) (upd H l (.lst xs')) (L.set i (some ⟨o',.lst ds',y.v,l::cs⟩)):=by
 have oL:l∈j8 L:=mem_owned.mpr ⟨y,x4 hy,hl⟩;have oy:l∈j8 (T++L):=by rw[jZ];exact lr9 _ oL
 have nd:=w.nd;rw [jZ,X7]at nd;have nT:l∉j8 T:=λz=>nd.2.2 l z l oL rfl
 have nF:l∉jY T:=λz=>w.ds l oy (by rw[qw];exact ll9 _ z)
 have yn:y.own.Nodup:=by
  obtain⟨A,B,e,_⟩:=jzg hy;have:=nd.2.1;rw[e,jZ,jQ,X7]at this;exact(List.nodup_append.mp this.2.1).1
 have nb:l∉bs:=λz=>by
  cases ho:y.o with
  | no=>unfold Sl.own at hl;rw[ho]at hl;exact nomatch hl
  | rt=>
   have:l∈y.frz:=by unfold Sl.frz;rw[ho,ha];exact z
   exact w.ds l oy (by rw[qw];exact lr9 _ (mem_frozen.mpr ⟨y,x4 hy,this⟩))
  | dp=>
   unfold Sl.own at yn;rw[ho,ha]at yn;exact(List.nodup_cons.mp yn).1 z
 have nc:l∉cs:=λz=>by
  rcases hc with⟨_,hc⟩|⟨_,_,_,hc⟩
  ·rcases hc l z with q|q|q
   ·exact nb q
   ·exact nT q
   ·exact nF q
  ·rcases hc l z with q|q
   ·exact nb q
   ·exact nT q
 have kp:Kp H (upd H l (.lst xs')) cs:=by
  have k2:∀a o,H a=some o->a≠l->upd H l (.lst xs') a=some o:=λa o e ne=>by rw[qx ne];exact e
  refine⟨λa zs e=>k2 a _ e λz=>?_,λa o u e=>k2 a _ e λz=>?_,λa ha o e=>k2 a o e λz=>nc (z▸ha)⟩
  ·subst z;rw[hH]at e;cases e
  ·subst z;rw[hH]at e;cases e
 have r':=r.kp kp;rcases hc with⟨rfl,hc⟩|⟨rfl,hdp,pe,hc⟩
 ·refine World.writeAt w hy hl (y':=⟨.rt,.lst ds',y.v,l::cs⟩) ⟨l,xs',cs,hv,r',xX,rfl⟩ (by simp[Sl.own]) (λa h=>?_) (λa h=>?_) (λa h z=>?_)
  ·have:a=l:=by simpa [Sl.own]using h
   subst this;exact .inl hl
  ·rcases hc a (by simpa [Sl.frz]using h)with q|q
   ·exact .inl (by rw[ha];exact lc9 _ q)
   ·exact .inr q
  ·have:a=l:=by simpa [Sl.own]using h
   subst this;exact nc (by simpa [Sl.frz]using z)
 ·have oa:y.own=y.as:=by unfold Sl.own;rw[hdp]
  refine World.writeAt w hy hl (y':=⟨.dp,.lst ds',y.v,l::cs⟩) ?_ (List.nodup_cons.mpr ⟨nc,pe⟩) (λa h=>?_) (λa h=>(nomatch h)) (λa h z=>(nomatch z))
  ·show RepL K _ false (.lst ds') y.v (l::cs);unfold RepL;exact⟨l,xs',cs,hv,r',.inl ⟨xX,rfl⟩⟩
  ·rcases List.mem_cons.mp (show a∈l::cs from h)with q|q
   ·subst q;exact .inl hl
   ·rcases hc a q with q|q
    ·exact .inl (by rw[oa,ha];exact lc9 _ q)
    ·exact .inr q
section
variable {X:Cx}{Z:Fx0}{pn:List Nat}{q:Bool}{c:Ex}{e:Expr}{σ:L2.St}{H:Hp}{L:Ls}{E:En}
theorem vks{K:PySem.W.Frag}{x:Sl}{ds:List D}(ok:x.ok K H)(hd:x.d=.lst ds):tyV K "list" x.v H:=by
 obtain⟨a,xs,bs,e1,q1,_⟩:=items ok (.inl hd);rw[e1];rcases q1 with⟨_,z⟩|⟨z,_⟩
 ·exact .inl ⟨rfl,xs,z.sq⟩
 ·rw[hd]at z;cases z
theorem wk8{K:PySem.W.Frag}{x:Sl}(ok:x.ok K H)(b:Bool)(hb:b=false->v9 x.sd=true):∃cs,RepL K H b x.d x.v cs/\(∀a∈cs,a∈x.as)/\(b=false->∀a∈cs,a∈x.own)/\(b=false->x.own.Nodup->cs.Nodup):=by
 cases b with
 | true=>exact⟨x.as,RepO.wk ok,λ_ h=>h,(λz=>by cases z),(λz=>by cases z)⟩
 | false=>
  have t:=hb rfl;unfold v9 at t
  by_cases ho:x.o=.dp
  ·have e:x.own=x.as:=by unfold Sl.own;rw[ho]
   refine⟨x.as,?_,λ_ h=>h,λ_ a h=>by rw[e];exact h,λ_ n=>by rw[e]at n;exact n⟩;have:=ok;unfold Sl.ok at this;rw[ho]at this;exact this
  ·have hp:x.d.pure=true:=by
    rcases Bool.or_eq_true_iff.mp t with z|z
    ·exact absurd (by simpa using z) ho
    ·exact z
   obtain⟨z,rp⟩:=RepL.pu (g':=false) (RepO.wk ok) hp;exact⟨[],rp,λ_ h=>(nomatch h),λ_ _ h=>(nomatch h),λ_ _=>Y9⟩
theorem Jq{α:Type}{l:List α}{i:Nat}{x:α}(h:l[i]?=some x):l.set i x=l:=by
 obtain⟨h1,h2⟩:=List.getElem?_eq_some_iff.mp h;rw[<-h2];simp
theorem mut1 {D':Ends} {f:List D->D->Option (List D)} {i:Nat} {r:Fl} {G:V->V->Hp->Prop} (m:Mt E σ L) (w:World Z.K H L) (hc:wQ f i c E=some r) (k:FlP Z pn D' σ H L r)
  (g:∀ (l:Addr) (x:V) (xs:List V) (ds ds':List D) (d:D) (bs cs:List Addr) (H1:Hp) (gg:Bool),f ds d=some ds'->H1 l=some (.lst xs)->RepA Z.K H1 gg ds xs bs->RepL Z.K H1 gg d x cs ->
   (∀ xs' es,RepA Z.K H1 gg ds' xs' es->(∀a∈es,a∈bs\/a∈cs)->((bs++cs).Nodup->es.Nodup)->D'.nx σ (upd H1 l (.lst xs')))->G (.ref l) x H1):
  ∃ v,σ[i]?=some (some v)/\tyV Z.K "list" v H/\tQ Z q c σ H (G v):=by
 unfold wQ at hc;cases h0:E[i]? with
 | none=>rw[h0]at hc;cases hc
 | some s0 =>
  cases s0 with
  | none=>rw[h0]at hc;cases hc
  | some s0=>
   obtain ⟨o0,d0⟩:=s0;cases d0 with
   | lst ds0=>
    rw [h0,Xf (show Wj (some (some (o0,D.lst ds0)))=true from rfl)]at hc;obtain ⟨x0,a1,a2,a3,a4⟩:=m.get h0;refine ⟨x0.v,a4,vks (w.ok x0 (x4 a1)) a3,?_⟩;refine W5 m w hc k λE1 s h1 x L1 H1 e1 e2 m1 w1 st _=>?_
    cases hE:E1[i]? with
    | none=>rw[hE]at h1;cases h1
    | some s1=>
     cases s1 with
     | none=>rw[hE]at h1;cases h1
     | some s1=>
      obtain⟨oo,dd⟩:=s1;rw [hE]at h1;cases dd with
      | lst ds=>
       dsimp only at h1
       by_cases ll:oo=.no
       ·rw [Xf ll]at h1;cases h1
       ·rw [Xm ll]at h1;cases hfd:f ds s.2 with
        | none=>rw[hfd]at h1;cases h1
        | some ds'=>
         rw[hfd]at h1;obtain⟨y,b1,b2,b3,b4⟩:=m1.get hE;have hv:y.v=x0.v:=by rw[a4]at b4;exact(oq9 (oq9 b4)).symm
         obtain⟨l,xs,bs,c1,c2,c3,c4,c5⟩:=kvr (w1.ok y (lc9 _ (x4 b1))) b3 (by rw[b2];exact ll);have ex0:x0.v=.ref l:=hv▸c1;rw[ex0];have wT:World Z.K H1 ([some x]++L1):=w1;have jm:=w1.head;have nd:=w1.nd;rw[jQ,X7]at nd;have oT:j8 [some x]=x.own:=by simp
         have fT:jY [some x]=x.frz:=by simp
         by_cases hd:oo=.dp/\v9 s=true
         ·rw[Xf hd]at h1;cases oq9 h1;have hyo:y.o=.dp:=b2.trans hd.1;rw[hyo]at c5;obtain⟨cs,r1,h3,h4,h5⟩:=wk8 jm false λ_=>by rw[show x.sd=s from by simp[Sl.sd,e1,e2]];exact hd.2
          refine g l x.v xs ds ds' s.2 bs cs H1 false hfd c2 c5 (by rw[<-e2];exact r1) λxs' es re he hn=>?_
          have ynd:(bs++cs).Nodup:=by
           have yo:y.own=l::bs:=by unfold Sl.own;rw[hyo,c3]
           obtain⟨A,B,e,_⟩:=jzg b1;have q:=nd.2.1;rw[e,jZ,jQ,X7]at q;have q2:=(List.nodup_append.mp q.2.1).1;rw[yo]at q2;rw[X7];refine⟨(List.nodup_cons.mp q2).2,h5 rfl nd.1,λa ha b hb gr=>?_⟩;subst gr;exact nd.2.2 a (h4 rfl a hb) a (mem_owned.mpr ⟨y,x4 b1,by rw[yo];exact lc9 _ ha⟩) rfl
          obtain⟨w3,s3⟩:=kzv (o':=.dp) (ds':=ds') (xs':=xs') wT b1 c2 c3 c4 c1 re (.inr ⟨rfl,hyo,hn ynd,λa ha=>(he a ha).imp id λz=>by rw[oT];exact h4 rfl a z⟩);refine k σ _ _ Pn.refl ?_ w3 (st.trans s3);have:=m1.set (x:=⟨.dp,.lst ds',y.v,l::es⟩) i;rw[Jq b4]at this;exact this
         ·rw[Xm hd]at h1;cases oq9 h1;have c6:RepA Z.K H1 true ds xs bs:=by
           cases hb:(y.o != .dp)with
           |true=>rw[hb]at c5;exact c5
           |false=>rw[hb]at c5;exact c5.wk
          refine g l x.v xs ds ds' s.2 bs x.as H1 true hfd c2 c6 (by rw[<-e2];exact RepO.wk jm) λxs' es re he hn=>?_
          obtain⟨w3,s3⟩:=kzv (o':=.rt) (ds':=ds') (xs':=xs') wT b1 c2 c3 c4 c1 re (.inl ⟨rfl,λa ha=>(he a ha).imp id λz=>by rw[oT,fT];exact Sl.as_of z⟩);refine k σ _ _ Pn.refl ?_ w3 (st.trans s3);have:=m1.set (x:=⟨.rt,.lst ds',y.v,l::es⟩) i;rw[Jq b4]at this;exact this
      |_=>cases h1
   |_=>rw[h0]at hc;cases hc
theorem wv9{i:Nat}{o:Expr}{ak ab pos:Pos}(hb:PE X (.Call (.Attribute o "append" ak) [e] [] ab) (tBM Z.K "list" kk8 (J8 i) (vqq (tQ Z q c) wqi)))(hs:autoParam (swapsWith (.Call (.Attribute o "append" ak) [e] [] ab) none pos.line X.env=pure false) Ŕ):
  QS X Z pn (wQ wJ i c) (.Expr (.Call (.Attribute o "append" ak) [e] [] ab) pos):=zw (Zq hb hs) λD σ H au=>ex7 au λE L r m w hc k=>
 mut1 (G:=λv x H1=>kk8 v [x] H1 λ_ H2=>D.nx σ H2) m w hc k λl x xs ds ds' d bs cs H1 gg hf hH ra rx fin=>by
  unfold wJ at hf
  by_cases hl:ds.length<big
  ·rw[Xf hl]at hf;cases oq9 hf;exact⟨l,xs,x,rfl,rfl,hH,by rw[<-ra.len];exact hl,fin (xs++[x]) (bs++cs) (RepA.snoc rx ra) (λa ha=>List.mem_append.mp ha) λh=>h⟩
  ·rw[Xm hl]at hf;cases hf
end
section
variable {X:Cx}{Z:Fx0}{pn:List Nat}{q:Bool}{a b c:Ex}{tg e ea eb:Expr}{σ:L2.St}{H:Hp}{L:Ls}{E:En}{pos p:Pos}
theorem vxl{pins:List (Addr×Obj)}{H1:Hp}{s1:Shared}{x:Str}{t:Tok}{R:It->Hp->Prop}(I1:L2.Inv X pins σ H1 s1)(q:R (Its x) H1):wpAny (model X.prog X.w) X.A (pyIter (.str x t)) (PIE X pins σ tg R) X.xe s1:=by
 have fp:∀b∈[s1.heap.objs.size],vJ X pins H1 b:=λb hb=>by
  have e:b=s1.heap.objs.size:=by simpa using hb
  subst e;exact I1.fpOk (Xe _) (I1.hok.fresh (Xe _))
 cases ha:x.cps.all (· < 128)
 ·exact wpAny_pyIter_wide ha ⟨s1.heap.objs.size,[s1.heap.objs.size],_,_,H1,rfl,I1.kept (t':=s1.toks) λb o e=>X1 _ e,qjf (λA' hA=>PySem.Walks.strWide hA _ x t) (λ_ _ _ _ _ st h=>wpAny_pyIter_striter_wide st h) (by decide),⟨_,X8 _ rfl,rfl,rfl⟩,fp,q⟩
 ·exact wpAny_pyIter_ascii ha ⟨s1.heap.objs.size,[s1.heap.objs.size],_,_,H1,rfl,I1.kept (t':=s1.toks) λb o e=>X1 _ e,qjf (λA' hA=>PySem.Walks.strAscii hA _ x t) (λ_ _ _ _ _ st h=>wpAny_pyIter_striter_ascii st h) (by decide),⟨_,X8 _ rfl,rfl,rfl⟩,fp,q⟩
theorem wje{K:PySem.W.Frag}{H:Hp}(c:Nat):Sl.ok K H ⟨.no,.str ⟨#[c]⟩,.str ⟨#[c]⟩,[]⟩:=by
 show RepL K H true _ _ _;exact QX (show(1:Nat)<=sizeLine by decide)
theorem wjd{K:PySem.W.Frag}{H:Hp}(i:Int):Sl.ok K H ⟨.no,.int i,.int i,[]⟩:=by
 show RepL K H true _ _ _;exact zV
noncomputable def iAny(K:PySem.W.Frag)(tl:TE):TI:=fun σ H R=>tl σ H λx H1=>(∃a xs,x=.ref a/\SqL K H1 a xs/\(xs.length<=sizeLine->R (Itl K a) H1))\/(∃a xs,x=.ref a/\SqT K H1 a xs/\(xs.length<=sizeLine->R (Itt K a) H1))\/∃z,x=.str z/\R (Its z) H1
theorem vzr{l:Expr}{tl:TE}(hl:PE X l tl):PI X tg l (iAny X.K tl):=by
 intro pins s σ H R I h;have h':tl σ H λx H1=>(∃a xs,x=.ref a/\SqL X.K H1 a xs/\(xs.length<=sizeLine->R (Itl X.K a) H1))\/(∃a xs,x=.ref a/\SqT X.K H1 a xs/\(xs.length<=sizeLine->R (Itt X.K a) H1))\/∃z,x=.str z/\R (Its z) H1:=h
 refine thn (hl pins s σ H _ I h') λv s1 ⟨x,H1,I1,r1,q1⟩=>?_
 rcases q1 with⟨a,xs,rfl,hq,q⟩|⟨a,xs,rfl,hq,q⟩|⟨z,rfl,q⟩
 ·cases r1;obtain⟨aa,rv,p,hz⟩:=I1.list hq;refine Yz p.isList ?_;refine⟨s1.heap.objs.size,[s1.heap.objs.size],_,_,H1,rfl,I1.kept (t':=s1.toks) λb o e=>X1 _ e,kwk a _,⟨_,X8 _ rfl,rfl,rfl⟩,λb hb=>?_,q hz⟩;have e:b=s1.heap.objs.size:=by simpa using hb
  subst e;exact I1.fpOk (Xe _) (I1.hok.fresh (Xe _))
 ·cases r1;obtain⟨aa,rv,p,hz⟩:=I1.tuple hq;refine wpAny_pyIter_tuple (show s1.heap.IsTuple a aa.toArray from p) ?_;refine⟨s1.heap.objs.size,[s1.heap.objs.size],_,_,H1,rfl,I1.kept (t':=s1.toks) λb o e=>X1 _ e,qky a _,⟨_,X8 _ rfl,rfl,rfl⟩,λb hb=>?_,q hz⟩;have e:b=s1.heap.objs.size:=by simpa using hb
  subst e;exact I1.fpOk (Xe _) (I1.hok.fresh (Xe _))
 ·obtain⟨t,rfl⟩:=r1;exact vxl I1 q
theorem wv(h:QE X Z q c e)(hK:autoParam (X.K=Z.K) Ŕ):QI X Z q tg (itS c) e:=λpins s σ H R I au=>ex8 au λE L r m w hc xc k=>by
 refine(hK▸vzr h) pins s σ H R I ?_;refine Wz m w (show bnd (c E) _=some r from hc) xc λE1 s h1 x L1 H1 e1 e2 m1 w1 st sm=>?_
 obtain⟨ds,hd,rfl⟩:=xw h1;have ok:=w1.head;have wT:World Z.K H1 (L1++[x.let].map some):=by
  refine World.comm (L:=[some x.let]) ?_;exact w1.tail.consNo (K1 ok) rfl λb hb=>w1.apart b hb
 have sT:Step H L H1 (L1++[x.let].map some):=by
  refine⟨st.keep,λb hb=>?_,λb hb=>?_⟩
  ·have:b∈j8 L1:=by simpa [Jv]using hb
   exact st.own b (by rw[jQ];exact lr9 _ this)
  ·have:b∈jY L1\/b∈x.as:=by simpa [Jv]using hb
   rcases this with z|z
   ·exact st.frz b (by rw[kQ];exact lr9 _ z)
   ·exact kju st b z
 cases hx:x.d with
 | lst es=>
  rw[<-e2,hx]at hd;have ny:es=ds:=oq9 hd;subst ny;obtain⟨a,xs,bs,ev,q3,r3,h3,_⟩:=items ok (.inl hx);have q3:LsR Z.K H1 a xs:=by rcases q3 with⟨_,z⟩|⟨z,_⟩;exact z;rw[hx]at z;cases z
  have again:∀H2:Hp,(∀t∈[x.let],t.ok Z.K H2)->∃ys cs,SqL Z.K H2 a ys/\RepA Z.K H2 true es ys cs/\∀b∈cs,b∈x.as:=λH2 hok=>by
   obtain⟨a',ys,cs,on,q4,r4,h4,_⟩:=items (hok x.let (List.mem_singleton.mpr rfl)) (.inl hx);have:a'=a:=by have:=on.symm.trans ev;exact V.ref.inj this
   subst this;rcases q4 with⟨_,z⟩|⟨z,_⟩
   ·exact⟨ys,cs,z.sq,r4,h4⟩
   ·rw[show x.let.d=D.lst es from hx]at z;cases z
  refine .inl ⟨a,xs,ev,q3.sq,λaf=>k _ _ rfl (Itl Z.K a) [x.let] L1 H1 m1 wT sT (by rw[r3.len];exact af) (λhq=>(sm hq).1) ⟨λt ht=>by rw[List.mem_singleton.mp ht];rfl,λi H2 hok hi=>?_,λH2 hok=>?_,λi H2 v H3 d hok hy f7=>?_⟩⟩
  ·obtain⟨ys,cs,s1,s2,_⟩:=again H2 hok;have hl:=s2.len;exact⟨ys,ys[i]'(by omega),s1,X2 (by omega)⟩
  ·obtain⟨ys,cs,s1,s2,_⟩:=again H2 hok;exact⟨ys,s1,by rw[s2.len];exact Xe _⟩
  ·obtain⟨ys,cs,s1,s2,s3⟩:=again H2 hok;obtain⟨e3,hy⟩:=hy;subst e3;obtain⟨v',d6,f1,f2,f3⟩:=s2.get f7;have:v'=v:=by have:=hy ys s1;rw[f1]at this;exact oq9 this
   subst this;exact⟨⟨.no,d,v',d6⟩,rfl,rfl,rfl,xj,f2,λb hb=>⟨x.let,List.mem_singleton.mpr rfl,s3 b (f3 b hb)⟩⟩
 | tup es=>
  rw[<-e2,hx]at hd;have ny:es=ds:=oq9 hd;subst ny;obtain⟨a,xs,bs,ev,q3,r3,h3,_⟩:=items ok (.inr hx);have q3:SqT Z.K H1 a xs:=by rcases q3 with⟨z,_⟩|⟨_,z⟩;rw[hx]at z;cases z;exact z
  have again:∀H2:Hp,(∀t∈[x.let],t.ok Z.K H2)->∃ys cs,SqT Z.K H2 a ys/\RepA Z.K H2 true es ys cs/\∀b∈cs,b∈x.as:=λH2 hok=>by
   obtain⟨a',ys,cs,on,q4,r4,h4,_⟩:=items (hok x.let (List.mem_singleton.mpr rfl)) (.inr hx);have:a'=a:=by have:=on.symm.trans ev;exact V.ref.inj this
   subst this;rcases q4 with⟨z,_⟩|⟨_,z⟩
   ·rw[show x.let.d=D.tup es from hx]at z;cases z
   ·exact⟨ys,cs,z,r4,h4⟩
  refine .inr (.inl ⟨a,xs,ev,q3,λaf=>k _ _ rfl (Itt Z.K a) [x.let] L1 H1 m1 wT sT (by rw[r3.len];exact af) (λhq=>(sm hq).1) ⟨λt ht=>by rw[List.mem_singleton.mp ht];rfl,λi H2 hok hi=>?_,λH2 hok=>?_,λi H2 v H3 d hok hy f7=>?_⟩⟩)
  ·obtain⟨ys,cs,s1,s2,_⟩:=again H2 hok;have hl:=s2.len;exact⟨ys,ys[i]'(by omega),s1,X2 (by omega)⟩
  ·obtain⟨ys,cs,s1,s2,_⟩:=again H2 hok;exact⟨ys,s1,by rw[s2.len];exact Xe _⟩
  ·obtain⟨ys,cs,s1,s2,s3⟩:=again H2 hok;obtain⟨e3,hy⟩:=hy;subst e3;obtain⟨v',d6,f1,f2,f3⟩:=s2.get f7;have:v'=v:=by have:=hy ys s1;rw[f1]at this;exact oq9 this
   subst this;exact⟨⟨.no,d,v',d6⟩,rfl,rfl,rfl,xj,f2,λb hb=>⟨x.let,List.mem_singleton.mpr rfl,s3 b (f3 b hb)⟩⟩
 | str z=>
  rw[<-e2,hx]at hd;have hd:(if z.cps.size<=big then some (z.cps.toList.map λc=>D.str ⟨#[c]⟩)else none)=some ds:=hd
  split at hd
  ·rename_i hz;cases oq9 hd;refine .inr (.inr ⟨z,(wY ok hx).1,k _ _ rfl (Its z) [] L1 H1 m1 (by simpa using w1.tail) (by simpa using (st.trans Step.drop)) (by rw[X4,Xa];exact hz) (λhq=>(sm hq).1) ⟨λt ht=>(nomatch ht),λi H2 _ hi=>?_,λH2 _=>?_,λi H2 v H3 d _ hy f7=>?_⟩⟩)
   ·show i<z.cps.size
    simpa using hi
   ·show(z.cps.toList.map λc=>D.str ⟨#[c]⟩).length=z.cps.size;simp
   ·obtain⟨e3,cc,hc,rfl⟩:=hy;subst e3;rw[Xp,Array.getElem?_toList,hc]at f7;cases oq9 f7;exact⟨⟨.no,.str ⟨#[cc]⟩,.str ⟨#[cc]⟩,[]⟩,rfl,rfl,rfl,xj,wje cc,λb hb=>(nomatch hb)⟩
  ·cases hd
 |non=>rw[<-e2,hx]at hd;cases hd
 |bl _=>rw[<-e2,hx]at hd;cases hd
 |int _=>rw[<-e2,hx]at hd;cases hd
 |dct _=>rw[<-e2,hx]at hd;cases hd
 |obj _ _=>rw[<-e2,hx]at hd;cases hd
theorem qkx{K:PySem.W.Frag}(lo hi:Int):Walks K (Itr lo (hi - lo).toNat) [] (kK lo hi):=by
 have hl:(kK lo hi).length=(hi - lo).toNat:=by simp[kK]
 refine⟨λt ht=>(nomatch ht),λi H _ qe=>by rw[hl]at qe;exact qe,λH _=>by rw[hl];exact Xe _,λi H v H' d _ hy hd=>?_⟩;obtain⟨e,rfl⟩:=hy;subst e;unfold kK at hd;rw[Xp]at hd;cases hr:(List.range (hi - lo).toNat)[i]? with
 | none=>rw[hr]at hd;cases hd
 | some j=>
  rw[hr]at hd;have:j=i:=by
   obtain⟨_,h2⟩:=List.getElem?_eq_some_iff.mp hr
   simpa using h2.symm
  subst this;cases oq9 hd;exact⟨⟨.no,.int (lo+(j:Int)),.int (lo+(j:Int)),[]⟩,rfl,rfl,rfl,xj,wjd _,λb hb=>(nomatch hb)⟩
theorem qq4{i:Int}(h:Jk i=true):-(2 ^ 62)<=i/\i<2 ^ 62:=by
 unfold Jk at h
 simpa using h
theorem Kz(ha:QV X Z q a ea)(hg:Gl X "range")(hm:X.mg "range"=none)(bm:autoParam (starEach [ea] X.env=[(false,eval ea X.env)]) Ŕ):QI X Z q tg (qV a) (.Call (.Name "range" p) [ea] [] pos):=λpins s σ H R I au=>ex8 au λE L r m w hc xc k=>by
 refine(qwb hg hm (vZ ha wW bm) bm) pins s σ H R I ?_;refine wq m w (show bnd (a E) _=some r from hc) xc λE1 s h1 x L1 H1 e1 e2 m1 w1 ok fr sr st sm=>?_
 cases hx:s.2 with
 | int j=>
  rw[hx]at h1;dsimp only at h1
  split at h1
  ·rename_i hj;cases oq9 h1;obtain⟨j1,j2⟩:=qq4 hj.1;have hv:=vq ok (e2.trans hx);refine⟨j,by rw[hv],j1,j2,?_⟩;have wk:=qkx (K:=Z.K) 0 j;rw[Int.sub_zero]at wk;exact k _ _ rfl (Itr 0 j.toNat) [] L1 H1 m1 (by simpa using w1) (by simpa using st) (by simp only[kK,X4,Yb,Int.sub_zero];exact hj.2) sm wk
  ·cases h1
 |_=>rw[hx]at h1;cases h1
theorem Mt.clr:∀{R:List Nat} {E:En} {L:Ls},Mt E σ L->Mt (Q.clr R E) σ (Q.clr R L)
 | [],_,_,m=>m
 | j::R,E,L,m=>by
  have un:∀{E:En} {σ:L2.St} {L:Ls} (j:Nat),Mt E σ L->Mt (E.set j none) σ (L.set j none):=by
   intro E σ L j m
   induction m generalizing j with
   |nil=>exact .nil
   |un m ih=>cases j with
    |zero=>exact .un m
    |succ j=>exact .un (ih j)
   |cons m ih=>cases j with
    |zero=>exact .un m
    |succ j=>exact .cons (ih j)
  show Mt (Q.clr R (E.set j none)) σ (Q.clr R (L.set j none));exact Mt.clr (un j m)
theorem Mt.drop:∀{E:En} {σ:L2.St} {L:Ls} (k:Nat),Mt E σ L->Mt (E.drop k) (σ.drop k) (L.drop k)
 |_,_,_,0,m=>m
 |_,_,_,k+1,.nil=>.nil
 |_,_,_,k+1,.un m=>m.drop k
 |_,_,_,k+1,.cons m=>m.drop k
theorem Mt.none_at:∀{E:En} {σ:L2.St} {L:Ls} {j:Nat},Mt E σ L->E[j]?=some none->L[j]?=some none
 |_,_,_,_,.nil,h=>by simp at h
 |_,_,_,0,.un _,_=>by simp
 |_,_,_,j+1,.un m,h=>by simpa using m.none_at (j:=j) (by simpa using h)
 |_,_,_,0,.cons _,h=>by simp at h
 |_,_,_,j+1,.cons m,h=>by simpa using m.none_at (j:=j) (by simpa using h)
theorem Mt.pick:∀{R:List Nat},Mt E σ L->Mt (R.map (at' E)) (R.map (at' σ)) (R.map (at' L))
 | [],_=>.nil
 | j::R,m=>by
  rw[List.map_cons,List.map_cons,List.map_cons];cases hE:E[j]? with
  | none=>
   have hl:=m.len;have:L[j]?=none:=by rw[List.getElem?_eq_none_iff]at hE ⊢;omega
   rw[show at' E j=none from by unfold at';rw[hE];rfl,show at' L j=none from by unfold at';rw[this];rfl];exact .un m.pick
  | some s=>
   cases s with
   |none=>
    have:L[j]?=some none:=m.none_at hE;rw[show at' E j=none from by unfold at';rw[hE];rfl,show at' L j=none from by unfold at';rw[this];rfl];exact .un m.pick
   |some s=>
    obtain⟨o,d⟩:=s;obtain⟨x,h1,h2,h3,h4⟩:=m.get hE;rw[show at' E j=some (x.o,x.d)from by unfold at';rw[hE,h2,h3];rfl,show at' L j=some x from by unfold at';rw[h1];rfl,show at' σ j=some x.v from by unfold at';rw[h4];rfl];exact .cons m.pick
theorem Mt.rep:∀{k:Nat},Mt E σ L->Mt (List.replicate k none++E) (List.replicate k none++σ) (List.replicate k none++L)
 |0,m=>by simpa using m
 |k+1,m=>by
  rw[List.replicate_succ,List.replicate_succ,List.replicate_succ];exact .un m.rep
theorem Mt.back:∀{R:List Nat} {B:En} {τ:L2.St} {M:Ls} {E:En} {L:Ls},Mt E σ L->Mt B τ M->(∀(i j:Nat) (v:V),R[i]?=some j->τ[i]?=some (some v)->σ[j]?=some (some v))->Mt (Q.back R B E) σ (Q.back R M L)
 | [],B,τ,M,E,L,m,_,_=>by simpa [Q.back]using m
 | j::R,_,_,_,E,L,m,.nil,_=>by simpa [Q.back]using m
 | j::R,_,_,_,E,L,m,.un mB,h=>by
  have un:∀{E:En} {σ:L2.St} {L:Ls} (j:Nat),Mt E σ L->Mt (E.set j none) σ (L.set j none):=by
   intro E σ L j m
   induction m generalizing j with
   |nil=>exact .nil
   |un m ih=>cases j with
    |zero=>exact .un m
    |succ j=>exact .un (ih j)
   |cons m ih=>cases j with
    |zero=>exact .un m
    |succ j=>exact .cons (ih j)
  show Mt (Q.back R _ (E.set j none)) σ (Q.back R _ (L.set j none));exact Mt.back (un j m) mB λi jj v e1 e2=>h (i+1) jj v (by simpa using e1) (by simpa using e2)
 |j::R,_,_,_,E,L,m,.cons (x:=x) mB,h=>by
  have h0:=h 0 j x.v (by simp) (by simp);have m1:=m.set (x:=x) j;rw[Jq h0]at m1;show Mt (Q.back R _ (E.set j _)) σ (Q.back R _ (L.set j _));exact Mt.back m1 mB λi jj v e1 e2=>h (i+1) jj v (by simpa using e1) (by simpa using e2)
section
variable {av fu:Expr}{fk:List Expr}{scope:Scope}{N:List Str}{k:Nat}{R:List Nat}{it:Ev (List D)}{tt:Tg}{u:Ts}{o:Own}{q1 q2:Bool}
theorem vw6:JJ k R σ=List.replicate k none++R.map (at' σ):=rfl
theorem wvp{K:PySem.W.Frag}{M:Ls}(hR:R.Nodup)(w:World K H (L++M)):World K H ((List.replicate k none++R.map (at' L))++(Q.clr R L++M))/\Step H (L++M) H ((List.replicate k none++R.map (at' L))++(Q.clr R L++M)):=by
 have p:(sls (L++M)).Perm (sls ((List.replicate k none++R.map (at' L))++(Q.clr R L++M))):=by
  have:=qkp (R:=R) (L:=L) hR;rw[QQ]at this;simp only[QQ,vqv,List.nil_append];rw[<-Xk];exact(this.append_right _).symm
 exact⟨w.same p,Step.refl.same (List.Perm.refl _) p⟩
theorem wjk{K:PySem.W.Frag}{B:Ls}{M:Ls}{H2:Hp}(hR:R.Nodup)(hr:∀j∈R,j<L.length)(hB:B.length=k+R.length)(w:World K H2 (B++(Q.clr R L++M))):World K H2 (Q.back R (B.drop k) (Q.clr R L)++M)/\Step H2 (B++(Q.clr R L++M)) H2 (Q.back R (B.drop k) (Q.clr R L)++M):=by
 have p:=kzd (R:=R) (B:=B.drop k) (L:=Q.clr R L) hR (λj hj=>qxs hj) (λj hj=>by rw[qxr];exact hr j hj) (by rw[Z4,hB];omega);have p2:(sls (Q.back R (B.drop k) (Q.clr R L)++M)).Perm (sls (B.drop k++(Q.clr R L++M))):=by
  rw[QQ,<-Xk,QQ (B.drop k++Q.clr R L)];exact p.append_right _
 have sub:(sls (B.drop k++(Q.clr R L++M))).Sublist (sls (B++(Q.clr R L++M))):=by
  rw[QQ,QQ B];refine List.Sublist.append ?_ (List.Sublist.refl _);unfold sls;exact(List.drop_sublist k B).filterMap _
 exact⟨(w.sub sub).same p2.symm,(Step.refl.sub sub).same (List.Perm.refl _) p2.symm⟩
theorem kk2:∀{is:List Nat} {es:List D} {E E':En},setAll is es E=some E'->E'.length=E.length
 |[],[],_,_,h=>by cases oq9 h;rfl
 |[],_::_,_,_,h=>by cases h
 |_::_,[],_,_,h=>by cases h
 |i::is,d::es,E,E',h=>by rw[kk2 (E:=E.set i (some (.no,d))) h,Ys]
theorem vvb{t:Tg}{d:D}{E E':En}(h:t.put d E=some E'):E'.length=E.length:=by
 cases t with
 |n i=>cases oq9 h;rw[Ys]
 |t is=>
  cases d with
  |tup es=>exact kk2 (show setAll is es E=some E' from h)
  |lst es=>exact kk2 (show setAll is es E=some E' from h)
  |_=>cases h
theorem qwy{nN:Nat}{Q:VK}(hσ:σ.length=nN)(hR:R.Nodup)(hr:∀j∈R,j<nN)(h:tQ Z q (cLC o k R it tt u c) σ H Q):tLC (tIS Z q it) (tG Z ((List.range R.length).map (k + ·)) tt) (tT Z q u) (tQ Z q c) k R σ H Q:=by
 obtain⟨E,L,r,m,w,ba,xc,kk⟩:=h;have ba:bnd (it E) (λE ds=>match lcL tt u c ds (Vz k R E) []with
  | some (.ok B xs)=>mkL o (Q0 k R B E) xs
  | some (.exc B e)=>some (.exc (Q0 k R B E) e)
  | none=>none)=some r:=ba
 rcases ww ba with⟨E1,ds,h1,h2⟩|⟨E1,cc,h1,h2⟩
 rotate_left
 ·exact⟨E,L,_,m,w,h1,xc.map h2,λE' s' z=>by cases z⟩
 refine⟨E,L,_,m,w,h1,(λ_ _ z=>by cases z),λE' ds' z J T L1 H1 m1 w1 st hz sm wk=>?_⟩;injection z with z1 z2;subst z1 z2;have hL1:∀j∈R,j<L1.length:=λj hj=>by have:=m1.len;have:=hr j hj;omega
 obtain⟨wB,sB⟩:=wvp (k:=k) hR w1;cases hrB:lcL tt u c ds (Vz k R E1) []with
 | none=>rw[hrB]at h2;cases h2
 | some rB=>
  rw [hrB]at h2;have jy:∀{H2:Hp} {A B:Ls},World Z.K H2 (A++(B++(_root_.Q.clr R L1++T.map some)))->∀t∈T,t.ok Z.K H2:=λw2 t ht=>w2.ok t (lr9 _ (lr9 _ (lr9 _ (Xl ht))))
  have mB0:Mt (Vz k R E1) (JJ k R σ) (List.replicate k none++R.map (at' L1)):=(m1.pick (R:=R)).rep;have qf:∀{B:En} {LB:Ls} {τ:L2.St} {H2:Hp} {A:Ls},Mt B τ LB->τ.length=k+R.length->Pn ((List.range R.length).map (k + ·)) (JJ k R σ) τ->World Z.K H2 (LB++(A++(_root_.Q.clr R L1++T.map some))) ->
    Mt (Q0 k R B E1) σ (_root_.Q.back R (LB.drop k) (_root_.Q.clr R L1))/\World Z.K H2 (A++_root_.Q.back R (LB.drop k) (_root_.Q.clr R L1))/\Step H2 (LB++(A++(_root_.Q.clr R L1++T.map some))) H2 (A++_root_.Q.back R (LB.drop k) (_root_.Q.clr R L1)):=fun {B LB τ H2 A} mB lB pB wB2=>by
   have hl:LB.length=k+R.length:=by rw[mB.len.2];exact lB
   have pm:(LB++(A++(_root_.Q.clr R L1++T.map some))).Perm (LB++(_root_.Q.clr R L1++(A++T.map some))):=by
    refine List.Perm.append_left _ ?_;rw [<-Xk,<-Xk];exact List.Perm.append_right _ List.perm_append_comm
   obtain⟨w3,s3⟩:=wjk (k:=k) hR hL1 hl (wB2.perm pm);have pm2:(_root_.Q.back R (LB.drop k) (_root_.Q.clr R L1)++(A++T.map some)).Perm ((A++_root_.Q.back R (LB.drop k) (_root_.Q.clr R L1))++T.map some):=by
    rw [<-Xk];exact List.Perm.append_right _ List.perm_append_comm
   refine⟨?_,(w3.perm pm2).left,(s3.perm pm.symm pm2).trans Step.dropT⟩;refine Mt.back (m1.clr) (mB.drop k) λi j v e1 e2=>?_
   have hi:i<R.length:=(List.getElem?_eq_some_iff.mp e1).1;have e3:=pB (k+i) (List.mem_map.mpr ⟨i,List.mem_range.mpr hi,rfl⟩);rw [List.getElem?_drop,e3,vw6,List.getElem?_append_right (by simp),Yf,show k+i - k=i from by omega,Xp,e1]at e2;have e4:at' σ j=some v:=by simpa using e2
   unfold at' at e4;cases hh:σ[j]? with
   | none=>rw[hh]at e4;cases e4
   | some s=>rw[hh]at e4;rw[show s=some v from e4]
  refine⟨λi n ys τ H2=>∃(B:En) (LB:Ls) (ah:List Sl),Mt B τ LB/\τ.length=k+R.length/\Pn ((List.range R.length).map (k + ·)) (JJ k R σ) τ/\World Z.K H2 (LB++(ah.map some++(_root_.Q.clr R L1++T.map some)))/\Step H L H2 (LB++(ah.map some++(_root_.Q.clr R L1++T.map some))) /\
   ys=ah.map Sl.v/\lcL tt u c (ds.drop i) B (ah.map Sl.sd)=some rB/\i<=ds.length/\ah.length<=i/\n=ds.length - i/\(q=true->k9 H H2/\∀b∈j8 (ah.map some),H b=none),⟨_,Vz k R E1,_,[],mB0,by simp[JJ],Pn.refl,wB,st.trans sB,rfl,hrB,Z1 _,Z1 _,rfl,λhq=>⟨sm hq,λ_ z=>(nomatch z)⟩⟩,?_⟩
  rintro i n ys τ H2 ⟨B,LB,ah,mB,lB,pB,wB2,sB2,rfl,f1,hi,mq,rfl,smB⟩
  by_cases em:i<ds.length
  rotate_left
  ·have e:i=ds.length:=by omega
   subst e;rw [List.drop_length]at f1;cases oq9 f1;obtain⟨m3,w3,s3⟩:=qf mB lB pB wB2;refine .inl ⟨wk.stop H2 (jy wB2) (λhq=>(smB hq).1),by rw[X4];omega,?_⟩;exact qk8 (σ:=σ) (Q:=Q) (o:=o) (xs:=ah) h2 rfl w3 (sB2.trans s3) smB kk m3
  ·have hd:ds.drop i=ds[i]::ds.drop (i+1):=List.drop_eq_getElem_cons em;rw [hd]at f1;unfold lcL at f1;cases bf:tt.put ds[i] B with
   | none=>rw[bf]at f1;cases f1
   | some B2=>
    rw [bf]at f1;dsimp only at f1;refine .inr ⟨wk.go i H2 (jy wB2) (λhq=>(smB hq).1) em,λv H3 hy=>?_⟩;obtain⟨z,zo,zd,zv,smz,rn,zas⟩:=wk.yld i H2 v H3 ds[i] (jy wB2) (λhq=>(smB hq).1) hy (X2 em);have pm:(LB++(ah.map some++(_root_.Q.clr R L1++T.map some))).Perm ((LB++(ah.map some++_root_.Q.clr R L1))++T.map some):=by
     rw[<-Xk (ah.map some),<-Xk]
    obtain⟨wz,sz⟩:=kv9 (wB2.perm pm) wk.no smz rn zo zas;have wz':World Z.K H3 ((some z::LB)++(ah.map some++(_root_.Q.clr R L1++T.map some))):=wz.perm (by
     rw[List.cons_append,List.cons_append];exact List.Perm.cons _ pm.symm)
    have sz':Step H2 (LB++(ah.map some++(_root_.Q.clr R L1++T.map some))) H3 ((some z::LB)++(ah.map some++(_root_.Q.clr R L1++T.map some))):=sz.perm pm.symm (by
     rw[List.cons_append,List.cons_append];exact List.Perm.cons _ pm.symm)
    refine⟨B,LB,z,B2,mB,wz'.left,zo,zv,by rw[zd];exact bf,fun τ2 LB2 p2 mB2 wB3 sB3=>?_⟩;obtain⟨w4,s4⟩:=stay wz' sB3 wB3;have lB2:τ2.length=k+R.length:=by
     have h1:=mB2.len.1;have h2:=mB.len.1;have h3:=vvb bf;omega
    have p3:=pB.trans p2;have rz:Step H L H3 (LB2++(ah.map some++(_root_.Q.clr R L1++T.map some))):=sB2.trans (sz'.trans s4);have ig:q=true->k9 H H3/\∀b∈j8 (ah.map some),H b=none:=λhq=>⟨q9 (smB hq).1 smz,(smB hq).2⟩
    refine⟨λy H5=>∃(B:En) (LB:Ls) (i5:List Sl),Mt B τ2 LB/\World Z.K H5 (LB++(i5.map some++(_root_.Q.clr R L1++T.map some)))/\Step H L H5 (LB++(i5.map some++(_root_.Q.clr R L1++T.map some)))/\ah.map Sl.v++[y]=i5.map Sl.v/\i5.length=ah.length+1/\lcL tt u c (ds.drop (i+1)) B (i5.map Sl.sd)=some rB/\(q=true->k9 H H5/\∀b∈j8 (i5.map some),H b=none),
     λH5=>∃B LB,Mt B τ2 LB/\World Z.K H5 (LB++(ah.map some++(_root_.Q.clr R L1++T.map some)))/\Step H L H5 (LB++(ah.map some++(_root_.Q.clr R L1++T.map some)))/\lcL tt u c (ds.drop (i+1)) B (ah.map Sl.sd)=some rB/\(q=true->k9 H H5/\∀b∈j8 (ah.map some),H b=none),
     λy H5 ⟨B5,LB5,acc5,c1,c2,c3,c4,c5,c6,c7⟩=>⟨by rw[X4];omega,ds.length - (i+1),by omega,B5,LB5,acc5,c1,lB2,p3,c2,c3,c4,c6,em,by omega,rfl,c7⟩,
     λH5 ⟨B5,LB5,c1,c2,c3,c6,c7⟩=>⟨ds.length - (i+1),by omega,B5,LB5,ah,c1,lB2,p3,c2,c3,rfl,c6,em,by omega,rfl,c7⟩,?_⟩
    have xcB:∀{α:Type} {H6:Hp} {L6:Ls} {B6:En} {cc:Str} {A:Ls},rB=.exc B6 cc->World Z.K H6 (L6++(A++(_root_.Q.clr R L1++T.map some)))->Step H L H6 (L6++(A++(_root_.Q.clr R L1++T.map some)))->Xc Z τ2 H6 L6 (.exc B6 cc:Res α):=fun {α H6 L6 B6 cc A} er w6 s6 E7 c7 e7 C L7 H7 hm m7 w7 s7=>by
     injection e7 with e8 e9;subst e8 e9;subst er;cases oq9 h2;obtain⟨w8,s8⟩:=stay w6 s7 w7;obtain⟨m9,w9,s9⟩:=qf m7 lB2 p3 w8;exact xc _ _ rfl C _ H7 hm m9 w9.right ((s6.trans (s8.trans s9)).trans ⟨λ_ _ h _=>h,λa ha=>.inl (by rw[jZ];exact lr9 _ ha),λa ha=>.inl (by rw[qw];exact lr9 _ ha)⟩)
    rcases ww f1 with⟨B4,kb,g1,g2⟩|⟨B4,cc,g1,g2⟩
    rotate_left
    ·exact⟨B2,LB2,_,mB2,wB3,g1,xcB g2 w4 rz,λE' s' z=>by cases z⟩
    refine⟨B2,LB2,_,mB2,wB3,g1,(λ_ _ z=>by cases z),λE' s' z LB4 H4 mB4 wB4 sB4 oh=>?_⟩;injection z with z1 z2;subst z1 z2;obtain⟨w5,s5⟩:=stay w4 sB4 wB4;have lm:=rz.trans s5;cases kb with
    | false=>
     rw[Xm (by decide)]at g2 ⊢;exact⟨B4,LB4,mB4,w5,lm,g2,λhq=>⟨q9 (ig hq).1 (oh hq),(ig hq).2⟩⟩
    | true=>
     rw[Xf rfl]at g2 ⊢;rcases ww g2 with⟨B6,y,g3,g4⟩|⟨B6,cc,g3,g4⟩
     rotate_left
     ·exact⟨B4,LB4,_,mB4,wB4,g3,xcB g4 w5 lm,λE' s' z=>by cases z⟩
     refine⟨B4,LB4,_,mB4,wB4,g3,(λ_ _ z=>by cases z),λE' s' z x LB6 H6 ex ey mB6 wB6 sB6 sm6=>?_⟩;injection z with z1 z2;subst z1 z2;obtain⟨w7,s7⟩:=stay w5 sB6 wB6;have pm3:((some x::LB6)++(ah.map some++(_root_.Q.clr R L1++T.map some))).Perm (LB6++((ah++[x]).map some++(_root_.Q.clr R L1++T.map some))):=by
      rw[Y0,List.cons_append];have:(LB6++(ah.map some++[x].map some++(_root_.Q.clr R L1++T.map some)))=(LB6++ah.map some)++some x::(_root_.Q.clr R L1++T.map some):=by simp
      rw[this];refine List.Perm.trans ?_ List.perm_middle.symm;rw[Xk]
     refine⟨B6,LB6,ah++[x],mB6,w7.perm pm3,(lm.trans s7).perm (List.Perm.refl _) pm3,by simp,by simp,?_,λhq=>⟨q9 (ig hq).1 (q9 (oh hq) (sm6 hq).1),λb hb=>?_⟩⟩
     ·rw[Y0,show[x].map Sl.sd=[y]from by simp[Sl.sd,ex,ey]];exact g4
     ·rw[Y0,jZ]at hb;rcases List.mem_append.mp hb with hb|hb
      ·exact(ig hq).2 b hb
      ·have hb:b∈x.own:=by simpa using hb
       exact J5 (q9 (ig hq).1 (oh hq)) ((sm6 hq).2 b hb)
theorem wwz(N:List Str)(hi:QI X Z q tg it av)
  (hg:∀cl C s0 H0 fp,QG (lcE X scope N cl C s0 H0 fp Z.EX) Z ((List.range R.length).map (k + ·)) tt tg) (ht:∀cl C s0 H0 fp,PTs (lcE X scope N cl C s0 H0 fp Z.EX) fk (tT Z q u)) (he:∀cl C s0 H0 fp,QE (lcE X scope N cl C s0 H0 fp Z.EX) Z q c fu)
  (gx:zj X Z.EX) (top:Jw X) (hR:R.Nodup) (hr:∀j∈R,j<X.N.length) (hc:autoParam (X.calm=true) Ŕ) (hk:autoParam (scope.kind=.function) Ŕ) (j':autoParam (V3 X.N X.env.scope scope N k R=true) Ŕ) (hs:autoParam (∀x,foldedSetIterable av X.env x=pure x) Ŗ):
  QE X Z q (cLC o k R it tt u c) (.ListComp fu [⟨tg,av,fk,0⟩] scope pos):=λpins s σ H Q I hw=>
 vzx (EX:=Z.EX) N k R (wwy hi) hg ht he gx top hc hk j' hs pins s σ H Q I (qwy I.len hR hr hw)
theorem qw8{EX:XK}{wi:TI}{g:TG}{tte:TT}{te:TE}{i:Nat}{y:Str}{py df:Pos}(N:List Str)(k:Nat)(R:List Nat)(hN:X.N.Nodup)(hy:X.N[i]?=some y)(hx:Loc X.env.scope y)(hi:PI X tg av wi)
  (hg:∀cl C s0 H0 fp,PG (lcE X scope N cl C s0 H0 fp EX) tg g) (ht:∀cl C s0 H0 fp,PTs (lcE X scope N cl C s0 H0 fp EX) fk tte) (he:∀cl C s0 H0 fp,PE (lcE X scope N cl C s0 H0 fp EX) fu te) (gx:zj X EX) (top:Jw X)
  (iy:autoParam (swapsWith (.ListComp fu [⟨tg,av,fk,0⟩] scope pos) (some (.Name y py)) df.line X.env=pure true) Ŕ)
  (hc:autoParam (X.calm=true) Ŕ) (hk:autoParam (scope.kind=.function) Ŕ) (j':autoParam (V3 X.N X.env.scope scope N k R=true) Ŕ) (hs:autoParam (∀x,foldedSetIterable av X.env x=pure x) Ŗ)
  (hf:autoParam (X.fn y=true\/X.env.scope.names.lookup y=some .local) ś):
  PS X (.Assign [.Name y py] (.ListComp fu [⟨tg,av,fk,0⟩] scope pos) df) (λD σ H=>tLC wi g tte te k R σ H λv H1=>D.nx (σ.set i (some v)) H1):=by
 intro pins s σ H D I h;have sc:=qkc hk j';obtain⟨cl,ka,i8,bj⟩:=kvb (scope:=scope) (env:=X.env) λy hy e=>I.ok.has y.1 (sc.caps y hy e)
 rw[exec_Assign_Name_used _ _ _ _ iy];refine X0 (wpAny_standAt (X0 ?_));show wpAny _ X.A (do let _ <-comprehension (.ListComp fu [⟨tg,av,fk,0⟩] scope pos) scope X.env _ (newList []) false (eval av X.env) (some (assign (.Name y py) X.env))) _ _ s;refine X0 (thn (wpAny_comprehension_free (use:=some (assign (.Name y py) X.env)) (Q:=λ_ s'=>SP X pins D .next s') rfl hs ka sc.kind sc.names
  (thn (hi pins s σ H _ I h) λv s1 h1=>thn h1 λitv s2 h2=>?_)) λ_ s' hq=>X5 (X5 hq))
 obtain⟨it,fp,tn,J,H2,e,I2,T,be,f2,W,w0,i6⟩:=h2;subst e;refine kxv (EX:=EX) (RR:=λah C=>compPost (model X.prog X.w) X.A X.xe (some (assign (.Name y py) X.env)) (λ_ s'=>SP X pins D .next s') ah C) hc top sc i8 bj (hg cl) (ht cl) (he cl) I2 T be f2 w0 i6 ?_ ?_
 rotate_left
 ·intro D' C s' ck σ' H' x T Cc fl hC t q;exact vkw gx I2 f2 hC t q
 intro L C oC m ys H' s' I' eC nC fC q;show wpAny _ X.A (assign (.Name y py) X.env (.ref L)) _ _ s';refine wpAny_assign_Name (kvi I' hN hy hx (v:=.ref L) rfl (λm8 I''=>?_) hf);have pC:=I''.pin (C,oC) (lr9 _ (lr9 _ (List.mem_singleton.mpr rfl)));refine⟨m,nC.at' λo e=>?_,λh' sb=>⟨_,_,I''.unpinned.turned (it:=C) (t':=m8.toks) (λb o hb e=>(sb.2 b hb).trans e) fC.1 fC.2.1 fC.2.2.2.1 fC.2.2.2.2.1 fC.2.2.2.2.2,q⟩⟩;rw[eC]at e;cases e;exact pC.1
theorem vv5{i:Nat}{y:Str}{py df:Pos}(N:List Str)(hN:X.N.Nodup)(hy:X.N[i]?=some y)(hx:Loc X.env.scope y)(hi:QI X Z q tg it av)
  (hg:∀cl C s0 H0 fp,QG (lcE X scope N cl C s0 H0 fp Z.EX) Z ((List.range R.length).map (k + ·)) tt tg) (ht:∀cl C s0 H0 fp,PTs (lcE X scope N cl C s0 H0 fp Z.EX) fk (tT Z q u)) (he:∀cl C s0 H0 fp,QE (lcE X scope N cl C s0 H0 fp Z.EX) Z q c fu)
  (gx:zj X Z.EX) (top:Jw X) (hR:R.Nodup) (hr:∀j∈R,j<X.N.length) (hp:autoParam (i∉pn) ŕ)
  (iy:autoParam (swapsWith (.ListComp fu [⟨tg,av,fk,0⟩] scope pos) (some (.Name y py)) df.line X.env=pure true) Ŕ)
  (hc:autoParam (X.calm=true) Ŕ) (hk:autoParam (scope.kind=.function) Ŕ) (j':autoParam (V3 X.N X.env.scope scope N k R=true) Ŕ) (hs:autoParam (∀x,foldedSetIterable av X.env x=pure x) Ŗ)
  (hf:autoParam (X.fn y=true\/X.env.scope.names.lookup y=some .local) ś):
  QS X Z pn (jK i (cLC o k R it tt u c)) (.Assign [.Name y py] (.ListComp fu [⟨tg,av,fk,0⟩] scope pos) df):=
 vzg (q:=q) hp λpins s σ H D I hw=>qw8 N k R hN hy hx (wwy hi) hg ht he gx top iy hc hk j' hs hf pins s σ H D I (qwy I.len hR hr hw)
end
end
section
variable {X:Cx}{Z:Fx0}{K:PySem.W.Frag}{pn:List Nat}{q qa qb:Bool}{a b c:Ex}{u:Ts}{tg e ea eb:Expr}{σ:L2.St}{H:Hp}{L:Ls}{E:En}{pos p:Pos}{x:Str}{id T:String}{r:List V->Hp->VK->Prop}{f:Sd->Option Sd}{g:Sd->Sd->Option Sd}
theorem vv4:PTs X [] (tT Z q _root_.Q.tYes):=λpins s σ H Q I au=>ex8 au λE L r m w hc xc k=>by
 cases oq9 hc;exact vvc pins s σ H Q I (k _ _ rfl L H m w Step.refl λ_=>xj)
theorem JV(hc:CallR X (.builtin id) r)(ad:Ad1 Z.K (λv H Q=>r [v] H Q) f)(ha:QV X Z q a ea)(hm:X.mg x=none)(hv:bootBuiltins x=some (.builtin id))(hg:autoParam (Gl X x) Ŕ)(hn:autoParam (x≠"__name__") ŕ)(i7:autoParam ((x==("__debug__":Str))=false) ŕ)
  (he:autoParam (starEach [ea] X.env=(false,eval ea X.env)::starEach [] X.env) Ŕ) (bt:autoParam ((backTo pos (starEach [] X.env)).any (·.1)=false) Ŕ):QE X Z q (cF1 f a) (.Call (.Name x p) [ea] [] pos):=
 kZ (qk2 hc hg hm hv (vZ ha wW he) hn i7 he bt) fun σ H Q h=>Qz (r:=λv H Q=>r [v] H Q) ad h
theorem zk(hc:CallR X (.type T) r)(ad:Ad1 Z.K (λv H Q=>r [v] H Q) f)(ha:QV X Z q a ea)(hm:X.mg x=none)(hv:bootBuiltins x=some (.type T))(hg:autoParam (Gl X x) Ŕ)(hn:autoParam (x≠"__name__") ŕ)(i7:autoParam ((x==("__debug__":Str))=false) ŕ)
  (he:autoParam (starEach [ea] X.env=(false,eval ea X.env)::starEach [] X.env) Ŕ) (bt:autoParam ((backTo pos (starEach [] X.env)).any (·.1)=false) Ŕ):QE X Z q (cF1 f a) (.Call (.Name x p) [ea] [] pos):=
 kZ (qwd hc hg hm hv (vZ ha wW he) hn i7 he bt) fun σ H Q h=>Qz (r:=λv H Q=>r [v] H Q) ad h
theorem wky:Ad1 K (λv H Q=>qvw K [v] H Q) (pu1 kX):=by
 intro H x s Q ok hf k;unfold pu1 at hf;have fin:∀n:Nat,kX x.d=some (.int n)->Q (.int n) H:=λn e=>by
  rw[show(x.o,x.d).2=x.d from rfl,e]at hf;cases oq9 hf;exact k ⟨.dp,.int n,.int n,[]⟩ H rfl rfl Q9
 cases hx:x.d with
 |lst ds=>
  obtain⟨l,xs,bs,e,q,r,_⟩:=items ok (.inl hx);refine .inl ⟨l,xs,by rw[e],?_,by rw[<-r.len];exact fin ds.length (by rw[hx];rfl)⟩;rcases q with⟨_,z⟩|⟨_,z⟩
  ·exact .inl (zW z)
  ·exact .inr z
 |tup ds=>
  obtain⟨l,xs,bs,e,q,r,_⟩:=items ok (.inr hx);refine .inl ⟨l,xs,by rw[e],?_,by rw[<-r.len];exact fin ds.length (by rw[hx];rfl)⟩;rcases q with⟨_,z⟩|⟨_,z⟩
  ·exact .inl (zW z)
  ·exact .inr z
 |str z=>
  obtain⟨e,hz⟩:=wY ok hx;exact .inr (.inl ⟨z,by rw[e],hz,fin z.length (by rw[hx];rfl)⟩)
 |_=>rw[show(x.o,x.d).2=x.d from rfl,hx]at hf;cases hf
noncomputable def vv2(K:PySem.W.Frag):List V->Hp->VK->Prop:=λxs H Q=>www K xs H Q\/(∃p ys U,xs=[.ref p,.ty U]/\SqT K H p ys/\U∈kinds.tail/\Q (.bl (ZY "tuple" U)) H)\/∃p ys U,xs=[.ref p,.ty U]/\SqL K H p ys/\U∈kinds.tail/\Q (.bl (ZY "list" U)) H
theorem qxv(hK:autoParam (X.K=K) Ŕ):CallR X (.builtin "isinstance") (vv2 K):=by
 subst hK;intro pins s σ H xs us Q I r h;rcases h with h|⟨p,ys,U,rfl,hq,hU,q⟩|⟨p,ys,U,rfl,hq,hU,q⟩
 ·exact vk1 pins s σ H xs us Q I r h
 ·obtain⟨u,w',rfl,r1,r2⟩:=qv3 r;cases(show w'=Value.type U from r2);cases r1;obtain⟨aa,_,⟨o,h1,h2,_⟩,_⟩:=I.tuple hq;exact Y7 PySem.W.kitx_tuple I.kIn ⟨o,h1,h2⟩ (qj4 (T:="tuple") (by decide) hU) (λz=>nomatch z) λtk=>⟨.bl _,H,I.tok _,rfl,q⟩
 ·obtain⟨u,w',rfl,r1,r2⟩:=qv3 r;cases(show w'=Value.type U from r2);cases r1;obtain⟨aa,_,⟨o,n,h1,h2,_⟩,_⟩:=I.list hq;exact Y7 PySem.W.kitx_list I.kIn ⟨o,h1,h2⟩ (qj4 (T:="list") (by decide) hU) (λz=>nomatch z) λtk=>⟨.bl _,H,I.tok _,rfl,q⟩
theorem wkz{U:String}(hU:U∈kinds.tail):Ad1 K (λv H Q=>vv2 K [v,.ty U] H Q) (pu1 (k5 U)):=by
 intro H x s Q ok hf k;unfold pu1 k5 at hf;have fin:∀(T:String),kind x.d=T->(∀c f,x.d≠.obj c f)->Q (.bl (ZY T U)) H:=λT e ho=>by
  cases hx:x.d with
  |obj c f=>exact absurd hx (ho c f)
  |dct ao=>rw[show(x.o,x.d).2=x.d from rfl,hx]at hf;cases hf
  |_=>
   rw[show(x.o,x.d).2=x.d from rfl,hx]at hf;cases oq9 hf;rw[<-e,hx];exact k ⟨.dp,.bl _,.bl _,[]⟩ H rfl rfl xJ
 cases hx:x.d with
 |non=>exact .inl ⟨x.v,"NoneType",U,rfl,by rw[vkr ok hx];exact .non,by decide,hU,fin _ (by rw[hx];rfl) (by rw[hx];exact λ_ _ z=>nomatch z)⟩
 |bl k=>exact .inl ⟨x.v,"bool",U,rfl,by rw[KY ok hx];exact .bl _,by decide,hU,fin _ (by rw[hx];rfl) (by rw[hx];exact λ_ _ z=>nomatch z)⟩
 |int k=>exact .inl ⟨x.v,"int",U,rfl,by rw[vq ok hx];exact .int _,by decide,hU,fin _ (by rw[hx];rfl) (by rw[hx];exact λ_ _ z=>nomatch z)⟩
 |str k=>exact .inl ⟨x.v,"str",U,rfl,by rw[(wY ok hx).1];exact .str _,by decide,hU,fin _ (by rw[hx];rfl) (by rw[hx];exact λ_ _ z=>nomatch z)⟩
 |lst ds=>
  obtain⟨l,xs,bs,e,q,r,_⟩:=items ok (.inl hx);have f:=fin "list" (by rw[hx];rfl) (by rw[hx];exact λ_ _ z=>nomatch z);rcases q with⟨_,z⟩|⟨z,_⟩
  ·exact .inr (.inr ⟨l,xs,U,by rw[e],z.sq,hU,f⟩)
  ·rw[hx]at z;cases z
 |tup ds=>
  obtain⟨l,xs,bs,e,q,r,_⟩:=items ok (.inr hx);have f:=fin "tuple" (by rw[hx];rfl) (by rw[hx];exact λ_ _ z=>nomatch z);rcases q with⟨z,_⟩|⟨_,z⟩
  ·rw[hx]at z;cases z
  ·exact .inr (.inl ⟨l,xs,U,by rw[e],z,hU,f⟩)
 |dct ao=>
  rw[show(x.o,x.d).2=x.d from rfl,hx]at hf;cases hf
 |obj c f=>
  rw[show(x.o,x.d).2=x.d from rfl,hx]at hf;cases hf
theorem vw{U:String}{y:Str}{p2:Pos}(ha:QV X Z q a ea)(hm:X.mg "isinstance"=none)(hmy:X.mg y=none)(hy:bootBuiltins y=some (.type U))(hK:X.K=Z.K)(hU:autoParam (U∈kinds.tail) ŕ)(hg:autoParam (Gl X "isinstance") Ŕ)(hgy:autoParam (Gl X y) Ŕ)(hny:autoParam (y≠"__name__") ŕ)(hdy:autoParam ((y==("__debug__":Str))=false) ŕ)
  (he:autoParam (starEach [ea,.Name y p2] X.env=(false,eval ea X.env)::starEach [.Name y p2] X.env) Ŕ) (jl:autoParam (starEach [.Name y p2] X.env=(false,eval (.Name y p2) X.env)::starEach [] X.env) Ŕ) (bt:autoParam ((backTo pos (starEach [.Name y p2] X.env)).any (·.1)=false) Ŕ):
  QE X Z q (cF1 (pu1 (k5 U)) a) (.Call (.Name "isinstance" p) [ea,.Name y p2] [] pos):=
 kZ (qk2 (qxv hK) hg hm kwe (vZ ha (vZ (vvn (v:=.ty U) hgy hmy hy rfl hny hdy) wW jl) he) (by decide) (by decide) he bt) fun σ H Q h=>Qz (r:=λv H Q=>vv2 Z.K [v,.ty U] H Q) (wkz hU) h
theorem vqe:Ad1 K (λv H Q=>qvx [v] H Q) (pu1 Q8):=by
 intro H x s Q ok hf k;unfold pu1 Q8 at hf;dsimp only at hf
 split at hf
 ·rename_i i e;cases oq9 hf;exact .inl ⟨i,by rw[vq ok e],k ⟨.dp,.int _,.int _,[]⟩ H rfl rfl Q9⟩
 ·rename_i i e;cases oq9 hf;exact .inr (.inl ⟨i,by rw[KY ok e],k ⟨.dp,.int _,.int _,[]⟩ H rfl rfl Q9⟩)
 ·rename_i z e
  split at hf
  ·rename_i hz;cases ht:PySem.intText? z with
   |none=>rw[ht]at hf;cases hf
   |some n=>
    rw[ht]at hf;cases oq9 hf;exact .inr (.inr ⟨z,n,by rw[(wY ok e).1],ht,hz,k ⟨.dp,.int _,.int _,[]⟩ H rfl rfl Q9⟩)
  ·cases hf
 ·cases hf
theorem qz8:Ad1 K (λv H Q=>qvv K [v] H Q) V6:=by
 intro H x s Q ok hf k;unfold V6 at hf;dsimp only at hf
 split at hf
 ·rename_i ds e
  split at hf
  ·rename_i hl;cases oq9 hf;obtain⟨l,xs,bs,ev,q3,r3,h3⟩:=J0 ok (.inl e) hl;have q3:LsR K H l xs:=by rcases q3 with⟨_,z⟩|⟨z,_⟩;exact z;rw[e]at z;cases z
   exact⟨l,xs,by rw[ev],.inl (zW q3),λp hp=>k ⟨.rt,.lst ds,.ref p,p::bs⟩ _ rfl rfl (JX hp r3 h3)⟩
  ·cases hf
 ·rename_i ds e
  split at hf
  ·rename_i hl;cases oq9 hf;obtain⟨l,xs,bs,ev,q3,r3,h3⟩:=J0 ok (.inr e) hl;have q3:SqT K H l xs:=by rcases q3 with⟨z,_⟩|⟨_,z⟩;rw[e]at z;cases z;exact z
   exact⟨l,xs,by rw[ev],.inr q3,λp hp=>k ⟨.rt,.lst ds,.ref p,p::bs⟩ _ rfl rfl (JX hp r3 h3)⟩
  ·cases hf
 ·cases hf
noncomputable def qjw(K:PySem.W.Frag):List V->Hp->VK->Prop:=λxs H Q=>∃p ys,xs=[.ref p]/\((SqL K H p ys/\∀l,H l=none->Q (.ref l) (upd H l (.tup ys)))\/(SqT K H p ys/\Q (.ref p) H))
theorem qxx(hK:X.K=K):CallR X (.type "tuple") (qjw K):=by subst hK;exact kwd
theorem vk5:Ad1 K (λv H Q=>qjw K [v] H Q) Wk:=by
 intro H x s Q ok hf k;unfold Wk at hf;dsimp only at hf
 split at hf
 ·rename_i ds e
  split at hf
  ·rename_i hl;cases oq9 hf;obtain⟨l,xs,bs,ev,q3,r3,h3⟩:=J0 ok (.inl e) hl;have q3:LsR K H l xs:=by rcases q3 with⟨_,z⟩|⟨z,_⟩;exact z;rw[e]at z;cases z
   exact⟨l,xs,by rw[ev],.inl ⟨zW q3,λp hp=>k ⟨.no,.tup ds,.ref p,bs⟩ _ rfl rfl (kkc hp r3 h3)⟩⟩
  ·cases hf
 ·rename_i ds e
  split at hf
  ·rename_i hl;cases oq9 hf;obtain⟨l,xs,bs,ev,q3,r3,h3⟩:=J0 ok (.inr e) hl;have q3:SqT K H l xs:=by rcases q3 with⟨z,_⟩|⟨_,z⟩;rw[e]at z;cases z;exact z
   refine⟨l,xs,by rw[ev],.inr ⟨q3,k ⟨.no,.tup ds,.ref l,bs⟩ H rfl rfl ⟨xj,?_,λb hb=>(nomatch hb),Y9,λb hb=>h3 b hb⟩⟩⟩;show RepL K H true (.tup ds) (.ref l) bs;unfold RepL;exact⟨l,xs,rfl,q3,r3⟩
  ·cases hf
 ·cases hf
theorem qz0{g:Bool}:∀{ds:List D} {bs:List Bool} {xs:List V} {as:List Addr},bls ds=some bs->RepA K H g ds xs as->xs=bs.map V.bl
 | [],bs,xs,as,h,r=>by
  cases oq9 h;unfold RepA at r;exact r.1
 | d::ds,bs,xs,as,h,r=>by
  cases d with
  | bl b=>
   unfold bls at h;cases hb:bls ds with
   |none=>rw[hb]at h;cases h
   |some d6=>
    rw[hb]at h;cases oq9 h;unfold RepA at r;obtain⟨x,rr,c1,c2,rfl,rfl,h1,h2⟩:=r;unfold RepL at h1;rw[h1.1,qz0 hb h2];rfl
  |_=>unfold bls at h;cases h
theorem VQ:Ad1 K (λv H Q=>wv1 K [v] H Q) (pu1 K3):=by
 intro H x s Q ok hf k;unfold pu1 K3 at hf;dsimp only at hf
 split at hf
 ·rename_i ds e;cases hb:bls ds with
  |none=>rw[hb]at hf;cases hf
  |some bs=>
   rw[hb]at hf;cases oq9 hf;obtain⟨l,xs,cs,ev,q3,r3,_⟩:=items ok (.inl e);have q3:LsR K H l xs:=by rcases q3 with⟨_,z⟩|⟨z,_⟩;exact z;rw[e]at z;cases z
   exact⟨l,bs,by rw[ev],by rw[<-qz0 hb r3];exact zW q3,k ⟨.dp,.bl _,.bl _,[]⟩ H rfl rfl xJ⟩
 ·cases hf
theorem Kj{g:Int->Int->Bool}:∀x y s,pu2 (c2 g) x y=some s->∃k,s.2=.bl k:=by
 intro x y s h;unfold pu2 c2 at h
 split at h
 ·cases oq9 h;exact⟨_,rfl⟩
 ·cases h
theorem xQ:∀x y s,pu2 fEq x y=some s->∃k,s.2=.bl k:=by
 intro x y s h;unfold pu2 fEq at h
 split at h
 ·cases oq9 h;exact⟨_,rfl⟩
 ·cases h
theorem zx:∀x y s,pu2 fNe x y=some s->∃k,s.2=.bl k:=by
 intro x y s h;unfold pu2 fNe at h
 split at h
 ·cases oq9 h;exact⟨_,rfl⟩
 ·cases h
theorem wkf{x y d:D}(h:fIn x y=some d):∃k,d=.bl k:=by
 unfold fIn at h
 split at h
 ·split at h
  ·cases oq9 h;exact⟨_,rfl⟩
  ·cases h
 ·split at h
  ·cases oq9 h;exact⟨_,rfl⟩
  ·cases h
 ·split at h
  ·cases oq9 h;exact⟨_,rfl⟩
  ·cases h
 ·cases oq9 h;exact⟨_,rfl⟩
 ·cases h
theorem wwb:∀x y s,pu2 wV x y=some s->∃k,s.2=.bl k:=by
 intro x y s h;unfold pu2 wV at h
 split at h
 ·cases h
 ·cases hf:fIn x.2 y.2 with
  |none=>rw[hf]at h;cases h
  |some d=>
   rw[hf]at h;cases oq9 h;exact wkf hf
theorem vqa:∀x y s,f2First fIsNon x y=some s->∃k,s.2=.bl k:=by
 intro x y s h;unfold f2First fIsNon at h
 split at h
 ·cases oq9 h;exact⟨_,rfl⟩
 ·cases h
end
end Q
namespace Q
open PySem
def VJ:Sm:=λ_=>none
def zX(n d:Nat):Option Int->Nat
 |none=>d
 |some v=>if v<0 then(v+(n:Int)).toNat else min v.toNat n
noncomputable def K7(xs:List D)(lo hi:Option Int):List D:=(xs.drop (zX xs.length 0 lo)).take (zX xs.length xs.length hi - zX xs.length 0 lo)
noncomputable def fSl:Sd->Option Int->Option Int->Option Sd:=λx lo hi=>match x.2 with
 |.lst xs=>if qQ x then some (.rt,.lst (K7 xs lo hi))else none
 |.tup xs=>if qQ x/\¬(zX xs.length 0 lo=0/\zX xs.length xs.length hi=xs.length)then some (.no,.tup (K7 xs lo hi))else none
 |.str z=>if(Txt.slice z lo hi).length<=big then some (.dp,.str (Txt.slice z lo hi))else none
 |_=>none
noncomputable def Vx:Option Ex->Ev (Option Int)
 |none,E=>some (.ok E none)
 |some c,E=>bnd (c E) λE x=>match x.2 with
  |.int i=>some (.ok E (some i))
  |_=>none
noncomputable def cSl(a:Ex)(lo hi:Option Ex):Ex:=λE=>bnd (a E) λE x=>bnd (Vx lo E) λE l=>bnd (Vx hi E) λE h=>val E (fSl x l h)
def wki:Nat->List D->List D
 |_,[]=>[]
 |k,d::ds=>.tup [.int k,d]::wki (k+1) ds
def v7:List D->List D->List D
 |a::x,b::y=>.tup [a,b]::v7 x y
 |_,_=>[]
def lstOf:D->Option (List D)
 |.lst xs=>some xs
 |_=>none
noncomputable def ZV(c d:Ex):Ev (List D):=λE=>bnd (c E) λE x=>bnd (d E) λE y=>val E ((lstOf x.2).bind λxs=>(lstOf y.2).bind λys=>if xs.length<=big then some (v7 xs ys)else none)
def xK:List D->Option (List Str)
 |[]=>some []
 |.str z::ds=>(xK ds).map (z :: ·)
 |_=>none
def Jz:List D->Option (List Int)
 |[]=>some []
 |.int z::ds=>(Jz ds).map (z :: ·)
 |_=>none
noncomputable def V9(a:Str):List Str->List Str
 |[]=>[a]
 |b::r=>if Spec.ltCps b.cps.toList a.cps.toList then b::V9 a r else a::b::r
def qW:List Str->List Str
 |[]=>[]
 |a::r=>V9 a (qW r)
def Q1(a:Int):List Int->List Int
 |[]=>[a]
 |b::r=>if b<a then b::Q1 a r else a::b::r
def W6:List Int->List Int
 |[]=>[]
 |a::r=>Q1 a (W6 r)
noncomputable def ZJ:Sd->Option Sd:=λx=>match x.2 with
 | .lst ds=>(match xK ds with
  |some ss=>if ss.length<64 then some (.rt,.lst ((qW ss).map .str))else none
  |none=>(match Jz ds with
   |some is=>if is.length<64 then some (.rt,.lst ((W6 is).map .int))else none
   |none=>none))
 |_=>none
def isSq:D->Bool
 |.lst _=>true
 |.tup _=>true
 |_=>false
noncomputable def YY(f:Fn)(cs:List Ex):Ex:=λE=>bnd (vk cs E) λE xs=>match f (letAll xs)with
 |some (.ok _ y)=>if y.2.pure then some (.ok E (.dp,y.2))else none
 |some (.exc _ c)=>some (.exc E c)
 |none=>none
def ZK(i:Nat)(E:En):En:=match E[i]? with
 |some (some (_,d))=>E.set i (some (.no,d))
 |_=>E
def sFz(i:Nat)(s:Sm):Sm:=λE=>s (ZK i E)
def wvq:Option (Option Sd)->Bool
 |some (some (.dp,.lst _))=>true
 |_=>false
noncomputable def Q3 (i:Nat) (j c:Ex):Sm:=λE=>if wvq E[i]? then ofE (j E) λE k=>match E[i]?,k.2 with
 | some (some (.dp,.lst xs)),.int k=>(match ixN xs.length k with
  | some n=>(match xs[n]? with
   | some (.lst _)=>ofE (c E) λE x=>match E[i]? with
    |some (some (.dp,.lst xs))=>(match xs[n]? with
     |some (.lst ys)=>if v9 x/\ys.length<big then some (.nx (E.set i (some (.dp,.lst (xs.set n (.lst (ys++[x.2])))))))else none
     |_=>none)
    |_=>none
   |_=>none)
  |none=>none)
 |_,_=>none
 else none
noncomputable def v6:Sd->Sd->Option Sd:=λx y=>match x.2,y.2 with
 |.tup a,.int k=>if -(2 ^ 63)<=k/\k<2 ^ 63/\a.length*k.toNat<=big/\qQ x then some (.no,.tup (List.replicate k.toNat a).flatten)else none
 |_,_=>wke x y
noncomputable def zQ(f g:D->D->Option D)(a b c:Ex):Ex:=λE=>bnd (a E) λE x=>bnd (b E) λE y=>match f x.2 y.2 with
 |some (.bl true)=>bnd (c E) λE z=>val E ((g y.2 z.2).map λd=>(.dp,d))
 |some (.bl false)=>some (.ok E (.dp,.bl false))
 |_=>none
end Q
namespace Q
open PySem
def kwp(is:List Int):Bool:=is.all λi=>decide (0<=i)&&decide (i<=1000000)
noncomputable def wkd:D->Option D:=λd=>match d with
 |.lst ds=>(match Jz ds with
  |some is=>if kwp is=true/\is.length<=100000 then some (.int is.sum)else none
  |none=>none)
 |_=>none
end Q
namespace Q
open PySem
def valI(kv:List (Int×Int))(k:Int):Option Int:=(kv.find? λp=>decide (p.1=k)).map (·.2)
noncomputable def putI(kv:List (Int×Int))(k v:Int):List (Int×Int):=if(kv.any λp=>decide (p.1=k))=true then kv.map (λp=>if p.1=k then(p.1,v)else p)else kv++[(k,v)]
noncomputable def xW(z:Str):D->Option D:=λd=>match d with
 |.lst ds=>(match xK ds with
  |some ys=>if(ys.map (·.length)).sum+ys.length*z.length<=100000 then some (.str (Txt.join z ys))else none
  |none=>none)
 |_=>none
def K0(z:Str)(c:Ex):Ex:=λE=>bnd (c E) λE x=>val E ((xW z x.2).map λd=>(.dp,d))
end Q
namespace Q
open PySem
def qkg:D->Bool
 |.str _=>true
 |_=>false
noncomputable def qxl:D->D->Option D:=λx y=>match x,y with
 |.str a,.str b=>(match Builtin.Str.occurrences a b 0 a.length 1 with
  |i::_=>some (.int i)
  |[]=>none)
 |_,_=>none
noncomputable def vk3(a b:Ex):Ex:=λE=>bnd (a E) λE x=>if qkg x.2=true then bnd (b E) λE y=>val E ((qxl x.2 y.2).map λd=>(.dp,d))else none
end Q
namespace Q
open PySem
def YJ(x:Sd):Bool:=v9 x||(x.1 == .rt&&(match x.2 with
 |.lst ds=>D.pures ds
 |_=>false))
end Q
namespace Q
open PySem
noncomputable def D.at:List Nat->D->Option D
 |[],d=>some d
 |n::p,.tup ds=>match ds[n]? with
  |some d=>D.at p d
  |none=>none
 |n::p,.lst ds=>match ds[n]? with
  |some d=>D.at p d
  |none=>none
 |_::_,_=>none
noncomputable def D.put(d':D):List Nat->D->D
 |[],_=>d'
 |n::p,.tup ds=>match ds[n]? with
  |some d=>.tup (ds.set n (D.put d' p d))
  |none=>.tup ds
 |n::p,.lst ds=>match ds[n]? with
  |some d=>.lst (ds.set n (D.put d' p d))
  |none=>.lst ds
 |_::_,d=>d
noncomputable def sPA(i:Nat)(p:List Nat)(c:Ex):Sm:=λE=>match E[i]? with
 |some (some (.dp,d))=>(match D.at p d with
  |some (.lst ds)=>if ds.length<big then ofE (c (E.set i none)) λE1 x=>if x.2.pure=true then some (.nx (E1.set i (some (.dp,D.put (.lst (ds++[x.2])) p d))))else none else none
  |_=>none)
 |_=>none
noncomputable def sPC(i:Nat)(p:List Nat):Sm:=λE=>match E[i]? with
 |some (some (.dp,d))=>(match D.at p d with
  |some (.lst _)=>some (.nx (E.set i (some (.dp,D.put (.lst []) p d))))
  |_=>none)
 |_=>none
def Qx(c:Ex):Ex:=λE=>bnd (c E) λE x=>if YJ x=true then some (.ok E (.dp,x.2))else none
end Q
namespace Q
open PySem
noncomputable def vjs:D->D->Option (List D)
 |.lst xs,.lst ys=>if xs.length<=big then some (v7 xs ys)else none
 |.tup xs,.tup ys=>if xs.length<=big/\xs.length=ys.length then some (v7 xs ys)else none
 |_,_=>none
def qkf(c d:Ex):Ev (List D):=λE=>bnd (c E) λE x=>bnd (d E) λE y=>val E (vjs x.2 y.2)
noncomputable def W2(E:En):List (Int ⊕ Nat)->Option (List Int)
 |[]=>some []
 |.inl z::r=>(W2 E r).map (z :: ·)
 |.inr m::r=>match E[m]? with
  |some (some (_,.int z))=>(W2 E r).map (z :: ·)
  |_=>none
noncomputable def KW:List Int->D->Option (List Nat)
 | [],_=>some []
 | z::r,.tup ds=>(match ixN ds.length z with
  |some n=>(match ds[n]? with
   |some d=>(KW r d).map (n :: ·)
   |none=>none)
  |none=>none)
 | z::r,.lst ds=>(match ixN ds.length z with
  |some n=>(match ds[n]? with
   |some d=>(KW r d).map (n :: ·)
   |none=>none)
  |none=>none)
 |_::_,_=>none
noncomputable def Zj(i:Nat)(ps:List (Int ⊕ Nat))(c:Ex):Sm:=λE=>match E[i]?,W2 E ps with
 |some (some (_,d)),some zs=>(match KW zs d with
  |some p=>sPA i p c E
  |none=>none)
 |_,_=>none
noncomputable def Vj:Nat->Nat->D->Option D
 |0,_,d=>some d
 |n+1,k,d=>match D.at [k] d with
  |some (.tup [_,_,.lst _])=>Vj n (k+1) (D.put (.lst []) [k,2] d)
  |_=>none
noncomputable def kx2(i r1 r2 r3:Nat)(p:List Nat):Sm:=λE=>match E[i]? with
 | some (some (.dp,d))=>(match D.at p d with
  |some (.lst ds)=>if r1<E.length/\r2<E.length/\r3<E.length then(match Vj ds.length 0 (.lst ds)with
   |some d1=>some (.nx (((((E.set i none).set r1 none).set r2 none).set r3 none).set i (some (.dp,D.put d1 p d))))
   |none=>none)else none
  |_=>none)
 |_=>none
end Q
namespace Q
open PySem PySem.Spec PyProof.Rows L2 L3
section
variable {X:Cx}{Z:Fx0}{K:PySem.W.Frag}{pn:List Nat}{q qa qb:Bool}{a b c:Ex}{u:Ts}{tg e ea eb:Expr}{st:Stmt}{σ:L2.St}{H:Hp}{L:Ls}{E:En}{pos p p2:Pos}{x:Str}
theorem kx6:QS X Z pn VJ st:=λpins s σ H D I au=>ex7 au λE L r m w hc k=>by cases hc
theorem kkq(a:Str):∀r,(V9 a r).Perm (a::r)
 |[]=>List.Perm.refl _
 |b::r=>by
  unfold V9
  split
  ·exact((kkq a r).cons b).trans (List.Perm.swap ..)
  ·exact List.Perm.refl _
theorem J7:∀r,(qW r).Perm r
 |[]=>List.Perm.refl _
 |a::r=>(kkq a _).trans ((J7 r).cons a)
def leS(a b:Str):Prop:=Spec.ltCps b.cps.toList a.cps.toList=false
theorem leS_iff{a b:Str}:leS a b↔a.cps.toList<=b.cps.toList:=by
 unfold leS;rw[ltCps_eq,decide_eq_false_iff_not,List.not_lt]
theorem kxu{a b c:Str}(h:leS a b)(h':leS b c):leS a c:=leS_iff.mpr (List.le_trans (leS_iff.mp h) (leS_iff.mp h'))
theorem qkb{a b:Str}(h:leS a b)(h':leS b a):a=b:=by
 have:=List.le_antisymm (leS_iff.mp h) (leS_iff.mp h');cases a;cases b;simp only at this
 congr 1
 exact Array.toList_inj.mp this
theorem qww{a b:Str}(h:¬leS a b):leS b a:=by
 rw[leS_iff]at h ⊢;exact List.le_of_lt (List.not_le.mp h)
theorem kx3:∀{a:Str} {r:List Str},risingS a r=true->(a::r).Pairwise leS
 |a,[],_=>by simp
 |a,b::r,h=>by
  have h:(!(Spec.ltCps b.cps.toList a.cps.toList)&&risingS b r)=true:=h;rw[Bool.and_eq_true,Bool.not_eq_true']at h;have ih:=kx3 h.2;refine List.pairwise_cons.mpr ⟨λc hc=>?_,ih⟩;rcases List.mem_cons.mp hc with rfl|hc
  ·exact h.1
  ·exact kxu h.1 ((List.pairwise_cons.mp ih).1 c hc)
theorem qve{r:List Str}(h:sortedS r=true):r.Pairwise leS:=by
 cases r with
 |nil=>exact .nil
 |cons a r=>exact kx3 h
theorem qxa{a:Str}:∀{r:List Str},r.Pairwise leS->(V9 a r).Pairwise leS
 | [],_=>by simp[V9]
 | b::r,h=>by
  rw[List.pairwise_cons]at h;unfold V9
  by_cases hl:Spec.ltCps b.cps.toList a.cps.toList=true
  ·rw[Xf hl];refine List.pairwise_cons.mpr ⟨λc hc=>?_,qxa h.2⟩;rcases List.mem_cons.mp ((kkq a r).mem_iff.mp hc)with rfl|hc
   ·exact qww (by unfold leS;rw[hl];exact λz=>nomatch z)
   ·exact h.1 c hc
  ·rw[Xm hl];have gr:leS a b:=by unfold leS;exact Bool.eq_false_iff.mpr hl
   refine List.pairwise_cons.mpr ⟨λc hc=>?_,List.pairwise_cons.mpr h⟩;rcases List.mem_cons.mp hc with rfl|hc
   ·exact gr
   ·exact kxu gr (h.1 c hc)
theorem kjv:∀{r:List Str},(qW r).Pairwise leS
 |[]=>.nil
 |a::r=>qxa kjv
theorem qjm{r s:List Str}(p:s.Perm r)(h:sortedS s=true):s=qW r:=
 List.Perm.eq_of_pairwise (λa b _ _ h1 h2=>qkb h1 h2) (qve h) kjv (p.trans (J7 r).symm)
theorem kkr(a:Int):∀r,(Q1 a r).Perm (a::r)
 |[]=>List.Perm.refl _
 |b::r=>by
  unfold Q1
  split
  ·exact((kkr a r).cons b).trans (List.Perm.swap ..)
  ·exact List.Perm.refl _
theorem jzl:∀r,(W6 r).Perm r
 |[]=>List.Perm.refl _
 |a::r=>(kkr a _).trans ((jzl r).cons a)
theorem qxb{a:Int}:∀{r:List Int},r.Pairwise (·<=·)->(Q1 a r).Pairwise (·<=·)
 | [],_=>by simp[Q1]
 | b::r,h=>by
  rw[List.pairwise_cons]at h;unfold Q1
  by_cases hl:b<a
  ·rw[Xf hl];refine List.pairwise_cons.mpr ⟨λc hc=>?_,qxb h.2⟩;rcases List.mem_cons.mp ((kkr a r).mem_iff.mp hc)with rfl|hc
   ·exact Int.le_of_lt hl
   ·exact h.1 c hc
  ·rw[Xm hl];refine List.pairwise_cons.mpr ⟨λc hc=>?_,List.pairwise_cons.mpr h⟩;rcases List.mem_cons.mp hc with rfl|hc
   ·omega
   ·have:=h.1 c hc;omega
theorem qjn:∀{r:List Int},(W6 r).Pairwise (·<=·)
 |[]=>.nil
 |a::r=>qxb qjn
theorem qzn{r s:List Int}(p:s.Perm r)(h:s.Pairwise (·<=·)):s=W6 r:=
 List.Perm.eq_of_pairwise (λa b _ _ h1 h2=>Int.le_antisymm h1 h2) h qjn (p.trans (jzl r).symm)
theorem kqw{ns:List Str}:∀{us:List Value},Vals (ns.map V.str) us->StrsAre us ns:=by
 induction ns with
 | nil=>intro us r;rw[List.map_nil]at r;cases r;exact .nil
 | cons n ns ih=>
  intro us r;rw[List.map_cons]at r;cases r with
  |cons r1 r2=>
   obtain⟨t,e⟩:=r1;subst e;exact .cons n t (ih r2)
theorem kwi{us:List Value}{ns:List Str}(h:StrsAre us ns):Vals (ns.map V.str) us:=by
 induction h with
 |nil=>exact .nil
 |cons y t _ ih=>exact .cons ⟨t,rfl⟩ ih
theorem kwj{us:List Value}{ns:List Int}(h:IntsAre us ns):Vals (ns.map V.int) us:=by
 induction h with
 |nil=>exact .nil
 |cons y t _ ih=>exact .cons ⟨t,rfl⟩ ih
noncomputable def qvu(K:PySem.W.Frag):List V->Hp->VK->Prop:=λxs H Q=>
 (∃p ss,xs=[.ref p]/\SqL K H p (ss.map V.str)/\ss.length<64/\∀l,H l=none->Q (.ref l) (upd H l (.lst ((qW ss).map V.str)))) \/
 ∃p ss,xs=[.ref p]/\SqL K H p (ss.map V.int)/\ss.length<64/\∀l,H l=none->Q (.ref l) (upd H l (.lst ((W6 ss).map V.int)))
theorem qj9(hK:X.K=K):CallR X (.builtin "sorted") (qvu K):=by
 subst hK;intro pins s σ H xs us Q I r h;rcases h with⟨p,ss,rfl,hq,hl,q⟩|⟨p,ss,rfl,hq,hl,q⟩
 ·obtain⟨u,rfl,rx⟩:=x8 r;cases rx;obtain⟨aa,r',pl,hz⟩:=I.list hq;have af:=r'.length;rw[X4]at af hz;refine sorted_strs (vs:=aa) pl.isList (kqw r') (by omega) λout ss' h1 h2 h3=>?_
  have e:=qjm h2 h3;subst e;obtain⟨n,hn⟩:=sortedAll_at s.heap aa out;have gh:s.heap.objs.size<=s.heap.objs.size+1:=Nat.le_succ _;refine⟨.ref (s.heap.objs.size+1),_,I.laid (t':=s.toks) (o:=.lst ((qW ss).map V.str)) (λb o e=>sortedAll_old e) gh ?_,rfl,q _ (I.hok.fresh gh)⟩;exact⟨by rw[X4,(J7 ss).length_eq];exact hz,out.toList,n,kwi h1,by simpa using hn⟩
 ·obtain⟨u,rfl,rx⟩:=x8 r;cases rx;obtain⟨aa,r',pl,hz⟩:=I.list hq;have af:=r'.length;rw[X4]at af hz;refine sorted_ints (vs:=aa) pl.isList (qqk r') (by omega) λout ss' h1 h2 h3=>?_
  have e:=qzn h2 h3;subst e;obtain⟨n,hn⟩:=sortedAll_at s.heap aa out;have gh:s.heap.objs.size<=s.heap.objs.size+1:=Nat.le_succ _;refine⟨.ref (s.heap.objs.size+1),_,I.laid (t':=s.toks) (o:=.lst ((W6 ss).map V.int)) (λb o e=>sortedAll_old e) gh ?_,rfl,q _ (I.hok.fresh gh)⟩;exact⟨by rw[X4,(jzl ss).length_eq];exact hz,out.toList,n,kwj h1,by simpa using hn⟩
theorem kjt{g:Bool}:∀{ds:List D} {bs:List Str} {xs:List V} {as:List Addr},xK ds=some bs->RepA K H g ds xs as->xs=bs.map V.str/\∀z∈bs,z.length<=sizeLine
 | [],bs,xs,as,h,r=>by
  cases oq9 h;unfold RepA at r;exact⟨r.1,λ_ z=>nomatch z⟩
 | d::ds,bs,xs,as,h,r=>by
  cases d with
  | str b=>
   unfold xK at h;cases hb:xK ds with
   |none=>rw[hb]at h;cases h
   |some d6=>
    rw[hb]at h;cases oq9 h;unfold RepA at r;obtain⟨x,rr,c1,c2,rfl,rfl,h1,h2⟩:=r;unfold RepL at h1;obtain⟨i1,i2⟩:=kjt hb h2;exact⟨by rw[h1.1,i1];rfl,λz hz=>(List.mem_cons.mp hz).elim (λe=>e▸h1.2.2) (i2 z)⟩
  |_=>unfold xK at h;cases h
theorem kw7{g:Bool}:∀{ds:List D} {bs:List Int} {xs:List V} {as:List Addr},Jz ds=some bs->RepA K H g ds xs as->xs=bs.map V.int
 | [],bs,xs,as,h,r=>by
  cases oq9 h;unfold RepA at r;exact r.1
 | d::ds,bs,xs,as,h,r=>by
  cases d with
  | int b=>
   unfold Jz at h;cases hb:Jz ds with
   |none=>rw[hb]at h;cases h
   |some d6=>
    rw[hb]at h;cases oq9 h;unfold RepA at r;obtain⟨x,rr,c1,c2,rfl,rfl,h1,h2⟩:=r;unfold RepL at h1;rw[h1.1,kw7 hb h2];rfl
  |_=>unfold Jz at h;cases h
theorem kjw{g:Bool}:∀{bs:List Str},(∀z∈bs,z.length<=sizeLine)->RepA K H g (bs.map D.str) (bs.map V.str) []
 |[],_=>by unfold RepA;exact⟨rfl,rfl⟩
 |b::bs,h=>by
  rw[List.map_cons,List.map_cons];unfold RepA;exact⟨_,_,[],[],rfl,rfl,QX (h b X3),kjw λz hz=>h z (lc9 _ hz)⟩
theorem qjv{g:Bool}:∀{bs:List Int},RepA K H g (bs.map D.int) (bs.map V.int) []
 |[]=>by unfold RepA;exact⟨rfl,rfl⟩
 |b::bs=>by
  rw[List.map_cons,List.map_cons];unfold RepA;exact⟨_,_,[],[],rfl,rfl,zV,qjv⟩
theorem qz7:Ad1 K (λv H Q=>qvu K [v] H Q) ZJ:=by
 intro H x s Q ok hf k;unfold ZJ at hf;dsimp only at hf;cases hx:x.d with
 | lst ds=>
  rw [hx]at hf;dsimp only at hf;obtain⟨l,xs,bs,ev,q3,r3,_⟩:=items ok (.inl hx);have q3:LsR K H l xs:=by rcases q3 with⟨_,z⟩|⟨z,_⟩;exact z;rw[hx]at z;cases z
  cases hs:xK ds with
  | some ss=>
   rw[hs]at hf;dsimp only at hf
   split at hf
   ·rename_i hl;cases oq9 hf;obtain⟨e1,e2⟩:=kjt hs r3;subst e1;refine .inl ⟨l,ss,by rw[ev],zW q3,hl,λp hp=>?_⟩;exact k ⟨.rt,.lst _,.ref p,p::[]⟩ _ rfl rfl (JX hp (kjw λz hz=>e2 z ((J7 ss).mem_iff.mp hz)) λb hb=>nomatch hb)
   ·cases hf
  | none=>
   rw[hs]at hf;dsimp only at hf;cases hi:Jz ds with
   | none=>rw[hi]at hf;cases hf
   | some ss=>
    rw[hi]at hf;dsimp only at hf
    split at hf
    ·rename_i hl;cases oq9 hf;have e1:=kw7 hi r3;subst e1;refine .inr ⟨l,ss,by rw[ev],zW q3,hl,λp hp=>?_⟩;exact k ⟨.rt,.lst _,.ref p,p::[]⟩ _ rfl rfl (JX hp qjv λb hb=>nomatch hb)
    ·cases hf
 |_=>rw[hx]at hf;cases hf
def tPo(Z:Fx0):Option Ex->TO
 |none=>qv6
 |some c=>vxi (tV Z true c)
theorem Zx:PO X none (tPo Z none):=vvg
theorem JK(h:QV X Z true c e):PO X (some e) (tPo Z (some c)):=vvf h
theorem qw9{α:Type}{co:Option Ex}{F:En->Option Int->Option (Res α)}{r:Res α}{G:Option Int->Hp->Prop}(m:Mt E σ L)(w:World Z.K H L)(h:bnd (Vx co E) F=some r)(xc:Xc Z σ H L r)
  (k:∀E1 l,F E1 l=some r->∀L1 H1,Mt E1 σ L1->World Z.K H1 L1->Step H L H1 L1->k9 H H1->G l H1):tPo Z co σ H G:=by
 cases co with
 | none=>exact k E none h L H m w Step.refl xj
 | some c=>
  have h:bnd (bnd (c E) λE x=>match x.2 with|.int i=>some (.ok E (some i))|_=>none) F=some r:=h;have h':bnd (c E) (λE x=>bnd (match x.2 with|.int i=>some (.ok E (some i))|_=>none) F)=some r:=by
   cases hc:c E with
   |none=>rw[hc]at h;exact h
   |some y=>rw[hc]at h;cases y<;>exact h
  show tV Z true c σ H λx H1=>∃i,x=.int i/\G (some i) H1
  refine wq m w h' xc λE1 s h1 x L1 H1 e1 e2 m1 w1 ok fr sr st sm=>?_
  cases hs:s.2 with
  |int i=>
   rw[hs]at h1;exact⟨i,vq ok (e2.trans hs),k E1 (some i) h1 L1 H1 m1 w1 st (sm rfl)⟩
  |_=>rw[hs]at h1;cases h1
theorem qjr(n d:Nat)(v:Option Int):HT.sIx n d v=zX n d v:=by
 cases v<;>rfl
theorem RepA.drop{K:PySem.W.Frag}{H:Hp}{g:Bool}:∀(n:Nat) {ds:List D} {xs:List V} {as:List Addr},RepA K H g ds xs as->∃bs,RepA K H g (ds.drop n) (xs.drop n) bs/\∀b∈bs,b∈as
 |0,ds,xs,as,h=>⟨as,h,λ_ h=>h⟩
 |n+1,[],xs,as,h=>by
  unfold RepA at h;obtain⟨rfl,rfl⟩:=h;exact⟨[],by simp only[List.drop_nil];unfold RepA;exact⟨rfl,rfl⟩,λ_ h=>h⟩
 |n+1,d::ds,xs,as,h=>by
  unfold RepA at h;obtain⟨x,r,bs,cs,rfl,rfl,h1,h2⟩:=h;obtain⟨es,r2,hb⟩:=RepA.drop n h2;exact⟨es,r2,λb h=>lr9 _ (hb b h)⟩
theorem RepA.take{K:PySem.W.Frag}{H:Hp}{g:Bool}:∀(n:Nat) {ds:List D} {xs:List V} {as:List Addr},RepA K H g ds xs as->∃bs,RepA K H g (ds.take n) (xs.take n) bs/\∀b∈bs,b∈as
 |0,ds,xs,as,h=>⟨[],by simp only[List.take_zero];unfold RepA;exact⟨rfl,rfl⟩,λ_ h=>nomatch h⟩
 |n+1,[],xs,as,h=>by
  unfold RepA at h;obtain⟨rfl,rfl⟩:=h;exact⟨[],by simp only[List.take_nil];unfold RepA;exact⟨rfl,rfl⟩,λ_ h=>h⟩
 |n+1,d::ds,xs,as,h=>by
  unfold RepA at h;obtain⟨x,r,bs,cs,rfl,rfl,h1,h2⟩:=h;obtain⟨es,r2,hb⟩:=RepA.take n h2;refine⟨bs++es,?_,λb h=>(List.mem_append.mp h).elim (λz=>ll9 _ z) λz=>lr9 _ (hb b z)⟩;rw[List.take_succ_cons,List.take_succ_cons];unfold RepA;exact⟨x,r.take n,bs,es,rfl,rfl,h1,r2⟩
theorem RepA.cut{K:PySem.W.Frag}{H:Hp}{g:Bool}{ds:List D}{xs:List V}{as:List Addr}(h:RepA K H g ds xs as)(lo hi:Option Int):∃bs,RepA K H g (K7 ds lo hi) (Qv xs lo hi) bs/\∀b∈bs,b∈as:=by
 have hl:=h.len;unfold K7 Qv;rw[qjr,qjr,<-hl];obtain⟨bs,r,hb⟩:=h.drop (zX ds.length 0 lo);obtain⟨cs,r2,hc⟩:=r.take (zX ds.length ds.length hi - zX ds.length 0 lo);exact⟨cs,r2,λb h=>hb b (hc b h)⟩
theorem vqw{x:Sl}{s:Sd}{lo hi:Option Int}{Q:VK}(ok:x.ok K H)(hf:fSl (x.o,x.d) lo hi=some s)(k:∀(z:Sl) H',z.o=s.1->z.d=s.2->Out K H H' z x.frz->Q z.v H'):vkg K x.v lo hi H Q:=by
 unfold fSl at hf;dsimp only at hf;cases hx:x.d with
 | lst ds=>
  rw[hx]at hf;dsimp only at hf
  split at hf
  ·rename_i hl;cases oq9 hf;obtain⟨l,xs,bs,ev,q3,r3,h3⟩:=J0 ok (.inl hx) (by rw[hx];exact hl);have q3:LsR K H l xs:=by rcases q3 with⟨_,z⟩|⟨z,_⟩;exact z;rw[hx]at z;cases z
   obtain⟨cs,r4,h4⟩:=r3.cut lo hi;exact .inl ⟨l,xs,ev,zW q3,λp hp=>k ⟨.rt,.lst _,.ref p,p::cs⟩ _ rfl rfl (JX hp r4 λb hb=>h3 b (h4 b hb))⟩
  ·cases hf
 | tup ds=>
  rw[hx]at hf;dsimp only at hf
  split at hf
  ·rename_i hl;cases oq9 hf;obtain⟨l,xs,bs,ev,q3,r3,h3⟩:=J0 ok (.inr hx) (by rw[hx];exact hl.1);have q3:SqT K H l xs:=by rcases q3 with⟨z,_⟩|⟨_,z⟩;rw[hx]at z;cases z;exact z
   obtain⟨cs,r4,h4⟩:=r3.cut lo hi;refine .inr (.inl ⟨l,xs,ev,q3,?_,λp hp=>k ⟨.no,.tup _,.ref p,cs⟩ _ rfl rfl (kkc hp r4 λb hb=>h3 b (h4 b hb))⟩);rw[qjr,qjr,<-r3.len];exact hl.2
  ·cases hf
 | str z=>
  rw[hx]at hf;dsimp only at hf
  split at hf
  ·rename_i hl;cases oq9 hf;obtain⟨e,hz⟩:=wY ok hx;exact .inr (.inr ⟨z,e,hz,k ⟨.dp,.str _,.str _,[]⟩ H rfl rfl (Wv hl)⟩)
  ·cases hf
 |_=>rw[hx]at hf;cases hf
theorem QK{lo hi:Option Ex}{elo ehi:Option Expr}(ha:QV X Z q a ea)(hl:PO X elo (tPo Z lo))(hh:PO X ehi (tPo Z hi))(hK:autoParam (X.K=Z.K) Ŕ):QE X Z q (cSl a lo hi) (.Subscript ea (.Slice elo ehi none p2) pos):=
 kZ (vj7 (wqp Z.K hK) ha hl hh) fun σ H Q au=>ex8 au λE L r m w hc xc k=>by
  refine wq m w (show bnd (a E) _=some r from hc) xc λE1 s h1 x L1 H1 e1 e2 m1 w1 ok fr sr st sm=>?_
  refine qw9 m1 w1 h1 (xc.step st) λE2 l h2 L2 H2 m2 w2 be fj=>?_
  refine qw9 m2 w2 h2 (xc.step (st.trans be)) λE3 u h3 L3 H3 m3 w3 ef p8=>?_
  obtain⟨z,hz,rfl⟩:=xw h3;have k1:=W3 ok fr be fj;have k2:=W3 k1.1 k1.2 ef p8;refine vqw k2.1 (by rw[e1,e2];exact hz) λy H' ho hd o=>?_
  obtain⟨w4,km⟩:=Kk w3 ((st.trans be).trans ef) o k2.2 (λb hb=>k2.1.some (Sl.frz_as hb)) (W0 sr λb hb=>Sl.frz_as hb);have ip:q=true->k9 H H3:=λhq=>q9 (sm hq) (q9 fj p8)
  exact k _ _ rfl y L3 H' ho hd m3 w4 km λhq=>⟨q9 (ip hq) o.same,λb hb=>J5 (ip hq) (o.new b hb)⟩
noncomputable def tAV(Z:Fx0)(cs:List Ex):TA:=fun σ H Q=>∃E L r,Mt E σ L/\World Z.K H L/\vk cs E=some r/\Xc Z σ H L r /\
 ∀E' ys,r=.ok E' ys->∀(xs:List Sl) L' H',xs.map Sl.sd=ys->Mt E' σ L'->World Z.K H' L'->(∀x∈xs,x.ok Z.K H')->Step H L H' L'->k9 H H'->Q (xs.map Sl.v) H'
def QAV(X:Cx)(Z:Fx0)(cs:List Ex)(es:List Expr):Prop:=PA X es (tAV Z cs)
theorem vzf:QAV X Z [] []:=kx8 wW fun σ H Q au=>ex8 au λE L r m w hc xc k=>by
 cases oq9 hc;exact k _ _ rfl [] L H rfl m w (λ_ z=>nomatch z) Step.refl xj
theorem vv9{cs:List Ex}{es:List Expr}(h:QV X Z true c e)(hs:QAV X Z cs es)(bm:autoParam (starEach (e::es) X.env=(false,eval e X.env)::starEach es X.env) Ŕ):QAV X Z (c::cs) (e::es):=
 kx8 (vZ h hs bm) fun σ H Q au=>ex8 au λE L r m w hc xc k=>by
  refine wq m w (show bnd (c E) _=some r from hc) xc λE1 s h1 x L1 H1 e1 e2 m1 w1 ok fr sr st sm=>?_
  rcases ww h1 with⟨E2,ys,h2,h3⟩|⟨E2,cc,h2,h3⟩
  ·cases oq9 h3;refine⟨E1,L1,_,m1,w1,h2,(λ_ _ z=>by cases z),λE' ys' z xs L2 H2 e3 m2 w2 ku be fj=>?_⟩;injection z with z1 z2;subst z1 z2;refine k _ _ rfl (x::xs) L2 H2 (by rw[List.map_cons,e3];simp[Sl.sd,e1,e2]) m2 w2 (λy hy=>?_) (st.trans be) (q9 (sm rfl) fj);rcases List.mem_cons.mp hy with rfl|hy
   ·exact(W3 ok fr be fj).1
   ·exact ku y hy
  ·exact⟨E1,L1,_,m1,w1,h2,(xc.step st).map h3,λE' s' z=>by cases z⟩
theorem qw3{k n:Nat}{ps:List Str}{f:Fn}{cs:List Ex}{es:List Expr}(D:k7 X.prog X.w X.K X.mg X.base k x ps (spF Z.K Z.mg n f))(hr:Room k X.A)(g:zj X Z.EX)(ha:QAV X Z cs (e::es))(hn:autoParam (cs.length=n) Ŕ)(hg:autoParam (Gl X x) Ŕ)(i7:autoParam ((x==("__debug__":Str))=false) ŕ)
  (he:autoParam (starEach (e::es) X.env=(false,eval e X.env)::starEach es X.env) Ŕ) (bt:autoParam ((backTo pos (starEach es X.env)).any (·.1)=false) Ŕ):
  QE X Z true (YY f cs) (.Call (.Name x p) (e::es) [] pos):=kZ (vkp D hr g ha hg i7 he bt) fun σ H Q au=>ex8 au λE L r m w hc xc kk=>by
 have hc:bnd (vk cs E) _=some r:=hc;rcases ww hc with⟨E1,ys,h1,h2⟩|⟨E1,cc,h1,h2⟩
 rotate_left
 ·exact⟨E,L,_,m,w,h1,xc.map h2,λE' s' z=>by cases z⟩
 refine⟨E,L,_,m,w,h1,(λ_ _ z=>by cases z),λE' ys' z xs L1 H1 e1 m1 w1 ok1 st sm=>?_⟩;injection z with z1 z2;subst z1 z2;rw [Xv];have af:xs.length=n:=by rw[<-hn,<-kq1 h1,<-e1,X4]
 cases hf:f (letAll ys)with
 | none=>rw[hf]at h2;cases h2
 | some fr=>
  rw[hf]at h2;have ev:xs.map Sl.v=(xs.map Sl.let).map Sl.v:=by rw[Xx];rfl
  have wl:World Z.K H1 ((xs.map Sl.let).map some):=by
   refine⟨λy hy=>?_,by rw[JQ];exact Y9,λa ha=>by rw[JQ]at ha;exact nomatch ha⟩;obtain⟨y',hy',e⟩:=List.mem_map.mp hy;cases e;obtain⟨t,ht,rfl⟩:=List.mem_map.mp hy';exact K1 (ok1 t ht)
  rw[ev];refine⟨xs.map Sl.let,fr,rfl,by rw[X4];exact af,wl,by rw[<-e1]at hf;rw[qwt];exact hf,λE' c ee C H' hm s'=>?_,λE' a ee y H' e2 e3 w' s'=>?_⟩
  ·subst ee;cases oq9 h2;have pj:k9 H1 H':=λb ob hb=>s'.keep b ob hb λz=>by rw[JQ]at z;exact nomatch z
   exact xc _ _ rfl C L1 H' hm m1 ⟨λy hy=>RepO.kp (w1.ok y hy) (Kp.of_same pj),w1.nd,w1.ds⟩ (st.trans ⟨λb ob hb _=>pj b ob hb,λ_ h=>.inl h,λ_ h=>.inl h⟩)
  ·subst ee;dsimp only at h2
   split at h2
   ·rename_i hp;cases oq9 h2;have pj:k9 H1 H':=λb ob hb=>s'.keep b ob hb λz=>by rw[JQ]at z;exact nomatch z
    have w2:World Z.K H' L1:=⟨λy hy=>RepO.kp (w1.ok y hy) (Kp.of_same pj),w1.nd,w1.ds⟩;obtain⟨z,rp⟩:=RepL.pu (g':=false) (RepO.wk (w'.ok y X3)) (by rw[e3];exact hp);have be:Step H L H' L1:=st.trans ⟨λb ob hb _=>pj b ob hb,λ_ h=>.inl h,λ_ h=>.inl h⟩;exact kk _ _ rfl ⟨.dp,y.d,y.v,[]⟩ L1 H' rfl e3 m1 (w2.consPu rp rfl) (V5 (x:=⟨.dp,y.d,y.v,[]⟩) be (λb hb=>nomatch hb) rfl) λ_=>⟨q9 sm pj,λ_ z=>(nomatch z)⟩
   ·cases h2
end
theorem wqu{prog:Program}{w:PySem.World}{A:Around}{E:Value->Shared->Prop}{s:Shared}{l:Addr}{items:Array Value}{k:Int}{t:Tok}{Q:Value->Shared->Prop}
  (ht:IsTup s.heap l items) (h:Q .notImplemented s):wpAny (model prog w) A (call (.builtin "int.__rmul__") [.int k t,.ref l]) Q E s:=by
 refine Xz PySem.F.slot_int_rmul (typeIs_int s k t) PySem.F.entry_int_rmul ?_ (PySem.F.args_int_rmul_2 _ _);obtain⟨o,e,c,n,hd⟩:=ht;show wpAny _ _ (asInt? (.ref l) >>= _) _ _ s;unfold asInt?;refine X0 (X0 (wpAny_load e ?_));rw[hd];refine X5 ?_;dsimp only;refine X0 (Z7 ?_);exact X5 ⟨_,rfl,h⟩
theorem mulT{prog:Program}{w:PySem.World}{A:Around}{E:Value->Shared->Prop}{s:Shared}{l:Addr}{items:Array Value}{k:Int}{t:Tok}{Q:Value->Shared->Prop}
  (ht:IsTup s.heap l items) (h1:-(2 ^ 63)<=k) (h2:k<2 ^ 63) (hz:items.size*k.toNat<=sizeLine)
  (i':(items.isEmpty=true\/k=1)->Q (.ref l) s)
  (hsz:(List.foldl (λx1 x2=>x1++x2) #[] (List.replicate k.toNat items)).size<=sizeLine)
  (kr:Q (.ref s.heap.objs.size) { s with heap:=s.heap.push { cls:=.type "tuple",data:=.seq (List.foldl (λx1 x2=>x1++x2) #[] (List.replicate k.toNat items)) } })
  : wpAny (model prog w) A (call (.builtin "tuple.__mul__") [.ref l,.int k t]) Q E s:=by
 refine Xz PySem.F.slot_tuple_mul ht.typeIs PySem.F.entry_tuple_mul ?_ (PySem.F.args_tuple_mul_2 _ _);show wpAny _ _ (if(decide (k < -2 ^ 63)||decide (k>=2 ^ 63))=true then _ else _) _ _ s;rw [Xm (by simp;omega)];show wpAny _ _ (Builtin.Tuple.tupleItemsOf (.ref l) >>= _) _ _ s;refine X0 (tupleItemsOf_ ht ?_)
 by_cases hs:(items.isEmpty||k==1)=true
 ·rw[Xf hs];unfold Builtin.Tuple.tupleIsExact;refine X0 (X0 (wpAny_typeOf ht.typeIs (X5 ?_)));rw[Xf (by decide)];refine X0 (Z7 ?_);refine X5 ⟨_,rfl,i' ?_⟩
  simpa using hs
 ·rw[Xm hs];have ft:items.isEmpty=false:=by
   cases h:items.isEmpty<;>simp_all
  have hm:((items.size:Int)*k)<=(sizeLine:Int)\/k<=0:=by
   by_cases hk:k<=0
   ·exact .inr hk
   ·refine .inl ?_;have e:((k.toNat:Nat):Int)=k:=Int.toNat_of_nonneg (by omega);have:((items.size*k.toNat:Nat):Int)<=(sizeLine:Int):=Int.ofNat_le.mpr hz;rw[Int.natCast_mul,e]at this;exact this
  dsimp only
  by_cases hk:k<=0
  ·rw[Xf (by simp[hk])];have e:k.toNat=0:=by omega
   rw[e]at kr;unfold Builtin.Tuple.tupleExact;exact X0 (Xs (X5 ⟨_,rfl,kr⟩) (show(0:Nat)<=sizeLine from Z1 _))
  ·rw[Xm (by simp[hk,ft])];have hm:=hm.resolve_right hk;have hsl:(sizeLine:Int)=16777216:=by decide
   rw[Xm (by omega)];rw[Xm (by unfold Builtin.Tuple.tupleTooMany;simp;omega)];unfold Builtin.Tuple.tupleExact;exact X0 (Xs (X5 ⟨_,rfl,kr⟩) hsz)
section
variable {X:Cx}{Z:Fx0}{K:PySem.W.Frag}{pn:List Nat}{q qa qb:Bool}{a b c:Ex}{u:Ts}{tg e ea eb:Expr}{st:Stmt}{σ:L2.St}{H:Hp}{L:Ls}{E:En}{pos p p2:Pos}{x:Str}
noncomputable def vz2(K:PySem.W.Frag):R2:=λx y H Q=>∃l k xs,x=.ref l/\y=.int k/\SqT K H l xs/\-(2 ^ 63)<=k/\k<2 ^ 63/\xs.length*k.toNat<=sizeLine/\((xs=[]\/k=1)->Q (.ref l) H)/\∀p,H p=none->Q (.ref p) (upd H p (.tup (List.replicate k.toNat xs).flatten))
theorem op_repT:OpR X (binaryOp .Mult) (vz2 X.K):=by
 intro pins s σ H x y v u Q I rx ry h;obtain⟨l,k,xs,rfl,rfl,hq,h1,h2,hz,q1,q2⟩:=h;cases rx;obtain⟨t,rfl⟩:=ry;obtain⟨aa,r,ht,hl⟩:=I.tuple hq;have af:=r.length;have f0:List.foldl (λx1 x2=>x1++x2) #[] (List.replicate k.toNat aa.toArray)=(List.replicate k.toNat aa).flatten.toArray:=by
  have:=kks aa k.toNat [];rw[List.nil_append]at this;exact this
 have m6:(List.replicate k.toNat xs).flatten.length<=sizeLine:=by rw[qwu,Nat.mul_comm];exact hz
 refine wpAny_binaryOp_repeat_ref (T:="tuple") (U:="int") (by decide) ht.typeIs (λs'=>typeIs_int s' k t) rfl F.fills_int_mul F.slot_int_rmul (show seqRepeat? (Value.type "tuple")=pure (some (Value.builtin "tuple.__mul__"))from rfl) F.slot_int_index.lookup
  (wqu ht ⟨rfl,ht.typeIs,mulT ht h1 h2 (by rw[X6,<-af];exact hz) (λhs=>?_) ?_ ?_⟩)
 ·refine⟨.ref l,H,I,rfl,q1 ?_⟩;rcases hs with hs|hs
  ·left;have:aa=[]:=by simpa using hs
   subst this
   simpa using af
  ·exact .inr hs
 ·rw[f0,X6,<-(r.rep k.toNat).length];exact m6
 ·rw[f0];exact⟨.ref _,_,I.laid (t':=s.toks) (o:=.tup _) (λb o e=>X1 _ e) (Xe _) ⟨m6,_,r.rep k.toNat,IsTupD.new _ _⟩,rfl,q2 _ (I.hok.fresh (Xe _))⟩
def vz5(K:PySem.W.Frag):R2:=λx y H Q=>vz2 K x y H Q\/vv1 K x y H Q
theorem wj9(hK:autoParam (X.K=K) Ŕ):OpR X (binaryOp .Mult) (vz5 K):=by subst hK;exact op_repT.or wja
theorem vwy:Ad2 K (vz5 K) v6:=by
 intro H x y s Q ox oy hf k;cases hx:x.d with
 | tup ds=>
  cases hy:y.d with
  | int n=>
   unfold v6 at hf;rw [show(x.o,x.d).2=x.d from rfl,show(y.o,y.d).2=y.d from rfl,hx,hy]at hf;dsimp only at hf
   split at hf
   ·rename_i hc;cases oq9 hf;obtain⟨l,xs,bs,e3,q3,r3,h3⟩:=J0 ox (.inr hx) (by rw[hx];exact hc.2.2.2);have q3:SqT K H l xs:=by rcases q3 with⟨z,_⟩|⟨_,z⟩;rw[hx]at z;cases z;exact z
    obtain⟨cs,r4,h4⟩:=r3.reps n.toNat;refine .inl ⟨l,n,xs,e3,vq oy hy,q3,hc.1,hc.2.1,by rw[<-r3.len];exact hc.2.2.1,λhs=>?_,λp hp=>?_⟩
    ·refine k ⟨.no,.tup _,.ref l,cs⟩ H rfl rfl ⟨xj,?_,λb hb=>(nomatch hb),Y9,λb hb=>ll9 _ (h3 b (h4 b hb))⟩;show RepL K H true (.tup _) (.ref l) cs;unfold RepL;refine⟨l,xs,rfl,q3,?_⟩;have e:(List.replicate n.toNat xs).flatten=xs:=by
      rcases hs with hs|hs
      ·subst hs;simp
      ·subst hs;simp
     rw[e]at r4;exact r4
    ·exact k ⟨.no,.tup _,.ref p,cs⟩ _ rfl rfl (kkc hp r4 λb hb=>ll9 _ (h3 b (h4 b hb)))
   ·cases hf
  |_=>
   refine .inr (vqd H x y s Q ox oy ?_ k);unfold v6 at hf;rw[show(x.o,x.d).2=x.d from rfl,show(y.o,y.d).2=y.d from rfl,hx,hy]at hf;rw[hx,hy];exact hf
 |_=>
  refine .inr (vqd H x y s Q ox oy ?_ k);unfold v6 at hf;rw[show(x.o,x.d).2=x.d from rfl,hx]at hf;rw[hx];exact hf
end
section
variable {X:Cx}{Z:Fx0}{K:PySem.W.Frag}{pn:List Nat}{q qa qb:Bool}{a b c:Ex}{u:Ts}{tg e ea eb:Expr}{st:Stmt}{σ:L2.St}{H:Hp}{L:Ls}{E:En}{pos p p2 gz:Pos}{x:Str}{cg:List Expr}{k1:Nat}
theorem kjo:∀(xs ys:List D) (i:Nat),(v7 xs ys)[i]?=(xs[i]?).bind λa=>(ys[i]?).map λb=>.tup [a,b]
 |[],_,_=>by simp[v7]
 |_::_,[],i=>by cases i<;>simp[v7]
 |a::x,b::y,0=>by simp[v7]
 |a::x,b::y,i+1=>by rw[v7,List.getElem?_cons_succ,List.getElem?_cons_succ,List.getElem?_cons_succ,kjo x y i]
theorem K5:∀(xs ys:List D),(v7 xs ys).length=min xs.length ys.length
 |[],_=>by simp[v7]
 |_::_,[]=>by simp[v7]
 |a::x,b::y=>by rw[v7,Xb,Xb,Xb,K5 x y];omega
theorem jzd{x:Sl}{es:List D}{l:Addr}{H1:Hp}(hx:x.d=.lst es)(ev:x.v=.ref l):∀H2:Hp,x.let.ok K H2->∃ys cs,SqL K H2 l ys/\RepA K H2 true es ys cs/\∀b∈cs,b∈x.as:=λH2 hok=>by
 obtain⟨a',ys,cs,on,q4,r4,h4,_⟩:=items hok (.inl hx);have:a'=l:=by have:=on.symm.trans ev;exact V.ref.inj this
 subst this;rcases q4 with⟨_,z⟩|⟨z,_⟩
 ·exact⟨ys,cs,z.sq,r4,h4⟩
 ·rw[show x.let.d=D.lst es from hx]at z;cases z
theorem kvp{H2:Hp}{T:Addr}{d1 d2:D}{v1 v2:V}{b1 b2:List Addr}(hT:H2 T=none)(r1:RepL K H2 true d1 v1 b1)(r2:RepL K H2 true d2 v2 b2):RepL K (upd H2 T (.tup [v1,v2])) true (.tup [d1,d2]) (.ref T) (b1++b2):=by
 have sm:k9 H2 (upd H2 T (.tup [v1,v2])):=x5 hT;unfold RepL;refine⟨T,[v1,v2],rfl,.inl (.inl xX),?_⟩;unfold RepA;refine⟨v1,[v2],b1,b2,rfl,rfl,r1.kp (Kp.of_same sm),?_⟩;unfold RepA;refine⟨v2,[],b2,[],rfl,by simp,r2.kp (Kp.of_same sm),?_⟩;unfold RepA;exact⟨rfl,rfl⟩
theorem qw2{b:Ex}(ha:QE X Z q a ea)(hb:QE X Z q b eb)(hg:Gl X "zip")(hm:X.mg "zip"=none)(hK:autoParam (X.K=Z.K) Ŕ)
  (hs:autoParam (starEach [ea,eb] X.env=[(false,eval ea X.env),(false,eval eb X.env)]) Ŕ) (iw:autoParam (starEach [eb] X.env=[(false,eval eb X.env)]) Ŕ)
  (p7:autoParam (starEach [ea,eb] X.env=(false,eval ea X.env)::starEach [eb] X.env) Ŕ):QI X Z q (.Tuple cg k1 gz) (ZV a b) (.Call (.Name "zip" p) [ea,eb] [] pos):=λpins s σ H R I au=>ex8 au λE L r m w hc xc k=>by
 refine(vzq Z.K hg hm (vZ ha (vZ hb wW iw) p7) hK hs iw) pins s σ H R I ?_;refine Wz m w (show bnd (a E) _=some r from hc) xc λE1 s h1 x L1 H1 e1 e2 m1 w1 st sm=>?_
 have s1:Step H L H1 L1:=st.trans Step.drop;refine Wz (q:=q) m1 w1.tail h1 (xc.step s1) λE2 s2 h2 y L2 H2 e3 e4 m2 w2 be fj=>?_
 have hh:=wk4 (T:=[some x]) w1 be w2;have w3:World Z.K H2 (some x::some y::L2):=hh.1;have ef:Step H1 (some x::L1) H2 (some x::some y::L2):=hh.2;obtain⟨ds,hd,rfl⟩:=xw h2;have jm:=w3.head;have ou:=w3.tail.head;have wT:World Z.K H2 (L2++[x.let,y.let].map some):=by
  have wy:World Z.K H2 (some y.let::L2):=w3.tail.tail.consNo (K1 ou) rfl λb hb=>w3.tail.apart b hb
  have wx:World Z.K H2 (some x.let::some y.let::L2):=wy.consNo (K1 jm) rfl λb hb ho=>w3.apart b hb (by
   rw [jQ]at ho ⊢;exact lr9 _ ((List.mem_append.mp ho).elim (λz=>by rw[(Jv y).1]at z;exact nomatch z) id))
  exact World.comm (L:=[some x.let,some y.let]) wx
 have bv:Step H L H2 (some x::some y::L2):=st.trans ef;have sT:Step H L H2 (L2++[x.let,y.let].map some):=by
  refine⟨bv.keep,λb hb=>?_,λb hb=>?_⟩
  ·have:b∈j8 L2:=by simpa [Jv]using hb
   exact bv.own b (by rw[jQ,jQ];exact lr9 _ (lr9 _ this))
  ·have:b∈jY L2\/b∈x.as\/b∈y.as:=by simpa [Jv]using hb
   rcases this with z|z|z
   ·exact bv.frz b (by rw[kQ,kQ];exact lr9 _ (lr9 _ z))
   ·exact kju bv b z
   ·rcases Sl.as_of z with z|z
    ·exact .inr (bv.own b (by rw[jQ,jQ];exact lr9 _ (ll9 _ z)))
    ·exact bv.frz b (by rw[kQ,kQ];exact lr9 _ (ll9 _ z))
 cases hx:x.d with
 | lst es=>
  cases hy:y.d with
  | lst fs=>
   rw [<-e2,<-e4,hx,hy]at hd;have hd:(if es.length<=big then some (v7 es fs)else none)=some ds:=hd
   split at hd
   rotate_left
   ·cases hd
   rename_i af;have af:es.length<=sizeLine:=af;cases oq9 hd;obtain⟨l1,xs,bs,ev,q3,r3,h3,_⟩:=items jm (.inl hx);have q3:LsR Z.K H2 l1 xs:=by rcases q3 with⟨_,z⟩|⟨z,_⟩;exact z;rw[hx]at z;cases z
   obtain⟨l2,ys,cs,ng,q4,r4,h4,_⟩:=items ou (.inl hy);have q4:LsR Z.K H2 l2 ys:=by rcases q4 with⟨_,z⟩|⟨z,_⟩;exact z;rw[hy]at z;cases z
   have kh:=jzd (K:=Z.K) (H1:=H1) hx ev;have lc:=jzd (K:=Z.K) (H1:=H1) hy ng;refine⟨l1,l2,by rw[ev,ng],⟨xs,q3.sq⟩,⟨ys,q4.sq⟩,k _ _ rfl (Itz Z.K l1 l2) [x.let,y.let] L2 H2 m2 wT sT (by rw[K5];omega) (λhq=>q9 (sm hq).1 (fj hq).1) ⟨λt ht=>?_,λi H3 hok hi=>?_,λH3 hok=>?_,λi H3 v H4 d hok qy f7=>?_⟩⟩
   ·simp only[Xh,Xg,or_false]at ht;rcases ht with rfl|rfl<;>rfl
   ·obtain⟨us,n8,a1,a2,_⟩:=kh H3 (hok _ (by simp));obtain⟨vs,ms,b1,b2,_⟩:=lc H3 (hok _ (by simp));have hl:=a2.len;have im:=b2.len;rw[K5]at hi;exact⟨us,vs,us[i]'(by omega),vs[i]'(by omega),a1,b1,X2 (by omega),X2 (by omega)⟩
   ·obtain⟨us,n8,a1,a2,_⟩:=kh H3 (hok _ (by simp));obtain⟨vs,ms,b1,b2,_⟩:=lc H3 (hok _ (by simp));have hl:=a2.len;have im:=b2.len;exact⟨us,vs,a1,b1,by rw[K5];omega⟩
   ·obtain⟨us,n8,a1,a2,a3⟩:=kh H3 (hok _ (by simp));obtain⟨vs,ms,b1,b2,b3⟩:=lc H3 (hok _ (by simp));obtain⟨T,x',y',hT,rfl,rfl,g1,g2⟩:=qy;rw[kjo]at f7;cases he1:es[i]? with
    | none=>rw[he1]at f7;cases f7
    | some d1=>
     cases jl:fs[i]? with
     |none=>rw[he1,jl]at f7;cases f7
     |some d2=>
      rw[he1,jl]at f7;cases oq9 f7;obtain⟨v1,qh,f1,f2,f3⟩:=a2.get he1;obtain⟨v2,jt,j1,j2,j3⟩:=b2.get jl;have e5:v1=x':=by have:=g1 us a1;rw[f1]at this;exact oq9 this
      have e6:v2=y':=by have:=g2 vs b1;rw[j1]at this;exact oq9 this
      subst e5 e6;refine⟨⟨.no,_,.ref T,qh++jt⟩,rfl,rfl,rfl,x5 hT,kvp hT f2 j2,λb hb=>?_⟩;rcases List.mem_append.mp hb with z|z
      ·exact⟨x.let,by simp,a3 b (f3 b z)⟩
      ·exact⟨y.let,by simp,b3 b (j3 b z)⟩
  |_=>rw[<-e2,<-e4,hx,hy]at hd;cases hd
 |_=>rw[<-e2,hx]at hd;cases hd
theorem q_fz{i:Nat}{A:Sm}(h:QS X Z pn A st):QS X Z pn (sFz i A) st:=zw h λD σ H au=>ex7 au λE L r m w hc k=>by
 have hc:A (ZK i E)=some r:=hc;unfold ZK at hc
 split at hc
 ·rename_i o d hE;obtain⟨x,h1,h2,h3,h4⟩:=m.get hE;have m':=m.let h1
  rw[h3]at m';exact⟨_,_,r,m',(w.read h1).tail,hc,k.step ((Step.read h1).trans Step.drop) Pn.refl⟩
 ·exact⟨E,L,r,m,w,hc,k⟩
end
theorem wjy{n:Nat}{i:Int}{j:Nat}(h:_root_.Q.ixN n i=some j):seqIndex? i n=some j/\j<n/\-(n:Int)<=i/\i<n:=by
 have e:L2.ixN n i=some j:=by
  unfold _root_.Q.ixN at h;unfold L2.ixN
  by_cases h0:0<=i
  ·rw[Xf h0]at h ⊢;exact h
  ·rw[Xm h0]at h ⊢;exact h
 exact qx4 e
section
variable {X:Cx}{Z:Fx0}{K:PySem.W.Frag}{pn:List Nat}{q qa qb:Bool}{a b c:Ex}{u:Ts}{tg e ea eb:Expr}{st:Stmt}{σ:L2.St}{H:Hp}{L:Ls}{E:En}{pos p p2 gz:Pos}{x:Str}{cg:List Expr}{k1:Nat}
theorem RepA.setAt{H H':Hp}{l:Addr}{d':D}{cs:List Addr}:∀{n:Nat} {ds:List D} {xs:List V} {as:List Addr} {ys:List D},RepA K H false ds xs as->as.Nodup->ds[n]?=some (.lst ys)->xs[n]?=some (.ref l) ->
  (∀bs:List Addr,l∉bs->(∀b∈bs,b∈as)->Kp H H' bs)->(∀bs,RepL K H false (.lst ys) (.ref l) bs->(∀b∈bs,b∈as)->bs.Nodup->∃es,RepL K H' false d' (.ref l) es/\es.Nodup/\(∀b∈es,b∈bs\/b∈cs))->(∀b∈cs,b∉as) ->
  ∃dw,RepA K H' false (ds.set n d') xs dw/\dw.Nodup/\∀b∈dw,b∈as\/b∈cs
 | _,[],_,_,_,_,_,e,_,_,_,_=>by simp at e
 | 0,d::ds,xs,as,ys,h,nd,e,ex,kp,new,ju=>by
  have e:d=.lst ys:=by simpa using e
  subst e;unfold RepA at h;obtain⟨x,r,bs,es,rfl,rfl,h1,h2⟩:=h;have ex:x=.ref l:=by simpa using ex
  subst ex;rw[X7]at nd;obtain⟨fs,n1,n2,n3⟩:=new bs h1 (λb hb=>ll9 _ hb) nd.1;have hl:l∈bs:=by
   unfold RepL at h1;obtain⟨a,zs,gs,ea,_,q⟩:=h1;cases ea;rcases q with⟨_,rfl⟩|⟨z,_⟩
   ·exact X3
   ·cases z
  have le:l∉es:=λz=>nd.2.2 l hl l z rfl
  refine⟨fs++es,?_,?_,λb hb=>?_⟩
  ·rw[List.set_cons_zero];unfold RepA;exact⟨_,r,fs,es,rfl,rfl,n1,h2.kp (kp es le λb hb=>lr9 _ hb)⟩
  ·rw[X7];refine⟨n2,nd.2.1,λa ha b hb gr=>?_⟩;subst gr;rcases n3 a ha with z|z
   ·exact nd.2.2 a z a hb rfl
   ·exact ju a z (lr9 _ hb)
  ·rcases List.mem_append.mp hb with z|z
   ·exact(n3 b z).imp (λz=>ll9 _ z) id
   ·exact .inl (lr9 _ z)
 | n+1,d::ds,xs,as,ys,h,nd,e,ex,kp,new,ju=>by
  unfold RepA at h;obtain⟨x,r,bs,es,rfl,rfl,h1,h2⟩:=h;rw[X7]at nd;obtain⟨dw,n1,n2,n3⟩:=RepA.setAt (n:=n) h2 nd.2.1 (by simpa using e) (by simpa using ex) (λbs h1 h2=>kp bs h1 λb hb=>lr9 _ (h2 b hb)) (λbs h1 h2 h3=>new bs h1 (λb hb=>lr9 _ (h2 b hb)) h3) (λb hb z=>ju b hb (lr9 _ z));have hl:l∈es:=by
   obtain⟨v,gs,q1,q2,q3⟩:=h2.get (i:=n) (by simpa using e);rw[show r[n]?=some (V.ref l)from by simpa using ex]at q1;cases oq9 q1;unfold RepL at q2;obtain⟨a,zs,hs,ea,_,q⟩:=q2;cases ea;rcases q with⟨_,rfl⟩|⟨z,_⟩
   ·exact q3 l X3
   ·cases z
  have lb:l∉bs:=λz=>nd.2.2 l z l hl rfl
  refine⟨bs++dw,?_,?_,λb hb=>?_⟩
  ·rw[List.set_cons_succ];unfold RepA;exact⟨x,r,bs,dw,rfl,rfl,h1.kp (kp bs lb λb hb=>ll9 _ hb),n1⟩
  ·rw[X7];refine⟨nd.1,n2,λa ha b hb gr=>?_⟩;subst gr;rcases n3 a hb with z|z
   ·exact nd.2.2 a ha a z rfl
   ·exact ju a z (ll9 _ ha)
  ·rcases List.mem_append.mp hb with z|z
   ·exact .inl (ll9 _ z)
   ·exact(n3 b z).imp (λz=>lr9 _ z) id
theorem VV{y:Sl}{ds:List D}(ok:y.ok K H)(hd:y.d=.lst ds)(ho:y.o=.dp):∃l xs bs,y.v=.ref l/\H l=some (.lst xs)/\y.as=l::bs/\y.own=l::bs/\RepA K H false ds xs bs:=by
 obtain⟨l,xs,bs,c1,c2,c3,c4,c5⟩:=kvr ok hd (by rw[ho];exact λz=>nomatch z);rw[ho]at c5;exact⟨l,xs,bs,c1,c2,c3,by unfold Sl.own;rw[ho,c3],c5⟩
theorem vkk {i:Nat} {j:Ex} {ex ej:Expr} {ak ab df:Pos} (hj:QV X Z true j ej) (hc:QE X Z true c e) (hx:PE X ex (J8 i)) (bt:W4 ej) (hK:autoParam (X.K=Z.K) Ŕ)
  (hm:MtR X "list.append" kk8)
  (ax:autoParam (attributeBase (.Subscript ex ej p) "append" X.env (eval (.Subscript ex ej p) X.env)=eval (.Subscript ex ej p) X.env) Ŕ)
  (cb:autoParam (((backTo ab (starEach [e] X.env)).all (λx=>!x.1)&&(backToKw ab (keywordEach [] X.env)).all (λx=>x.1.isSome)
   && decide ([e].length+([]:List Keyword).length+(if([]:List Keyword).isEmpty then 0 else 1)<30))=true) Ŕ)
  (az:autoParam ((ak.endLine==ab.line)=true) Ŕ) (hs:autoParam (starEach [e] X.env=(false,eval e X.env)::starEach [] X.env) Ŕ) (b6:autoParam ((backTo ab (starEach [] X.env)).any (·.1)=false) Ŕ)
  (iy:autoParam (swapsWith (.Call (.Attribute (.Subscript ex ej p) "append" ak) [e] [] ab) none df.line X.env=pure false) Ŕ):
  QS X Z pn (Q3 i j c) (.Expr (.Call (.Attribute (.Subscript ex ej p) "append" ak) [e] [] ab) df):=
 zw (Zq (qk3 Z.K Yj PySem.F.slot_list_append PySem.F.type_list_append hm (ZQ (hK▸kxx) hx hj bt) (vZ hc wW hs) ax cb az hs b6 hK) iy) λD σ H au=>ex7 au λE L r m w ba k=>by
 unfold Q3 at ba;cases h0:E[i]? with
 | none=>rw[h0]at ba;cases ba
 | some s0=>
 cases s0 with
 | none=>rw[h0]at ba;cases ba
 | some s0=>
 obtain ⟨o0,d0⟩:=s0;rw [h0] at ba;cases o0 with
 | no=>cases ba
 | rt=>cases ba
 | dp =>
 cases d0 with
 | lst ds0=>
  rw [Xf (show wvq (some (some (Own.dp,_root_.Q.D.lst ds0)))=true from rfl)]at ba;obtain ⟨x0,a1,a2,a3,a4⟩:=m.get h0;refine ⟨x0.v,a4,?_⟩;rcases jza ba with⟨E1,s,h1,h2⟩|⟨E1,cc,h1,rfl⟩
  rotate_left
  ·exact ⟨E,L,_,m,w,h1,k.xc,λE' s' z=>by cases z⟩
  refine ⟨E,L,_,m,w,h1,(λ_ _ z=>by cases z),λE' s' z x L1 H1 e1 e2 m1 w1 jm fr sr st sm=>?_⟩;injection z with z1 z2;subst z1 z2;cases hE:E1[i]? with
  | none=>rw[hE]at h2;cases h2
  | some s1=>
  cases s1 with
  | none=>rw[hE]at h2;cases h2
  | some s1=>
  obtain ⟨o1,d1⟩:=s1;rw [hE] at h2;cases o1 with
  | no=>cases h2
  | rt=>cases h2
  | dp =>
  cases d1 with
  | lst bq=>
   cases hsi:s.2 with
   | int kk=>
    rw [hsi]at h2;dsimp only at h2;cases li:_root_.Q.ixN bq.length kk with
    | none=>rw[li]at h2;cases h2
    | some n=>
    rw [li]at h2;dsimp only at h2;cases hdn:bq[n]? with
    | none=>rw[hdn]at h2;cases h2
    | some dn=>
    rw [hdn]at h2;cases dn with
    | lst ys0=>
     dsimp only at h2;obtain⟨y,b1,b2,b3,b4⟩:=m1.get hE;have hv:y.v=x0.v:=by rw[a4]at b4;exact(oq9 (oq9 b4)).symm
     obtain⟨la,xs,bs,c1,c2,c3,c4,c5⟩:=VV (w1.ok y (x4 b1)) b3 b2;obtain⟨vn,gs,f1,f2,f3⟩:=c5.get hdn;obtain⟨g1,g2,g3,g4⟩:=wjy li;have hvn:=f2;unfold RepL at hvn;obtain⟨l,zs,ja,evn,hra,hqq⟩:=hvn;subst evn;have jf:H1 l=some (.lst zs):=by rcases hqq with⟨z,_⟩|⟨z,_⟩;exact z;cases z
     rw [<-hv,c1];refine .inl ⟨la,xs,kk,.ref l,rfl,vq jm (e2.trans hsi),.inl (.inl c2),?_,.inl ⟨rfl,zs,.inl (.inl jf)⟩,?_⟩
     ·unfold atI;have:L2.ixN xs.length kk=some n:=by
       rw [<-c5.len];unfold _root_.Q.ixN at li;unfold L2.ixN
       by_cases h0:0<=kk
       ·rw[Xf h0]at li ⊢;exact li
       ·rw[Xm h0]at li ⊢;exact li
      rw [this];exact f1
     have k1:FlP Z pn D σ H1 L1 r:=k.step st Pn.refl;refine W5 (q:=true) m1 w1 h2 k1 λE2 s2 h3 x2 L2 H2 e3 e4 m2 w2 be fj=>?_
     cases hE2:E2[i]? with
     | none=>rw[hE2]at h3;cases h3
     | some s3=>
     cases s3 with
     | none=>rw[hE2]at h3;cases h3
     | some s3=>
     obtain⟨o3,d3⟩:=s3;rw [hE2]at h3;cases o3 with
     | no=>cases h3
     | rt=>cases h3
     | dp =>
     cases d3 with
     | lst ij=>
      dsimp only at h3;cases gm:ij[n]? with
      | none=>rw[gm]at h3;cases h3
      | some dn2=>
      rw [gm]at h3;cases dn2 with
      | lst ys=>
       dsimp only at h3
       split at h3
       rotate_left
       ·cases h3
       rename_i hti;cases oq9 h3;obtain⟨y2,p1,p2,p3,p4⟩:=m2.get hE2;have hv2:y2.v=.ref la:=by
        have:y2.v=y.v:=by rw[b4]at p4;exact(oq9 (oq9 p4)).symm
        rw[this,c1]
       obtain⟨js,xs2,jt,q1,q2,q3,q4,q5⟩:=VV (w2.ok y2 (lc9 _ (x4 p1))) p3 p2;have:js=la:=by rw[hv2]at q1;exact(V.ref.inj q1).symm
       subst this;have i':=(fj rfl).1;have:xs2=xs:=by rw[i' _ _ c2]at q2;cases q2;rfl
       subst this;obtain⟨vn2,gs2,j1,j2,j3⟩:=q5.get gm;have:vn2=.ref l:=by rw[f1]at j1;exact(oq9 j1).symm
       subst this;have im:H2 l=some (.lst zs):=i' _ _ jf;have lin:l∈jt:=by
        unfold RepL at j2;obtain⟨a,zz,hs,ea,_,qq⟩:=j2;cases ea;rcases qq with⟨_,rfl⟩|⟨z,_⟩
        ·exact j3 l X3
        ·cases z
       obtain⟨cs,r1,t3,t4,t5⟩:=wk8 w2.head false λ_=>by rw[show x2.sd=s2 from by simp[Sl.sd,e3,e4]];exact hti.1
       have nd:=w2.nd;rw [jQ,X7]at nd;have yn:(js::jt).Nodup:=by
        obtain⟨A,B,e,_⟩:=jzg p1;have:=nd.2.1;rw[e,jZ,jQ,X7]at this;have:=(List.nodup_append.mp this.2.1).1;rw[q4]at this;exact this
       rw [Yy]at yn;have oin:∀b∈js::jt,b∈j8 L2:=λb hb=>mem_owned.mpr ⟨y2,x4 p1,by rw[q4];exact hb⟩
       have csx:∀b∈cs,b∉js::jt:=λb hb hz=>nd.2.2 b (t4 rfl b hb) b (oin b hz) rfl
       have nlc:l∉cs:=λz=>csx l z (lc9 _ lin)
       have kpg:∀as:List Addr,l∉as->Kp H2 (upd H2 l (.lst (zs++[x2.v]))) as:=λas hn=>by
        have ke:∀a o,H2 a=some o->a≠l->upd H2 l (.lst (zs++[x2.v])) a=some o:=λa o e ne=>by rw[qx ne];exact e
        refine⟨λa xs e=>ke a _ e λz=>?_,λa o u e=>ke a _ e λz=>?_,λa ha o e=>ke a o e λz=>hn (z▸ha)⟩
        ·subst z;rw[im]at e;cases e
        ·subst z;rw[im]at e;cases e
       obtain⟨dw,n1,n2,n3⟩:=RepA.setAt (H':=upd H2 l (.lst (zs++[x2.v]))) (d':=.lst (ys++[s2.2])) (cs:=cs) q5 yn.2 gm f1 (λbs h1 _=>kpg bs h1) (λbs hb io pe=>by
        unfold RepL at hb;obtain⟨a,zz,hs,ea,nu,qq⟩:=hb;cases ea;rcases qq with⟨qq,rfl⟩|⟨z,_⟩
        ·have:zz=zs:=by rw[im]at qq;cases qq;rfl
         subst this;rw[Yy]at pe;refine⟨l::(hs++cs),?_,?_,λb hb=>?_⟩
         ·unfold RepL;refine⟨l,zz++[x2.v],hs++cs,rfl,RepA.snoc (by rw[<-e4];exact r1.kp (kpg cs nlc)) (nu.kp (kpg hs pe.1)),.inl ⟨xX,rfl⟩⟩
         ·rw[Yy,X7];refine⟨λz=>(List.mem_append.mp z).elim pe.1 nlc,pe.2,t5 rfl nd.1,λa ha b hb gr=>?_⟩;subst gr;exact csx a hb (lc9 _ (io a (lc9 _ ha)))
         ·rcases List.mem_cons.mp hb with rfl|hb
          ·exact .inl X3
          ·exact(List.mem_append.mp hb).imp (lc9 _) id
        ·cases z) (λb hb z=>csx b hb (lc9 _ z))
       have lla:js≠l:=λz=>yn.1 (z▸lin)
       refine⟨l,zs,x2.v,rfl,rfl,im,?_,?_⟩
       ·have:ys.length=zs.length:=by
         unfold RepL at j2;obtain⟨a,zz,hs,ea,nu,qq⟩:=j2;cases ea;rcases qq with⟨qq,rfl⟩|⟨z,_⟩
         ·have:zz=zs:=by rw[im]at qq;cases qq;rfl
          subst this;exact nu.len
         ·cases z
        rw[<-this];exact hti.2
       have laas:js∉dw:=λz=>by
        rcases n3 js z with z|z
        ·exact yn.1 z
        ·exact csx js z X3
       obtain⟨w3,s3⟩:=World.writeAt (T:=[some x2]) (L:=L2) (i:=i) (y':=⟨.dp,.lst (ij.set n (.lst (ys++[s2.2]))),y2.v,js::dw⟩) (l:=l) (ob:=.lst (zs++[x2.v])) w2 p1 (by rw[q4];exact lc9 _ lin) (by
        show RepL Z.K _ false _ _ _;unfold RepL;exact⟨js,xs2,dw,hv2,n1,.inl ⟨by rw[qx lla];exact q2,rfl⟩⟩) (List.nodup_cons.mpr ⟨laas,n2⟩) (λa ha=>by
        rcases List.mem_cons.mp (show a∈js::dw from ha)with rfl|ha
        ·exact .inl (by rw[q4];exact X3)
        ·rcases n3 a ha with z|z
         ·exact .inl (by rw[q4];exact lc9 _ z)
         ·exact .inr (by simpa using t4 rfl a z)) (λa ha=>(nomatch ha)) (λa ha z=>(nomatch z))
       refine k1 σ _ _ Pn.refl ?_ w3 (be.trans s3);have mm:=m2.set (x:=⟨.dp,.lst (ij.set n (.lst (ys++[s2.2]))),y2.v,js::dw⟩) i;rw[Jq p4]at mm;exact mm
      |_=>cases h3
     |_=>cases h3
    |_=>cases h2
   |_=>rw[hsi]at h2;cases h2
  |_=>cases h2
 |_=>cases ba
end
section
variable {X:Cx}{Z:Fx0}{q:Bool}{a b c:Ex}{ea eb ec:Expr}{σ:L2.St}{H:Hp}{pos:Pos}
theorem kvc{r r':R2}{f g:D->D->Option D}(ad:Ad2 Z.K r (pu2 f))(pq:Ad2 Z.K r' (pu2 g)){Q:VK}(h:tQ Z q (zQ f g a b c) σ H Q):qv7 r r' (tV Z q a) (tV Z true b) (tV Z true c) σ H Q:=by
 obtain⟨E,L,R,m,w,hc,xc,k⟩:=h;refine wq m w hc xc λE1 s h1 x L1 H1 e1 e2 m1 w1 ok fr sr st sm=>?_
 refine wq m1 w1 h1 (xc.step st) λE2 s2 h2 y L2 H2 e3 e4 m2 w2 ku ri ql be fj=>?_
 have kx:=W3 ok fr be (fj rfl);cases hf:f s.2 s2.2 with
 | none=>rw[hf]at h2;cases h2
 | some d=>
  rw [hf]at h2;cases d with
  | bl kb=>
   refine ad H2 x y (.dp,.bl kb) _ kx.1 ku (by show(f x.d y.d).map _=_;rw[e2,e4,hf];rfl) λz H' zo zd o=>?_
   refine⟨kb,KY o.ok zd,?_⟩;have w3:World Z.K H' L2:=⟨λt ht=>RepO.kp (w2.ok t ht) (Kp.of_same o.same),w2.nd,w2.ds⟩;have ef:Step H L H' L2:=(st.trans be).trans ⟨λb ob h _=>o.same b ob h,λ_ h=>.inl h,λ_ h=>.inl h⟩;have p8:q=true->k9 H H':=λhq=>q9 (sm hq) (q9 (fj rfl) o.same)
   cases kb with
   | false=>
    cases oq9 h2;rw[Xm (by decide)];exact k _ _ rfl ⟨.dp,.bl false,.bl false,[]⟩ L2 H' rfl rfl m2 (w3.consPu (x:=⟨.dp,.bl false,.bl false,[]⟩) (show RepL Z.K H' false (.bl false) (.bl false) []from vj) rfl) (V5 (x:=⟨.dp,.bl false,.bl false,[]⟩) ef (λb hb=>nomatch hb) rfl) λhq=>⟨p8 hq,λ_ z=>(nomatch z)⟩
   | true=>
    rw[Xf rfl];refine wq m2 w3 h2 (xc.step ef) λE3 s3 h3 v L3 H3 e5 e6 m3 w4 ok3 nw sr3 km oh=>?_
    obtain⟨zz,hz,rfl⟩:=xw h3;have ky:=W3 (x:=y) (RepO.kp ku (Kp.of_same o.same)) ri km (oh rfl);refine pq H3 y v zz Q ky.1 ok3 (by show(g y.d v.d).map _=_;rw[e4,e6];exact hz) λt H5 to td ot=>?_
    obtain⟨w5,me⟩:=Kk w4 (ef.trans km) ot (λb hb=>(List.mem_append.mp hb).elim (ky.2 b) (nw b)) (λb hb=>(List.mem_append.mp hb).elim (λz=>ky.1.some (Sl.frz_as z)) λz=>ok3.some (Sl.frz_as z))
     (qvc (W0 (ql.back st) λb hb=>Sl.frz_as hb) (W0 (sr3.back ef) λb hb=>Sl.frz_as hb))
    exact k _ _ rfl t L3 H5 to td m3 w5 me λhq=>⟨q9 (p8 hq) (q9 (oh rfl) ot.same),λb hb=>J5 (q9 (p8 hq) (oh rfl)) (ot.new b hb)⟩
  |_=>cases h2
theorem vv8{op iv:CmpOp}{r r':R2}{f g:D->D->Option D}(ho:OpR X (compareOp op) r)(ad:Ad2 Z.K r (pu2 f))(ib:OpR X (compareOp iv) r')(pq:Ad2 Z.K r' (pu2 g))(ha:QV X Z q a ea)(hb:QV X Z true b eb)(hc:QV X Z true c ec)
  (hm:lastMarks [op,iv] [eb,ec]=false:=by with_unfolding_all rfl):QE X Z q (zQ f g a b c) (.Compare ea [op,iv] [eb,ec] pos):=kZ (vj9 ho ib ha hb hc hm) fun σ H Q h=>kvc ad pq h
theorem kvq {op iv:CmpOp} {r r':R2} {f g:D->D->Option D} (ho:OpR X (compareOp op) r) (ad:Ad2 Z.K r (pu2 f)) (ib:OpR X (compareOp iv) r') (pq:Ad2 Z.K r' (pu2 g)) (ha:QV X Z q a ea) (hb:QV X Z true b eb) (hc:QV X Z true c ec) (hg:∀x y s,pu2 g x y=some s->∃k,s.2=.bl k)
  (hm:lastMarks [op,iv] [eb,ec]=false:=by with_unfolding_all rfl):QT X Z q (_root_.Q.tE (zQ f g a b c)) (.Compare ea [op,iv] [eb,ec] pos):=
 qjy (vj3 ho ib ha hb hc hm) fun σ H Q au=>ex8 au λE L r m w ba xc k=>by
  refine kvc ad pq ?_;have oz:bnd (zQ f g a b c E) (λE x=>val E (truth x.2))=some r:=ba;rcases ww oz with⟨E1,s,h1,h2⟩|⟨E1,cx,h1,h2⟩
  ·refine⟨E,L,_,m,w,h1,(λ_ _ z=>by cases z),λE' s' z x L' H' e1 e2 m' w' st sm=>?_⟩;injection z with z1 z2;subst z1 z2;obtain⟨kk,hk⟩:∃k,s.2=.bl k:=by
    unfold zQ at h1;rcases ww h1 with⟨E2,s2,h3,h4⟩|⟨_,_,_,z⟩
    ·rcases ww h4 with⟨E3,s3,h5,h6⟩|⟨_,_,_,z⟩
     ·split at h6
      ·rcases ww h6 with⟨E4,s4,h7,h8⟩|⟨_,_,_,z⟩
       ·obtain⟨y,hy,z⟩:=xw h8;cases z;exact hg s3 s4 _ hy
       ·cases z
      ·cases oq9 h6;exact⟨false,rfl⟩
      ·cases h6
     ·cases z
    ·cases z
   rw[hk]at h2;cases oq9 h2;exact⟨kk,KY w'.head (e2.trans hk),k _ _ rfl L' H' m' w'.tail (st.trans Step.drop) λhq=>(sm hq).1⟩
  ·exact⟨E,L,_,m,w,h1,xc.map h2,λE' s' z=>by cases z⟩
end
end Q
namespace Q
open PySem PySem.Spec PyProof.Rows L2 L3
theorem kzw{is:List Int}{val:Nat->Int}(hv:∀i (h:i<is.length),val i=is[i]):∀n,n<=is.length->preSum val n=(is.take n).sum
 |0,_=>by simp[preSum]
 |n+1,h=>by
  rw[preSum,kzw hv n (by omega),hv n (by omega),List.take_succ_eq_append_getElem (by omega),List.sum_append];simp
theorem qji{is:List Int}(h:∀i∈is,0<=i/\i<=1000000):0<=is.sum/\is.sum<=1000000*is.length:=by
 induction is with
 |nil=>simp
 |cons a is ih=>
  have h1:=h a X3;have h2:=ih λi hi=>h i (lc9 _ hi)
  rw[List.sum_cons,Xb];omega
noncomputable def wqx(K:PySem.W.Frag):List V->Hp->VK->Prop:=λxs H Q=>∃(p:Addr) (is:List Int),xs=[.ref p]/\SqL K H p (is.map V.int)/\kwp is=true/\is.length<=100000/\Q (.int is.sum) H
theorem vjz{X:Cx}(hc:autoParam (X.calm=true) Ŕ):CallR X (.builtin "sum") (wqx X.K):=by
 intro pins s σ H xs us Q I r h;obtain⟨p,is,rfl,hq,hs,hl,q⟩:=h;obtain⟨u,rfl,ru⟩:=x8 r;cases ru;obtain⟨aa,rv,pl,hz⟩:=I.list hq;have hli:=pl.isList;have em:p<s.heap.objs.size:=by obtain⟨_,e,_⟩:=hli;exact Xd e
 have af:is.length=aa.length:=by rw[<-rv.length,X4]
 have hb:∀i∈is,0<=i/\i<=1000000:=λi hi=>by
  have:=List.all_eq_true.mp hs i hi;rw[Bool.and_eq_true]at this;exact⟨Ya this.1,Ya this.2⟩
 have jp:∀i (h:i<is.length),(λi=>is.getD i 0) i=is[i]:=λi h=>by
  show is.getD i 0=_;rw[X9,X2 h];rfl
 refine call_sum_walk (Yz hli ?_);refine⟨s.heap.objs.size,[s.heap.objs.size,p],[s.heap.objs.size],aa.toArray.size,_,_,λi=>is.getD i 0,rfl,PySem.Walks.list (A:=X.A.in1) (I.ok.hd hc) _ p (Xq em) aa.toArray,
  ⟨⟨_,X8 _ rfl,rfl,rfl⟩,hli.push _⟩,λb fq=>?_,λi v hP=>?_,λj hj=>?_,λh' tk t' hk=>?_⟩
 ·rw[Yn];simp only[Xh,Xg,or_false]at fq;rcases fq with e|e
  ·rw[e];exact Nat.lt_succ_self _
  ·rw[e];exact Z2 em
 ·have hP:aa[i]?=some v:=by simpa using hP
  have hi:i<is.length:=by rw[af];exact(List.getElem?_eq_some_iff.mp hP).1
  obtain⟨u,e1,e2⟩:=rv.get (i:=i) (x:=.int is[i]) (by rw[Xp,X2 hi];rfl);rw[hP]at e1;cases oq9 e1;obtain⟨t,rfl⟩:=e2;exact⟨t,by rw[jp i hi]⟩
 ·have hj:j<is.length:=by rw[af];simpa using hj
  have h1:=hb _ (Ye hj);have h2:=qji (is:=is.take (j+1)) λi hi=>hb i (List.mem_of_mem_take hi)
  rw[jp j hj,kzw jp (j+1) hj];have h3:(is.take (j+1)).length<=100000:=by rw[Yh];omega
  exact⟨⟨by omega,by omega⟩,⟨by omega,by omega⟩⟩
 ·rw[X6,<-af,kzw jp is.length (Xe _),List.take_length];refine⟨.int _,H,I.kept (t':=tk) (h':=h') λb o e=>hk b o (λz=>?_) (X1 _ e),⟨_,rfl⟩,q⟩;exact absurd (Xd e) (by rw[List.mem_singleton.mp z];exact Yd _)
theorem vwu{X:Cx}(K:PySem.W.Frag)(hK:autoParam (X.K=K) Ŕ)(hc:autoParam (X.calm=true) Ŕ):CallR X (.builtin "sum") (wqx K):=by subst hK;exact vjz hc
theorem wkv{K:PySem.W.Frag}:Ad1 K (λv H Q=>wqx K [v] H Q) (pu1 wkd):=by
 intro H x s Q ok hf k;unfold pu1 wkd at hf;dsimp only at hf
 split at hf
 ·rename_i ds e;cases hb:Jz ds with
  | none=>rw[hb]at hf;cases hf
  | some is=>
   rw[hb]at hf;dsimp only at hf
   by_cases hs:kwp is=true/\is.length<=100000
   ·rw[Xf hs]at hf;cases oq9 hf;obtain⟨l,xs,cs,ev,q3,r3,_⟩:=items ok (.inl e);have q3:LsR K H l xs:=by rcases q3 with⟨_,z⟩|⟨z,_⟩;exact z;rw[e]at z;cases z
    exact⟨l,is,by rw[ev],by rw[<-kw7 hb r3];exact q3.sq,hs.1,hs.2,k ⟨.dp,.int _,.int _,[]⟩ H rfl rfl Q9⟩
   ·rw[Xm hs]at hf;cases hf
 ·cases hf
end Q
namespace Q
open PySem PySem.Spec PyProof.Rows L2 L3
theorem vzh{X:Cx}{Z:Fx0}{q:Bool}:QA X Z q [] []:=kx8 wW fun σ H Q au=>ex8 au λE L r m w hc xc k=>by
 cases oq9 hc;exact k _ _ rfl [] L H rfl m w Step.refl λ_=>⟨λ_ _ z=>z,λ_ z=>(nomatch z)⟩
theorem Zz{X:Cx}{Z:Fx0}{q:Bool}{c:Ex}{o e:Expr}{z:Str}{ak ab:Pos}(ho:PE X o (tC (.str z)))(hc:QV X Z q c e)(hK:autoParam (X.K=Z.K) Ŕ)
  (ax:autoParam (attributeBase o "join" X.env (eval o X.env)=eval o X.env) Ŕ)
  (cb:autoParam (((backTo ab (starEach [e] X.env)).all (λx=>!x.1)&&(backToKw ab (keywordEach [] X.env)).all (λx=>x.1.isSome)
   && decide ([e].length+([]:List Keyword).length+(if([]:List Keyword).isEmpty then 0 else 1)<30))=true) Ŕ)
  (az:autoParam ((ak.endLine==ab.line)=true) Ŕ) (hs:autoParam (starEach [e] X.env=(false,eval e X.env)::starEach [] X.env) Ŕ) (b6:autoParam ((backTo ab (starEach [] X.env)).any (·.1)=false) Ŕ):
  QE X Z q (K0 z c) (.Call (.Attribute o "join" ak) [e] [] ab):=
 kZ (qwf PySem.F.plainAttrs_str PySem.F.slot_str_join PySem.F.type_str_join vvy ho (vZ hc wW hs) ax cb az hs b6) fun σ H Q au=>ex8 au λE L r m w ba xc k=>by
  refine⟨?_,?_⟩
  ·rfl
  ·refine wq m w (show bnd (c E) _=some r from ba) xc λE1 s h1 x L1 H1 e1 e2 m1 w1 ok fr sr st sm=>?_
   obtain⟨y,hz,rfl⟩:=xw h1;unfold xW at hz;cases hx:s.2 with
   | lst ds=>
    rw [hx]at hz;dsimp only at hz;cases hp:xK ds with
    | none=>rw[hp]at hz;cases hz
    | some ys=>
     rw[hp]at hz;dsimp only at hz
     by_cases hl:(ys.map (·.length)).sum+ys.length*z.length<=100000
     ·rw[Xf hl]at hz;cases oq9 hz;obtain⟨a,xs,bs,ev,q1,ra⟩:=items ok (.inl (by rw[e2];exact hx));have hq:SqL Z.K H1 a xs:=by
       rcases q1 with⟨_,t⟩|⟨t,_⟩
       ·exact t.sq
       ·rw[e2,hx]at t;cases t
      have ex:=(kjt hp ra.1).1;subst ex;have af:(Txt.join z ys).length<=sizeLine:=joinOk_length (joinOk_of (by omega));refine⟨z,a,ys,rfl,by rw[ev],by rw[hK];exact hq,by omega,?_⟩;exact k _ _ rfl ⟨.dp,.str (Txt.join z ys),.str (Txt.join z ys),[]⟩ L1 H1 rfl rfl m1 (w1.consPu (x:=⟨.dp,.str (Txt.join z ys),.str (Txt.join z ys),[]⟩) (show RepL Z.K H1 false (.str _) (.str _) []from QX af) rfl) (V5 (x:=⟨.dp,.str (Txt.join z ys),.str (Txt.join z ys),[]⟩) st (λb hb=>nomatch hb) rfl) λhq=>⟨sm hq,λ_ t=>(nomatch t)⟩
     ·rw[Xm hl]at hz;cases hz
   |_=>rw[hx]at hz;cases hz
end Q
namespace PySem
section
variable {prog:Program}{w:World}{A:Around}{E:Value->Shared->Prop}{s:Shared}
theorem kkx(hh:A.handled=none)(it t:Addr)(ft:t≠it)(items:Array Value):Draws prog w A it [it,t] items.size (λi v=>items[i]?=some v) (λi h=>h.IsTupleIter it t i/\h.IsTuple t items) where
 live:=λ_ _ st=>let ⟨o,ho,_⟩:=st.1;⟨o,ho⟩
 frame:=λ_ _ _ st hk=>by
  obtain⟨⟨o,ho,r⟩,o2,jh,r2⟩:=st;exact⟨⟨o,hk it (by simp) o ho,r⟩,o2,hk t (by simp) o2 jh,r2⟩
 item:=λi s Q E hi st hQ=>by
  obtain⟨gq,ht⟩:=st;obtain⟨o,ho,hc,hd⟩:=id gq;obtain⟨o2,jh,mz,n2,gm⟩:=id ht;have hx:items[i]?=some items[i]:=by simp[hi]
  unfold Builtin.SmallTypes.nextOf;refine X0 (Y4 (name:=Str.ofString "__next__") gq.typeIs F.slot_tuple_iterator_next (Xz F.slot_tuple_iterator_next gq.typeIs F.entry_tuple_iterator_next ?_ (F.args_tuple_iterator_next_1 _)));show wpAny _ _ (field (.ref it) 0 >>= _) _ _ s;refine X0 (Y3 ho hd (x:=.ref t) rfl ?_);show wpAny _ _ (if(Value.ref t==Value.none)=true then _ else _) _ _ s;rw[Xm (show ¬((Value.ref t==Value.none)=true)from Bool.false_ne_true)];show wpAny _ _ (field (.ref it) 1 >>= _) _ _ s;refine X0 (Y3 ho hd (x:=.int i 0) rfl ?_);show wpAny _ _ (seqItems? (.ref t) >>= _) _ _ s;refine X0 (Yr jh gm ?_);simp only[Y1,hx];refine X0 (Yg ho hd (by simp) (X5 ⟨items[i],rfl,X5 (hQ _ _ s.toks hx ⟨⟨_,Y2 _ ho (Yx (Yw hd _)),(Obj.cls_mapFields ..).trans hc,by rw[Yw hd];simp[rawInt]⟩,o2,(Heap.get?_update_other _ _ (Ne.symm ft)).trans jh,mz,n2,gm⟩ (Y6 ..))⟩))
 done:=λs Q E st hE=>by
  obtain⟨gq,ht⟩:=st;obtain⟨o,ho,hc,hd⟩:=id gq;obtain⟨o2,jh,mz,n2,gm⟩:=id ht;have hx:items[items.size]?=none:=by simp
  unfold Builtin.SmallTypes.nextOf;refine X0 (Y4 (name:=Str.ofString "__next__") gq.typeIs F.slot_tuple_iterator_next (Xz F.slot_tuple_iterator_next gq.typeIs F.entry_tuple_iterator_next ?_ (F.args_tuple_iterator_next_1 _)));show wpAny _ _ (field (.ref it) 0 >>= _) _ _ s;refine X0 (Y3 ho hd (x:=.ref t) rfl ?_);show wpAny _ _ (if(Value.ref t==Value.none)=true then _ else _) _ _ s;rw[Xm (show ¬((Value.ref t==Value.none)=true)from Bool.false_ne_true)];show wpAny _ _ (field (.ref it) 1 >>= _) _ _ s;refine X0 (Y3 ho hd (x:=.int items.size 0) rfl ?_);show wpAny _ _ (seqItems? (.ref t) >>= _) _ _ s;refine X0 (Yr jh gm ?_);simp only[Y1,hx];refine X0 (Z7 (X0 (Yg ho hd (by simp) ?_)));show wpAny _ _ (newExc (.type "StopIteration") [] >>= _) _ _ _;refine X0 ?_;simp only[newExc,newTuple];refine X0 (Xs ?_ (by size_fits));refine X0 (m:=firstArgMember _ _) (wpAny_of_eq (a:=Value.none) (by first|rfl|(simp only[firstArgMember];rfl)) ?_);refine Xs ?_ (by size_fits);simp only[raiseNew];refine X0 (wpAny_handled ?_)
  first|rw[show A.in1.handled=none from hh]|rw[hh]
  refine X0 (X5 (wpAny_throw ?_));exact hE _ _ (((Y6 ..).extBut.push _).push _) ⟨_,X8 _ rfl,rfl⟩
end
end PySem
namespace Q
open PySem PySem.Spec PyProof.Rows L2 L3
section
variable {X:Cx}{Z:Fx0}{K:PySem.W.Frag}{pn:List Nat}{q:Bool}{c:Ex}{e:Expr}{σ:L2.St}{H:Hp}{L:Ls}{E:En}{pos p gz:Pos}{cg:List Expr}{k1:Nat}
theorem kwl{x:Sl}{es:List D}{l:Addr}{H1:Hp}(hx:x.d=.tup es)(ev:x.v=.ref l):∀H2:Hp,x.let.ok K H2->∃ys cs,SqT K H2 l ys/\RepA K H2 true es ys cs/\∀b∈cs,b∈x.as:=λH2 hok=>by
 obtain⟨a',ys,cs,on,q4,r4,h4,_⟩:=items hok (.inr hx);have:a'=l:=by have:=on.symm.trans ev;exact V.ref.inj this
 subst this;rcases q4 with⟨z,_⟩|⟨_,z⟩
 ·rw[show x.let.d=D.tup es from hx]at z;cases z
 ·exact⟨ys,cs,z,r4,h4⟩
end
end Q
namespace Q
open PySem PySem.Spec PyProof.Rows L2 L3
section
variable {X:Cx}{Z:Fx0}{pn:List Nat}{q:Bool}{a b:Ex}{o e:Expr}{ak ab:Pos}
theorem vzb(ha:QV X Z q a o)(hb:QV X Z true b e)(hK:autoParam (X.K=Z.K) Ŕ)
  (ax:autoParam (attributeBase o "index" X.env (eval o X.env)=eval o X.env) Ŕ)
  (cb:autoParam (((backTo ab (starEach [e] X.env)).all (λx=>!x.1)&&(backToKw ab (keywordEach [] X.env)).all (λx=>x.1.isSome)
   && decide ([e].length+([]:List Keyword).length+(if([]:List Keyword).isEmpty then 0 else 1)<30))=true) Ŕ)
  (az:autoParam ((ak.endLine==ab.line)=true) Ŕ) (hs:autoParam (starEach [e] X.env=(false,eval e X.env)::starEach [] X.env) Ŕ) (b6:autoParam ((backTo ab (starEach [] X.env)).any (·.1)=false) Ŕ):
  QE X Z q (vk3 a b) (.Call (.Attribute o "index" ak) [e] [] ab):=
 kZ (qwf PySem.F.plainAttrs_str PySem.F.slot_str_index PySem.F.type_str_index vw0 ha (vZ hb wW hs) ax cb az hs b6) fun σ H Q au=>ex8 au λE L r m w ba xc k=>by
  refine wq m w (show bnd (a E) _=some r from ba) xc λE1 s h1 x L1 H1 e1 e2 m1 w1 ok fr sr st sm=>?_
  by_cases bm:qkg s.2=true
  ·rw [Xf bm]at h1;cases hx:s.2 with
   | str z=>
    have ev:x.v=.str z:=(wY ok (by rw[e2];exact hx)).1;refine⟨by rw[ev];rfl,?_⟩;refine wq m1 w1 h1 (xc.step st) λE2 s2 h2 y L2 H2 e3 e4 m2 w2 ku ri ql be fj=>?_
    obtain⟨d,hz,rfl⟩:=xw h2;rw[hx]at hz;unfold qxl at hz;cases hy:s2.2 with
    | str y'=>
     rw[hy]at hz;dsimp only at hz;cases ho:Builtin.Str.occurrences z y' 0 z.length 1 with
     |nil=>rw[ho]at hz;cases hz
     |cons i j9=>
      rw[ho]at hz;cases oq9 hz;have ey:y.v=.str y':=(wY ku (by rw[e4];exact hy)).1;refine⟨z,y',i,j9,ev,by rw[ey],ho,?_⟩;exact k _ _ rfl ⟨.dp,.int (i:Nat),.int (i:Nat),[]⟩ L2 H2 rfl rfl m2 (w2.consPu (x:=⟨.dp,.int (i:Nat),.int (i:Nat),[]⟩) (show RepL Z.K H2 false (.int _) (.int _) []from zV) rfl) (V5 (x:=⟨.dp,.int (i:Nat),.int (i:Nat),[]⟩) (st.trans be) (λb hb=>nomatch hb) rfl) λhq=>⟨q9 (sm hq) (fj rfl),λ_ t=>(nomatch t)⟩
    |_=>rw[hy]at hz;cases hz
   |_=>rw[hx]at bm;cases bm
  ·rw[Xm bm]at h1;cases h1
end
end Q
namespace Q
open PySem PySem.Spec PyProof.Rows L2 L3
theorem vvp{K:PySem.W.Frag}{H:Hp}{x:Sl}(ok:x.ok K H)(ht:YJ x.sd=true)(nd:x.own.Nodup):∃cs,RepL K H false x.d x.v cs/\(∀a∈cs,a∈x.own)/\cs.Nodup:=by
 obtain⟨o,d,v,as⟩:=x;unfold YJ at ht;rw [Bool.or_eq_true]at ht;rcases ht with ht|ht
 ·unfold v9 at ht;rw[Bool.or_eq_true]at ht;rcases ht with ht|ht
  ·have ho:o=.dp:=by
    have ht:(o==Own.dp)=true:=ht;cases o with
    |dp=>rfl
    |no=>cases ht
    |rt=>cases ht
   subst ho;exact⟨as,ok,λa h=>h,nd⟩
  ·obtain⟨_,r⟩:=RepL.pu (g':=false) (RepO.wk ok) ht;exact⟨[],r,λ_ h=>(nomatch h),Y9⟩
 ·rw[Bool.and_eq_true]at ht;have ho:o=.rt:=by
   have ht:(o==Own.rt)=true:=ht.1;cases o with
   |rt=>rfl
   |no=>cases ht
   |dp=>cases ht
  subst ho;cases d with
  | lst ds=>
   have hp:D.pures ds=true:=ht.2;obtain⟨a,xs,bs,e,r,h,e2⟩:=(show RepR K H (.lst ds) v as from ok);obtain⟨_,r2⟩:=RepA.pu (g':=false) r hp;refine⟨[a],?_,λb hb=>?_,by simp⟩
   ·unfold RepL;exact⟨a,xs,[],e,r2,.inl ⟨h,rfl⟩⟩
   ·rw[List.mem_singleton.mp hb];show a∈as.take 1;rw[e2];exact X3
  |_=>cases ht.2
end Q
namespace Q
open PySem PySem.Spec PyProof.Rows L2 L3
noncomputable def PV(K:PySem.W.Frag)(H:Hp):List Nat->D->V->V->Prop
 |[],_,v,u=>u=v
 |n::p,.tup ds,v,u=>∃a xs x d,v=.ref a/\SqT K H a xs/\xs[n]?=some x/\(ds[n]?=some d/\xs.length=ds.length)/\PV K H p d x u
 |n::p,.lst ds,v,u=>∃a xs x d,v=.ref a/\H a=some (.lst xs)/\xs[n]?=some x/\(ds[n]?=some d/\xs.length=ds.length)/\PV K H p d x u
 |_::_,_,_,_=>False
section
variable {K:PySem.W.Frag}{H:Hp}
theorem PV.snoc:∀{p:List Nat} {n:Nat} {d:D} {v u:V},PV K H (p++[n]) d v u->∃d' w,PV K H p d v w/\PV K H [n] d' w u
 |[],n,d,v,u,h=>⟨d,v,rfl,h⟩
 |m::p,n,.tup ds,v,u,⟨a,xs,x,d,e,q,ex,ed,h⟩=>by
  obtain⟨d',w,h1,h2⟩:=PV.snoc (p:=p) h;exact⟨d',w,⟨a,xs,x,d,e,q,ex,ed,h1⟩,h2⟩
 |m::p,n,.lst ds,v,u,⟨a,xs,x,d,e,q,ex,ed,h⟩=>by
  obtain⟨d',w,h1,h2⟩:=PV.snoc (p:=p) h;exact⟨d',w,⟨a,xs,x,d,e,q,ex,ed,h1⟩,h2⟩
 |_::_,_,.non,_,_,h=>h.elim
 |_::_,_,.bl _,_,_,h=>h.elim
 |_::_,_,.int _,_,_,h=>h.elim
 |_::_,_,.str _,_,_,h=>h.elim
 |_::_,_,.dct _,_,_,h=>h.elim
 |_::_,_,.obj _ _,_,_,h=>h.elim
theorem PV.one{n:Nat}{d:D}{v u:V}(h:PV K H [n] d v u):∃a xs,v=.ref a/\(H a=some (.lst xs)\/SqT K H a xs)/\xs[n]?=some u:=by
 cases d with
 |tup ds=>
  obtain⟨a,xs,x,d,e,q,ex,ed,h⟩:=h;have h:u=x:=h;subst h;exact⟨a,xs,e,.inr q,ex⟩
 |lst ds=>
  obtain⟨a,xs,x,d,e,q,ex,ed,h⟩:=h;have h:u=x:=h;subst h;exact⟨a,xs,e,.inl q,ex⟩
 |_=>exact h.elim
structure Kx (H H':Hp)(as bs:List Addr):Prop where
 tup:∀a xs,H a=some (.tup xs)->H' a=some (.tup xs)
 frz:∀a o u,H a=some (.frz o u)->H' a=some (.frz o u)
 out:∀b∈as,b∉bs->∀ob,H b=some ob->H' b=some ob
theorem Kx.kp{H':Hp}{as bs cs:List Addr}(k:Kx H H' as bs)(h:∀b∈cs,b∈as/\b∉bs):Kp H H' cs:=⟨k.tup,k.frz,λa ha=>k.out a (h a ha).1 (h a ha).2⟩
theorem RepA.hole:∀{n:Nat} {ds:List D} {xs:List V} {as:List Addr} {dn:D},RepA K H false ds xs as->as.Nodup->ds[n]?=some dn->∃x bs,xs[n]?=some x/\RepL K H false dn x bs/\bs.Nodup/\(∀b∈bs,b∈as) /\
  ∀(H':Hp) (sf:D) (d6:List Addr),Kx H H' as bs->RepL K H' false sf x d6->d6.Nodup->(∀b∈as,b∉bs->b∉d6)->∃dw,RepA K H' false (ds.set n sf) xs dw/\dw.Nodup/\∀b∈dw,(b∈as/\b∉bs)\/b∈d6
 | _,[],_,_,_,_,_,e=>by simp at e
 | 0,d::ds,xs,as,dn,h,nd,e=>by
  have e:d=dn:=by simpa using e
  subst e;unfold RepA at h;obtain⟨x,r,bs,es,rfl,rfl,h1,h2⟩:=h;rw[X7]at nd;refine⟨x,bs,rfl,h1,nd.1,λb hb=>ll9 _ hb,λH' sf d6 kx r' mh hd=>?_⟩;have he:∀b∈es,b∈bs++es/\b∉bs:=λb hb=>⟨lr9 _ hb,λz=>nd.2.2 b z b hb rfl⟩
  refine⟨d6++es,?_,?_,λb hb=>?_⟩
  ·rw[List.set_cons_zero];unfold RepA;exact⟨x,r,d6,es,rfl,rfl,r',h2.kp (kx.kp he)⟩
  ·rw[X7];refine⟨mh,nd.2.1,λa ha b hb gr=>?_⟩;subst gr;exact hd a (he a hb).1 (he a hb).2 ha
  ·rcases List.mem_append.mp hb with z|z
   ·exact .inr z
   ·exact .inl (he b z)
 | n+1,d::ds,xs,as,dn,h,nd,e=>by
  unfold RepA at h;obtain⟨x,r,bs,es,rfl,rfl,h1,h2⟩:=h;rw[X7]at nd;obtain⟨y,fs,q1,q2,q3,q4,q5⟩:=RepA.hole (n:=n) h2 nd.2.1 (by simpa using e);have hb:∀b∈bs,b∈bs++es/\b∉fs:=λb hb=>⟨ll9 _ hb,λz=>nd.2.2 b hb b (q4 b z) rfl⟩
  refine⟨y,fs,by simpa using q1,q2,q3,λb hb=>lr9 _ (q4 b hb),λH' sf d6 kx r' mh hd=>?_⟩;obtain⟨dw,a1,a2,a3⟩:=q5 H' sf d6 ⟨kx.tup,kx.frz,λb hb=>kx.out b (lr9 _ hb)⟩ r' mh (λb hb=>hd b (lr9 _ hb));refine⟨bs++dw,?_,?_,λb oj=>?_⟩
  ·rw[List.set_cons_succ];unfold RepA;exact⟨x,r,bs,dw,rfl,rfl,h1.kp (kx.kp hb),a1⟩
  ·rw[X7];refine⟨nd.1,a2,λa ha b oj gr=>?_⟩;subst gr;rcases a3 a oj with z|z
   ·exact nd.2.2 a ha a z.1 rfl
   ·exact hd a (hb a ha).1 (hb a ha).2 z
  ·rcases List.mem_append.mp oj with z|z
   ·exact .inl (hb b z)
   ·exact(a3 b z).imp (λz=>⟨lr9 _ z.1,z.2⟩) id
theorem RepL.hole:∀{p:List Nat} {d d1:D} {v:V} {as:List Addr},RepL K H false d v as->as.Nodup->D.at p d=some d1->∃v1 ic,PV K H p d v v1/\RepL K H false d1 v1 ic/\ic.Nodup/\(∀b∈ic,b∈as) /\
  ∀ (H':Hp) (d':D) (d6:List Addr),Kx H H' as ic->RepL K H' false d' v1 d6->d6.Nodup->(∀b∈as,b∉ic->b∉d6)->∃dw,RepL K H' false (D.put d' p d) v dw/\dw.Nodup/\∀b∈dw,(b∈as/\b∉ic)\/b∈d6
 | [],d,d1,v,as,h,nd,e=>by
  cases oq9 (show some d=some d1 from e);exact⟨v,as,rfl,h,nd,λ_ h=>h,λH' d' d6 kx r' mh hd=>⟨d6,r',mh,λb hb=>.inr hb⟩⟩
 | n::p,.tup ds,d1,v,as,h,nd,e=>by
  unfold D.at at e;cases hn:ds[n]? with
  | none=>rw[hn]at e;cases e
  | some dn=>
   rw[hn]at e;unfold RepL at h;obtain⟨a,xs,e1,sq,ra⟩:=h;obtain⟨x,bs,q1,q2,q3,q4,q5⟩:=RepA.hole ra nd hn;obtain⟨v1,ic,p1,p2,p3,p4,p5⟩:=RepL.hole (p:=p) q2 q3 e;refine⟨v1,ic,⟨a,xs,x,dn,e1,sq,q1,⟨hn,ra.len.symm⟩,p1⟩,p2,p3,λb hb=>q4 b (p4 b hb),λH' d' d6 kx r' mh hd=>?_⟩;obtain⟨cs,c1,c2,c3⟩:=p5 H' d' d6 ⟨kx.tup,kx.frz,λb hb=>kx.out b (q4 b hb)⟩ r' mh (λb hb=>hd b (q4 b hb));obtain⟨dw,a1,a2,a3⟩:=q5 H' _ cs ⟨kx.tup,kx.frz,λb hb hn=>kx.out b hb λz=>hn (p4 b z)⟩ c1 c2 (λb hb hn z=>by
    rcases c3 b z with z|z
    ·exact hn z.1
    ·exact hd b hb (λz=>hn (p4 b z)) z)
   refine⟨dw,?_,a2,λb hb=>?_⟩
   ·unfold D.put;rw[hn];dsimp only;unfold RepL;exact⟨a,xs,e1,Kp.tupT (as:=[]) ⟨kx.tup,kx.frz,λ_ h=>nomatch h⟩ sq,a1⟩
   ·rcases a3 b hb with z|z
    ·exact .inl ⟨z.1,λy=>z.2 (p4 b y)⟩
    ·exact(c3 b z).imp (λz=>⟨q4 b z.1,z.2⟩) id
 | n::p,.lst ds,d1,v,as,h,nd,e=>by
  unfold D.at at e;cases hn:ds[n]? with
  | none=>rw[hn]at e;cases e
  | some dn=>
   rw[hn]at e;unfold RepL at h;obtain⟨a,xs,fs,e1,ra,sq⟩:=h;rcases sq with⟨sq,rfl⟩|⟨z,_⟩
   rotate_left
   ·cases z
   rw[Yy]at nd;obtain⟨x,bs,q1,q2,q3,q4,q5⟩:=RepA.hole ra nd.2 hn;obtain⟨v1,ic,p1,p2,p3,p4,p5⟩:=RepL.hole (p:=p) q2 q3 e;have ha1:a∉ic:=λz=>nd.1 (q4 a (p4 a z))
   refine⟨v1,ic,⟨a,xs,x,dn,e1,sq,q1,⟨hn,ra.len.symm⟩,p1⟩,p2,p3,λb hb=>lc9 _ (q4 b (p4 b hb)),λH' d' d6 kx r' mh hd=>?_⟩;obtain⟨cs,c1,c2,c3⟩:=p5 H' d' d6 ⟨kx.tup,kx.frz,λb hb=>kx.out b (lc9 _ (q4 b hb))⟩ r' mh (λb hb=>hd b (lc9 _ (q4 b hb)));obtain⟨dw,a1,a2,a3⟩:=q5 H' _ cs ⟨kx.tup,kx.frz,λb hb hn=>kx.out b (lc9 _ hb) λz=>hn (p4 b z)⟩ c1 c2 (λb hb hn z=>by
    rcases c3 b z with z|z
    ·exact hn z.1
    ·exact hd b (lc9 _ hb) (λz=>hn (p4 b z)) z)
   have h3:∀b∈dw,(b∈fs/\b∉ic)\/b∈d6:=λb hb=>by
    rcases a3 b hb with z|z
    ·exact .inl ⟨z.1,λy=>z.2 (p4 b y)⟩
    ·exact(c3 b z).imp (λz=>⟨q4 b z.1,z.2⟩) id
   refine⟨a::dw,?_,List.nodup_cons.mpr ⟨λz=>?_,a2⟩,λb hb=>?_⟩
   ·unfold D.put;rw[hn];dsimp only;unfold RepL;exact⟨a,xs,dw,e1,a1,.inl ⟨kx.out a X3 ha1 _ sq,rfl⟩⟩
   ·rcases h3 a z with z|z
    ·exact nd.1 z.1
    ·exact hd a X3 ha1 z
   ·rcases List.mem_cons.mp hb with rfl|hb
    ·exact .inl ⟨X3,ha1⟩
    ·exact(h3 b hb).imp (λz=>⟨lc9 _ z.1,z.2⟩) id
 |_::_,.non,_,_,_,_,_,e=>by cases e
 |_::_,.bl _,_,_,_,_,_,e=>by cases e
 |_::_,.int _,_,_,_,_,_,e=>by cases e
 |_::_,.str _,_,_,_,_,_,e=>by cases e
 |_::_,.dct _,_,_,_,_,_,e=>by cases e
 |_::_,.obj _ _,_,_,_,_,_,e=>by cases e
theorem xq{y:Sl}(h:y.o=.dp):y.own=y.as:=by unfold Sl.own;rw[h]
theorem World.hole{L:Ls}{y:Sl}{p:List Nat}{d1:D}(w:World K H (some y::L))(ho:y.o=.dp)(h:D.at p y.d=some d1):∃y1:Sl,y1.o=.dp/\y1.d=d1/\PV K H p y.d y.v y1.v/\World K H (some y1::L) /\
  ∀ (He:Hp) (Le:Ls) (z:Sl),World K He (some z::Le)->Step H (some y1::L) He (some z::Le)->z.o=.dp->z.v=y1.v->∃y':Sl,y'.o=.dp/\y'.d=D.put z.d p y.d/\y'.v=y.v/\World K He (some y'::Le)/\Step H (some y::L) He (some y'::Le):=by
 have ok:RepL K H false y.d y.v y.as:=by
  have:=w.ok y X3;unfold Sl.ok at this;rw[ho]at this;exact this
 have nd:=w.nd;rw [jQ,xq ho,X7]at nd;have ds:=w.ds;obtain⟨v1,ic,p1,p2,p3,p4,p5⟩:=RepL.hole ok nd.1 h;have al:∀b∈y.as,H b≠none:=λb hb z=>by
  rcases w.own_al (a:=b) (by rw[jQ,xq ho];exact ll9 _ hb)with⟨_,q⟩|⟨_,q⟩|⟨_,q⟩<;>· rw[z]at q;cases q
 refine⟨⟨.dp,d1,v1,ic⟩,rfl,rfl,p1,⟨λx hx=>?_,?_,λa ha=>?_⟩,λHe Le z wz st zo zv=>?_⟩
 ·rcases List.mem_cons.mp hx with e|hx
  ·cases e;exact p2
  ·exact w.ok x (lc9 _ hx)
 ·rw[jQ,X7];exact⟨p3,nd.2.1,λa ha b hb=>nd.2.2 a (p4 a ha) b hb⟩
 ·have ha2:a∈j8 (some y::L):=by
   rw[jQ]at ha ⊢;rcases List.mem_append.mp ha with ha|ha
   ·exact ll9 _ (by rw[xq ho];exact p4 a ha)
   ·exact lr9 _ ha
  have:=ds a ha2;rw[kQ]at this ⊢;intro q;rcases List.mem_append.mp q with q|q
  ·cases q
  ·exact this (lr9 _ q)
 ·have okz:RepL K He false z.d v1 z.as:=by
   have:=wz.ok z X3;unfold Sl.ok at this;rw[zo,zv]at this;exact this
  have ndz:=wz.nd;rw[jQ,xq zo,X7]at ndz;have no1:∀b∈y.as,b∉ic->b∉j8 (some (⟨.dp,d1,v1,ic⟩:Sl)::L):=λb hb hn q=>by
   rw[jQ]at q;rcases List.mem_append.mp q with q|q
   ·exact hn q
   ·exact nd.2.2 b hb b q rfl
  have noz:∀b∈y.as,b∉ic->b∉j8 (some z::Le):=λb hb hn q=>by
   rcases st.own b q with q|q
   ·exact no1 b hb hn q
   ·exact al b hb q
  have nof:∀b∈y.as,b∉ic->b∉jY Le:=λb hb hn q=>by
   rcases st.frz b (by rw[kQ];exact lr9 _ q)with q|q|q
   ·rw[kQ]at q;rcases List.mem_append.mp q with q|q
    ·cases q
    ·exact ds b (by rw[jQ,xq ho];exact ll9 _ hb) (by rw[kQ];exact lr9 _ q)
   ·exact no1 b hb hn q
   ·exact al b hb q
  have tupk:∀a xs,H a=some (.tup xs)->He a=some (.tup xs):=λa xs e=>st.keep a _ e λq=>by
   have q2:a∈j8 (some y::L):=by
    rw[jQ]at q ⊢;exact List.mem_append.mpr ((List.mem_append.mp q).imp (λq=>by rw[xq ho];exact p4 a q) id)
   rcases w.own_al q2 with⟨_,q⟩|⟨_,q⟩|⟨_,q⟩<;>· rw[e]at q;cases q
  have frzk:∀a o u,H a=some (.frz o u)->He a=some (.frz o u):=λa o u e=>st.keep a _ e λq=>by
   have q2:a∈j8 (some y::L):=by
    rw[jQ]at q ⊢;exact List.mem_append.mpr ((List.mem_append.mp q).imp (λq=>by rw[xq ho];exact p4 a q) id)
   rcases w.own_al q2 with⟨_,q⟩|⟨_,q⟩|⟨_,q⟩<;>· rw[e]at q;cases q
  obtain⟨dw,a1,a2,a3⟩:=p5 He z.d z.as ⟨tupk,frzk,λb hb hn ob e=>st.keep b ob e (no1 b hb hn)⟩ okz ndz.1 (λb hb hn q=>noz b hb hn (by rw[jQ,xq zo];exact ll9 _ q));have sub:∀b∈j8 (some z::Le),b∈j8 (some y::L)\/H b=none:=λb hb=>(st.own b hb).imp (λq=>by
   rw[jQ]at q ⊢;exact List.mem_append.mpr ((List.mem_append.mp q).imp (λq=>by rw[xq ho];exact p4 b q) id)) id
  refine⟨⟨.dp,D.put z.d p y.d,y.v,dw⟩,rfl,rfl,rfl,⟨λx hx=>?_,?_,λa ha q=>?_⟩,⟨λa ob e hn=>st.keep a ob e λq=>hn ?_,λa ha=>?_,λa ha=>?_⟩⟩
  ·rcases List.mem_cons.mp hx with e|hx
   ·cases e;exact a1
   ·exact wz.ok x (lc9 _ hx)
  ·rw[jQ,X7];refine⟨a2,ndz.2.1,λa ha b hb gr=>?_⟩;subst gr;rcases a3 a ha with q|q
   ·exact noz a q.1 q.2 (by rw[jQ];exact lr9 _ hb)
   ·exact ndz.2.2 a q a hb rfl
  ·have q:a∈jY Le:=by
    rw[kQ]at q;rcases List.mem_append.mp q with q|q
    ·cases q
    ·exact q
   rw[jQ]at ha;have fz:a∈jY (some z::Le):=by rw[kQ];exact lr9 _ q
   rcases List.mem_append.mp ha with ha|ha
   ·rcases a3 a ha with r|r
    ·exact nof a r.1 r.2 q
    ·exact wz.ds a (by rw[jQ,xq zo];exact ll9 _ r) fz
   ·exact wz.ds a (by rw[jQ];exact lr9 _ ha) fz
  ·rw[jQ]at q ⊢;exact List.mem_append.mpr ((List.mem_append.mp q).imp (λq=>by rw[xq ho];exact p4 a q) id)
  ·rw[jQ]at ha;rcases List.mem_append.mp ha with ha|ha
   ·rcases a3 a ha with q|q
    ·exact .inl (by rw[jQ,xq ho];exact ll9 _ q.1)
    ·exact sub a (by rw[jQ,xq zo];exact ll9 _ q)
   ·exact sub a (by rw[jQ];exact lr9 _ ha)
  ·have q:a∈jY Le:=by
    rw[kQ]at ha;rcases List.mem_append.mp ha with q|q
    ·cases q
    ·exact q
   rcases st.frz a (by rw[kQ];exact lr9 _ q)with r|r|r
   ·refine .inl ?_;rw[kQ]at r ⊢;rcases List.mem_append.mp r with r|r
    ·cases r
    ·exact lr9 _ r
   ·refine .inr (.inl ?_);rw[jQ]at r ⊢;exact List.mem_append.mpr ((List.mem_append.mp r).imp (λq=>by rw[xq ho];exact p4 a q) id)
   ·exact .inr (.inr r)
end
end Q
namespace Q
open PySem PySem.Spec PyProof.Rows L2 L3
abbrev tP(K:PySem.W.Frag)(i:Nat)(p:List Nat):TE:=fun σ H Q=>∃d v u,σ[i]?=some (some v)/\PV K H p d v u/\Q u H
theorem qz2{xs:List V}{n:Nat}{x:V}(h:xs[n]?=some x):atI xs (n:Int)=some x:=by
 have hn:n<xs.length:=(List.getElem?_eq_some_iff.mp h).1;have e:L2.ixN xs.length (n:Int)=some n:=by
  unfold L2.ixN;rw[Xf (Int.natCast_nonneg n)];simp[hn]
 unfold atI;rw[e];exact h
section
variable {X:Cx}{Z:Fx0}{pn:List Nat}{q:Bool}{c:Ex}{e ep:Expr}{i:Nat}{p:List Nat}{pos:Pos}
theorem qw5(K:PySem.W.Frag)(h:PE X e (J8 i)):PE X e (tP K i []):=kZ h fun σ H Q ⟨d,v,u,hv,hu,q⟩=>by
 have hu:u=v:=hu;subst hu;exact⟨u,hv,q⟩
theorem qjx{K:PySem.W.Frag}{z:Int}{j:Nat}{d9:Pos}(n:Nat)(h:PE X e (tP K i p))(bt:W4 (.Constant (.int z) j d9))(hK:autoParam (X.K=K) Ŕ)(hz:autoParam (z=(n:Int)) Ŕ):PE X (.Subscript e (.Constant (.int z) j d9) pos) (tP K i (p++[n])):=
 kZ (ZQ (hK▸kxx) h qk1 bt) fun σ H Q ⟨d,v,u,hv,hu,q⟩=>by
  subst hz;obtain⟨d',w,h1,h2⟩:=hu.snoc;obtain⟨a,xs,e1,sq,ex⟩:=h2.one;refine⟨d,v,w,hv,h1,?_⟩;rcases sq with sq|sq
  ·exact .inl ⟨a,xs,n,u,e1,rfl,.inl (.inl sq),qz2 ex,q⟩
  ·exact .inr (.inl ⟨a,xs,n,u,e1,rfl,sq,qz2 ex,q⟩)
theorem kjs{K:PySem.W.Frag}{H:Hp}{L:Ls}{y:Sl}(w:World K H L)(h:L[i]?=some (some y)):World K H (some y::L.set i none)/\Step H L H (some y::L.set i none):=by
 have wn:World K H (none::L):=⟨λy hy=>w.ok y (by simpa using hy),by simpa using w.nd,by simpa using w.ds⟩;have sn:Step H L H (none::L):=⟨λ_ _ z _=>z,λa z=>.inl (by simpa using z),λa z=>.inl (by simpa using z)⟩;exact⟨wn.perm (jwt h),sn.trans (Step.refl.perm (List.Perm.refl _) (jwt h))⟩
theorem vkf{K:PySem.W.Frag}{H:Hp}{x:Sl}(ok:x.ok K H)(h:x.d.pure=true):RepL K H false x.d x.v []:=(RepL.pu (g':=false) (RepO.wk ok) h).2
theorem vkx{H:Hp}{l:Addr}{xs:List V}{ob:HO}(h:H l=some (.lst xs)){as:List Addr}(hn:l∉as):Kp H (upd H l ob) as:=by
 have ke:∀a o,H a=some o->a≠l->upd H l ob a=some o:=λa o e ne=>by rw[qx ne];exact e
 refine⟨λa xs e=>ke a _ e λz=>?_,λa o u e=>ke a _ e λz=>?_,λa ha o e=>ke a o e λz=>hn (z▸ha)⟩
 ·subst z;rw[h]at e;cases e
 ·subst z;rw[h]at e;cases e
theorem World.app{K:PySem.W.Frag}{H:Hp}{M:Ls}{y x:Sl}{ds:List D}(w:World K H (some y::some x::M))(ho:y.o=.dp)(hd:y.d=.lst ds)(hp:x.d.pure=true):∃l xs,y.v=.ref l/\H l=some (.lst xs)/\xs.length=ds.length /\
  ∃z:Sl,z.o=.dp/\z.d=.lst (ds++[x.d])/\z.v=y.v/\World K (upd H l (.lst (xs++[x.v]))) (some z::M)/\Step H (some y::some x::M) (upd H l (.lst (xs++[x.v]))) (some z::M):=by
 obtain⟨l,xs,bs,c1,c2,c3,c4,c5⟩:=VV (w.ok y X3) hd ho;have nd:=w.nd;rw[jQ,X7,c4,Yy]at nd;refine⟨l,xs,c1,c2,c5.len.symm,⟨.dp,.lst (ds++[x.d]),y.v,l::bs⟩,rfl,rfl,rfl,World.write (T:=[some x]) (M:=M) w (by rw[c4];exact X3) ?_ (List.nodup_cons.mpr nd.1) (λa ha=>.inl (by rw[c4];exact ha)) (λa ha=>nomatch ha) (λa ha z=>nomatch z)⟩;show RepL K _ false _ _ _;unfold RepL;have rx:=vkf (w.ok x (lc9 _ X3)) hp;have hr:=RepA.snoc (rx.kp (vkx (ob:=.lst (xs++[x.v])) c2 (λz=>nomatch z))) (c5.kp (vkx (ob:=.lst (xs++[x.v])) c2 nd.1.1));rw[Xv]at hr;exact⟨l,_,bs,c1,hr,.inl ⟨xX,rfl⟩⟩
theorem World.clr{K:PySem.W.Frag}{H:Hp}{M:Ls}{y:Sl}{ds:List D}(w:World K H (some y::M))(ho:y.o=.dp)(hd:y.d=.lst ds):∃l xs,y.v=.ref l/\H l=some (.lst xs) /\
  ∃z:Sl,z.o=.dp/\z.d=.lst []/\z.v=y.v/\World K (upd H l (.lst [])) (some z::M)/\Step H (some y::M) (upd H l (.lst [])) (some z::M):=by
 obtain⟨l,xs,bs,c1,c2,c3,c4,c5⟩:=VV (w.ok y X3) hd ho;refine⟨l,xs,c1,c2,⟨.dp,.lst [],y.v,[l]⟩,rfl,rfl,rfl,World.write (T:=[]) (M:=M) w (by rw[c4];exact X3) ?_ (by simp[Sl.own]) (λa ha=>.inl ?_) (λa ha=>nomatch ha) (λa ha z=>nomatch z)⟩
 ·show RepL K _ false _ _ _;unfold RepL;exact⟨l,[],[],c1,by unfold RepA;exact⟨rfl,rfl⟩,.inl ⟨xX,rfl⟩⟩
 ·rw[c4];have ha:a∈[l]:=ha;rw[List.mem_singleton.mp ha];exact X3
theorem qv4{K:PySem.W.Frag}{H:Hp}{l:Addr}{xs:List V}(h:H l=some (.lst xs)):tyV K "list" (.ref l) H:=.inl ⟨rfl,xs,.inl (.inl h)⟩
theorem q_pc(hP:PE X ep (tP Z.K i p))(hK:autoParam (X.K=Z.K) Ŕ)(hm:MtR X "list.clear" qvz){ak ab df:Pos}
  (ax:autoParam (attributeBase ep "clear" X.env (eval ep X.env)=eval ep X.env) Ŕ) (az:autoParam ((ak.endLine==ab.line)=true) Ŕ)
  (iy:autoParam (swapsWith (.Call (.Attribute ep "clear" ak) [] [] ab) none df.line X.env=pure false) Ŕ):
  QS X Z pn (sPC i p) (.Expr (.Call (.Attribute ep "clear" ak) [] [] ab) df):=
 zw (Zq (qwe Z.K Yj PySem.F.slot_list_clear PySem.F.type_list_clear hm hP ax az hK) iy) λDe σ H au=>ex7 au λE L r m w ba k=>by
 unfold sPC at ba
 split at ba
 rotate_left
 ·cases ba
 rename_i d hE
 split at ba
 rotate_left
 ·cases ba
 rename_i ds gw;cases oq9 ba;obtain⟨y,a1,a2,a3,a4⟩:=m.get hE;obtain⟨w0,s0⟩:=kjs w a1;obtain⟨y1,b1,b2,b3,b4,b5⟩:=w0.hole a2 (by rw[a3];exact gw);obtain⟨l,xs,c1,c2,z,z1,z2,z3,z4,z5⟩:=World.clr b4 b1 b2;refine⟨y.d,y.v,y1.v,a4,b3,by rw[c1];exact qv4 c2,?_⟩;obtain⟨y',g1,g2,g3,g4,g5⟩:=b5 _ _ z z4 z5 z1 z3;refine⟨l,xs,c1,rfl,c2,?_⟩;have mm:=W1 (i:=i) (x:=y') (s:=(.dp,Q.D.put (.lst []) p d)) (Vq i m) g1 (by rw[g2,z2,a3]);rw[g3,Jq a4,List.set_set]at mm;exact k σ _ _ Pn.refl mm g4.set (s0.trans (g5.trans Step.set))
theorem wvn{u:Option V}:∀{E:En} {σ:L2.St} {L:Ls} (j:Nat),Mt E σ L->Mt (E.set j none) (σ.set j u) (L.set j none):=by
 intro E σ L j m
 induction m generalizing j with
 |nil=>exact .nil
 |un m ih=>cases j with
  |zero=>exact .un m
  |succ j=>exact .un (ih j)
 |cons m ih=>cases j with
  |zero=>exact .un m
  |succ j=>exact .cons (ih j)
theorem World.out1{K:PySem.W.Frag}{H:Hp}{L:Ls}(r:Nat)(w:World K H L):World K H (L.set r none)/\Step H L H (L.set r none):=by
 cases h:L[r]? with
 | none=>
  rw[show L.set r none=L from List.set_eq_of_length_le (by simpa using h)];exact⟨w,Step.refl⟩
 | some q=>
  cases q with
  |none=>
   rw[Jq h];exact⟨w,Step.refl⟩
  |some y=>
   obtain⟨w1,s1⟩:=kjs w h;exact⟨w1.tail,s1.trans Step.drop⟩
theorem qzy(hc:QE X Z q c e):QE X Z q (Qx c) e:=kZ hc fun σ H Q au=>ex8 au λE L r m w hr xc k=>by
 unfold Qx at hr;rcases ww hr with⟨E1,s,h1,h2⟩|⟨E1,cc,h1,h2⟩
 ·refine⟨E,L,_,m,w,h1,(λ_ _ z=>by cases z),λE' s' z x L' H' e1 e2 m' w' st sm=>?_⟩;injection z with z1 z2;subst z1 z2
  split at h2
  rotate_left
  ·cases h2
  rename_i hown;cases oq9 h2;have xn:x.own.Nodup:=by
   have:=w'.nd;rw[jQ]at this;exact(List.nodup_append.mp this).1
  obtain⟨cs,rx,ju,hcn⟩:=vvp w'.head (by unfold Sl.sd;rw[e1,e2];exact hown) xn;have nd:=w'.nd;rw[jQ,X7]at nd;refine k _ _ rfl ⟨.dp,x.d,x.v,cs⟩ L' H' rfl e2 m' ⟨λy hy=>?_,?_,λa ha=>?_⟩ ⟨st.keep,λa ha=>?_,λa ha=>?_⟩ λhq=>⟨(sm hq).1,λb hb=>(sm hq).2 b (ju b hb)⟩
  ·rcases List.mem_cons.mp hy with z|z
   ·cases z;exact rx
   ·exact w'.ok y (lc9 _ z)
  ·rw[jQ,X7];exact⟨hcn,nd.2.1,λa ha b hb=>nd.2.2 a (ju a ha) b hb⟩
  ·have ha2:a∈j8 (some x::L'):=by
    rw[jQ]at ha ⊢;exact List.mem_append.mpr ((List.mem_append.mp ha).imp (ju a) id)
   intro q2;rw[kQ]at q2;refine w'.ds a ha2 ?_;rw[kQ];exact lr9 _ ((List.mem_append.mp q2).elim (λz=>nomatch z) id)
  ·refine st.own a ?_;rw[jQ]at ha ⊢;exact List.mem_append.mpr ((List.mem_append.mp ha).imp (ju a) id)
  ·refine st.frz a ?_;rw[kQ]at ha ⊢;exact lr9 _ ((List.mem_append.mp ha).elim (λz=>nomatch z) id)
 ·exact⟨E,L,_,m,w,h1,xc.map h2,λE' s' z=>by cases z⟩
end
end Q
namespace Q
open PySem PySem.Spec PyProof.Rows L2 L3
theorem qx1{P:Program}{w:PySem.World}{K:PySem.W.Frag}{mg mb:Str->Option Value}{CX:CXT}{k:Nat}{fa a:Addr}{fd:FuncData}{x:Str}{sp:Sp}{s₁:Shared}{vs:List Value}{ns:List Int}
  (KX:K.In s₁.heap) (hns:s₁.heap.Ns mainGlobals mg) (hb:s₁.heap.Ns builtinsNs mb) (hbb:∀x:Str,x≠"__name__"->mb x=bootBuiltins x) (hlim:s₁.heap.NoLimit) (hg:s₁.gens=#[])
  (ha:s₁.heap.get? a=some { cls:=.type "list",data:=.seq vs.toArray }) (hi:IntsAre vs ns) (hl:ns.length<=sizeLine) (hr:Room k callerA)
  (F:∀base:Heap,K.In base->base.Ns mainGlobals mg->FnOk P w K mg base CX k fa fd [x] sp) (qo:∀(s:Shared) (u:Value),BindsTo s fd ⟨[u],[]⟩ [(x,u)])
  (lq:∀H:Hp,wwf H->LsR K H a (ns.map V.int)->sp [.ref a] H (λv _=>v=.bl true) λ_ _ _=>False)
  (hCX:∀H e s',CX [] H s₁ (λ_ _ _=>False) e s'->False):
  codeAny (model P w) callerA (.call (.ref fa) ⟨[.ref a],[]⟩) (λr s'=>r=.ok (.ret (.bool true))/\OldK s₁.heap s'.heap/\s'.os=s₁.os/\AllBare s'.gens) s₁:=by
 have rv:=kwj hi;have lenV:=hi.length;have rl:∀H:Hp,wwf H->LsR K H a (ns.map V.int)->HOk P w H s₁.heap->(∀b,H b≠none->b=a)->(H a≠none->K.lookup a=none) ->
   codeAny (model P w) callerA (.call (.ref fa) ⟨[.ref a],[]⟩) (λr s'=>r=.ok (.ret (.bool true))/\OldK s₁.heap s'.heap/\s'.os=s₁.os/\AllBare s'.gens) s₁:=by
  intro H hO hS hok hA hK;have ji:∀{b:Addr} {o:Obj},s₁.heap.get? b=some o->H b=none->(Kv s₁.heap H).get? b=some o:=λe n=>vjn e n
  have pp:∀{b:Addr} {o:Obj} {es:Array DictEntry} {ep:Nat},s₁.heap.get? b=some o->o.data=.dict es ep->H b=none:=fun {b o es ep} e d=>by
   cases q:H b with
   | none=>rfl
   | some u=>
    have e':b=a:=hA b (by rw[q];simp);subst e';rw[ha]at e;cases e;have d':Data.seq vs.toArray _=Data.dict es ep:=d;cases d'
  have nsK:∀{b:Addr} {m:Str->Option Value},s₁.heap.Ns b m->(Kv s₁.heap H).Ns b m:=fun {b m} ⟨o,es,ep,e,d,r⟩=>⟨o,es,ep,ji e (pp e d),d,r⟩
  have hKb:K.In (Kv s₁.heap H):=λb o e=>ji (KX b o e) (by
   cases q:H b with
   | none=>rfl
   | some u=>
    have e':b=a:=hA b (by rw[q];simp);subst e';rw[hK (by rw[q];simp)]at e;cases e)
  have hM:Mod K mg (Kv s₁.heap H):=⟨hKb,nsK hns,⟨mb,nsK hb,hbb⟩,let ⟨mc,h1,h2⟩:=hlim;⟨mc,nsK h1,h2⟩⟩;have e0:Env0 P w K mg (Kv s₁.heap H) callerA [] s₁ H:=⟨rfl,hM,λb o e=>vvw e,Nat.le_of_eq (qxd _ _),trivial,λb hb=>absurd (show b∈([]:List Addr)from hb) (by simp),hok,.of_eq hg⟩;refine codeAny_mono ((F _ hKb (nsK hns)).run callerA [] s₁ H ⟨[.ref a],[]⟩ [.ref a] [.ref a] _ _ hr e0 (qo s₁ (.ref a)) (.cons rfl .nil) (lq H hO hS)) λr s' h=>?_
  cases r with
  | error e=>exact(hCX H e s' h).elim
  | ok fl=>
   cases fl with
   | next=>exact False.elim h
   | brk=>exact False.elim h
   | cont=>exact False.elim h
   | ret u=>
    obtain⟨v,H',os,bare,un,hok',r',q⟩:=h;have q':v=.bl true:=q;subst q';obtain rfl:u=Value.bool true:=r';refine⟨rfl,OldK.of_keep λb o e=>?_,os,bare⟩;cases q:H b with
    | none=>exact un.keep b o e q (by intro z;exact absurd (show b∈([]:List Addr)from z) (by simp)) (by simp)
    | some u=>
     rcases hO b with z|⟨ob,xs,z⟩
     ·rw[q]at z;cases z
     ·have z2:=un.frzs b ob _ z;obtain⟨e1,_⟩:=hok b _ z;obtain⟨e2,_⟩:=hok' b _ z2;rw[e]at e1;cases e1;exact e2
 cases hk:K.lookup a with
 | some o=>
  have e:=KX a o hk;rw[ha]at e;cases e;refine rl (λ_=>none) (λ_=>.inl rfl) (.inr ⟨vs.toArray,_,hk,by rw[X6,lenV];exact hl,by simpa using rv⟩) (λb u z=>by have z':(none:Option HO)=some u:=z;cases z') (λb z=>absurd rfl z) λz=>absurd rfl z
 | none=>
  refine rl (λb=>if b=a then some (.frz { cls:=.type "list",data:=.seq vs.toArray } (.lst (ns.map V.int)))else none) (λb=>?_) (.inl (.inr ⟨{ cls:=.type "list",data:=.seq vs.toArray },Xf rfl⟩)) (λb u z=>?_) (λb z=>?_) λ_=>hk
  ·by_cases hb:b=a
   ·exact .inr ⟨_,_,Xf hb⟩
   ·exact .inl (Xm hb)
  ·by_cases hb:b=a
   ·have z':=(Xf hb).symm.trans z;cases z';subst hb;exact⟨ha,by rw[X4];exact hl,vs,_,rv,ha⟩
   ·have z':=(Xm hb).symm.trans z;cases z'
  ·by_cases hb:b=a
   ·exact hb
   ·exact absurd (Xm hb) z
@[elab_as_elim] theorem wx5 {P:List Value->Prop}(us:List Value)(e:us.length=1)(h:∀a,P [a]):P us:=by
 cases us with
 |nil=>cases e
 |cons a us=>cases List.eq_nil_of_length_eq_zero (Nat.succ.inj e);exact h a
@[elab_as_elim] theorem wx4 {P:List Value->Prop}(us:List Value)(e:us.length=2)(h:∀a b,P [a,b]):P us:=by
 cases us with
 |nil=>cases e
 |cons a us=>exact wx5 (P:=λl=>P (a::l)) us (Nat.succ.inj e) λb=>h a b
@[elab_as_elim] theorem wx3 {P:List Value->Prop}(us:List Value)(e:us.length=3)(h:∀a b c,P [a,b,c]):P us:=by
 cases us with
 |nil=>cases e
 |cons a us=>exact wx4 (P:=λl=>P (a::l)) us (Nat.succ.inj e) λb c=>h a b c
@[elab_as_elim] theorem wx2 {P:List Value->Prop}(us:List Value)(e:us.length=4)(h:∀a b c d,P [a,b,c,d]):P us:=by
 cases us with
 |nil=>cases e
 |cons a us=>exact wx3 (P:=λl=>P (a::l)) us (Nat.succ.inj e) λb c d=>h a b c d
@[elab_as_elim] theorem wx1 {P:List Value->Prop}(us:List Value)(e:us.length=5)(h:∀a b c d f,P [a,b,c,d,f]):P us:=by
 cases us with
 |nil=>cases e
 |cons a us=>exact wx2 (P:=λl=>P (a::l)) us (Nat.succ.inj e) λb c d f=>h a b c d f
@[elab_as_elim] theorem len6 {P:List Value->Prop}(us:List Value)(e:us.length=6)(h:∀a b c d f g,P [a,b,c,d,f,g]):P us:=by
 cases us with
 |nil=>cases e
 |cons a us=>exact wx1 (P:=λl=>P (a::l)) us (Nat.succ.inj e) λb c d f g=>h a b c d f g
theorem jzm{K:PySem.W.Frag}{H:Hp}{g:Bool}:∀(ns:List Int),RepA K H g (ns.map D.int) (ns.map V.int) []
 |[]=>by unfold RepA;exact⟨rfl,rfl⟩
 |n::ns=>by
  rw[List.map_cons,List.map_cons];unfold RepA;exact⟨_,_,[],[],rfl,rfl,zV,jzm ns⟩
theorem wjn{K:PySem.W.Frag}{mg:Str->Option Value}{f:Fn}{H:Hp}{a:Addr}{ns:List Int}(h:∃E o,f [(.no,.lst (ns.map D.int))]=some (.ok E (o,.bl true)))(hs:LsR K H a (ns.map V.int))(hO:wwf H):
  spF K mg 1 f [.ref a] H (λv _=>v=.bl true) λ_ _ _=>False:=by
 obtain⟨E,o,h⟩:=h;have pw:∃as,RepL K H true (.lst (ns.map D.int)) (.ref a) as/\(∀b∈as,False):=by
  rcases hs with(hs|⟨ob,hs⟩)|hs
  ·rcases hO a with z|⟨_,_,z⟩<;>(rw[hs]at z;cases z)
  ·refine⟨[],?_,λb hb=>nomatch hb⟩;unfold RepL;exact⟨a,ns.map V.int,[],rfl,jzm ns,.inr ⟨rfl,.inl ⟨ob,hs⟩,rfl⟩⟩
  ·refine⟨[],?_,λb hb=>nomatch hb⟩;unfold RepL;exact⟨a,ns.map V.int,[],rfl,jzm ns,.inr ⟨rfl,.inr hs,rfl⟩⟩
 obtain⟨as,r,hn⟩:=pw;refine⟨[⟨.no,.lst (ns.map D.int),.ref a,as⟩],_,rfl,rfl,?_,h,(λE' c z=>by cases z),λE' s z x H' e1 e2 w' st=>?_⟩
 ·exact⟨λx hx=>by rw[oq9 (List.mem_singleton.mp hx)];exact r,by simp[Sl.own],λb hb=>by simp[Sl.own]at hb⟩
 ·injection z with z1 z2;subst z2;exact KY w'.head e2
section
open PySem.W PySem.Calls
theorem walkQ{l:OpenLaw}{n k:Nat}{q:Program}{qQ:List Str}{XP:(Str->Option Value)->Heap->Prop}{YP:PySem.World->Heap->Prop}{d:DefRec}{K:Params->Frag}{f:Fn}{x:Str}
  (hn:l.most=some n) (ma:n<=sizeLine) (hdf:d.params.defaults=[]) (hr:Room k callerA)
  (hY:∀(w:PySem.World) (h:Heap),YP w h->(K w.params).In h)
  (F:∀(w:PySem.World) (mg:Str->Option Value) (fa:Addr) (h:Heap),(K w.params).In h->h.Ns mainGlobals mg->mg d.name=some (.ref fa) ->
   ∃fd:FuncData,(∀(s:Shared) (u:Value),BindsTo s fd ⟨[u],[]⟩ [(x,u)])/\∀base:Heap,(K w.params).In base->base.Ns mainGlobals mg->FnOk l.prog w (K w.params) mg base (CXE l.prog w) k fa fd [x] (spF (K w.params) mg 1 f))
  (lq:∀(ns:List Int),ns.length<=n->(∀i∈ns,Builtin.Int.intBits i<=1048576)->∃E o,f [(.no,.lst (ns.map D.int))]=some (.ok E (o,.bl true))):
  WalkO q qQ XP YP l.row.toRowW d [] (λf vs=>PySem.call f vs):=by
 intro w s0 s1 mg mb G Y fa o pm cd ia dV kV ho hd il hD hmg hg args cf as lx hlay hrd hwl hlo;obtain rfl:dV=.none:=Dflts.none hD hdf;obtain rfl:kV=.none:=Dflts.noKw hD;obtain⟨a,vs,ns,rfl,rfl,hobj,qg,af⟩:=Att.script_of hn lx hwl;have qi:=qjb hlay;have KX:=hY w _ Y;obtain⟨fd,hb,hF⟩:=F w mg fa _ KX G.T.g hmg;refine enter_call (codeAny_mono (qx1 KX G.T.g G.T.b G.T.builtins G.T.nolimit hg hobj qg (Xw af ma) hr hF hb (λH hO hS=>wjn (lq ns af qi) hS hO) (λ_ _ _ ⟨_,_,_,_,_,_,_,_,_,_,_,_,_,_,_,z⟩=>z)) λr s' hq=>?_);obtain⟨rfl,h2,h3,h4⟩:=hq;exact⟨.inl ⟨.bool true,.bool true,[],rfl,λ_=>rfl,.bool true,Att.post_true l _,λ_=>⟨List.Pairwise.nil,λ_ hm=>(nomatch hm)⟩⟩,h2,h3,h4⟩
end
end Q
namespace Q
open PySem PySem.Spec PyProof.Rows L2 L3
section
variable {P:Program}{w:PySem.World}{K:PySem.W.Frag}{mg:Str->Option Value}{base h:Heap}{x:Str}{st:Stmt}{ps:List Str}{k:Nat}{sp:Sp}
noncomputable def Gf(K:PySem.W.Frag)(x:Str)(st:Stmt):Prop:=∃(f:Addr) (oc:Value) (od:Option Addr) (kV dc pm:Value) (an:Option Addr) (cd ct:Value) (sl:Array (Option Value)),PySem.W.nsIn K mainGlobals x=some (some (.ref f))/\K.lookup f=some ⟨oc,od,.func (PySem.W.fnOf x x (QJ st) (Q4 st) (k4 st) .none kV dc pm an cd ct),sl⟩/\PySem.W.codeIn K cd x=true/\PySem.W.keepIn K (.ref f)=true
theorem Gf.mk{f:Addr}{oc:Value}{od:Option Addr}{kV dc pm:Value}{an:Option Addr}{cd ct:Value}{sl:Array (Option Value)}(a:PySem.W.nsIn K mainGlobals x=some (some (.ref f)))(l:K.lookup f=some ⟨oc,od,.func (PySem.W.fnOf x x (QJ st) (Q4 st) (k4 st) .none kV dc pm an cd ct),sl⟩)(c:PySem.W.codeIn K cd x=true)(k:PySem.W.keepIn K (.ref f)=true):Gf K x st:=⟨f,oc,od,kV,dc,pm,an,cd,ct,sl,a,l,c,k⟩
theorem Gf.d(g:Gf K x st)(X:K.In h)(G:h.Ns mainGlobals mg)(ok:∀{f:Addr} {fd:FuncData},Fun K x x st f fd->FnOk P w K mg base (CXE P w) k f fd ps sp)
  (hb:∀(kV ia pm:Value) (an:Option Addr) (b8 ct:Value) (us:List Value),us.length=ps.length->bindArgs (PySem.W.fnOf x x (QJ st) (Q4 st) (k4 st) .none kV ia pm an b8 ct) ⟨us,[]⟩=pure (ps.zip us):=by
   intro _ _ _ _ _ _ us hl
   first
   |exact wx5 us hl λ_=>rfl
   |exact wx4 us hl λ_ _=>rfl
   |exact wx3 us hl λ_ _ _=>rfl
   |exact wx2 us hl λ_ _ _ _=>rfl
   |exact wx1 us hl λ_ _ _ _ _=>rfl
   |exact len6 us hl λ_ _ _ _ _ _=>rfl):k7 P w K mg base k x ps sp:=by
 obtain⟨f,oc,od,kV,dc,pm,an,cd,ct,sl,a,l,c,kp⟩:=g;exact⟨f,_,ok (qxg l c kp),(qxg l c kp).binds hb,kp,Yq X G a⟩
theorem Gf.law{fa:Addr}{y:Str}(g:Gf K "law" st)(X:K.In h)(G:h.Ns mainGlobals mg)(hfa:mg "law"=some (.ref fa))(ok:∀{base:Heap} {f:Addr} {fd:FuncData},Fun K "law" "law" st f fd->FnOk P w K mg base (CXE P w) k f fd [y] sp)
  (hb:∀(kV ia pm:Value) (an:Option Addr) (b8 ct:Value) (s:Shared) (v:Value),BindsTo s (PySem.W.fnOf "law" "law" (QJ st) (Q4 st) (k4 st) .none kV ia pm an b8 ct) ⟨[v],[]⟩ [(y,v)]:=by
   intros
   exact .of_eq rfl):
  ∃fd:FuncData,(∀(s:Shared) (v:Value),BindsTo s fd ⟨[v],[]⟩ [(y,v)])/\∀base:Heap,K.In base->base.Ns mainGlobals mg->FnOk P w K mg base (CXE P w) k fa fd [y] sp:=by
 obtain⟨f,oc,od,kV,dc,pm,an,cd,ct,sl,a,l,c,kp⟩:=g;have e:=hfa.symm.trans (Yq X G a);cases e;exact⟨_,hb kV dc pm an cd ct,λbase _ _=>ok (qxg l c kp)⟩
end
end Q
namespace Q
open PySem L2
theorem mkS{N P:List Str}{sc:Scope}(h1:autoParam (sc.kind=.function) Ŕ)(h2:autoParam (sc.isCoroutine=false) Ŕ)(h3:autoParam (sc.isGenerator=false) Ŕ)(h4:autoParam (N.Nodup) ŗ)(h5:autoParam (N.take P.length=P) Ŕ)(h6:autoParam (∀x∈P,sc.names.lookup x=some .local\/sc.names.lookup x=some .cell) ŗ)(h7:autoParam (∀y∈sc.names,y.2≠.free) ŗ):FnScope N P sc:=⟨h1,h2,h3,h4,h5,h6,h7⟩
end Q
namespace Q
open PySem PySem.Spec PyProof.Rows L2 L3
section
variable {X:Cx}{Z:Fx0}{pn:List Nat}{q qa:Bool}{a b c:Ex}{e ea eb:Expr}{pos p:Pos}
theorem kI{z:Int}{j}:QE X Z true (cC (.int z)) (.Constant (.int z) j p):=q_C qk1 λ_=>zV
theorem ki{z:Int}{j}:QV X Z true (vE (cC (.int z))) (.Constant (.int z) j p):=j4 kI
theorem kN{j}:QE X Z true (cC .non) (.Constant .none j p):=q_C vzv λ_=>qvn
theorem kn{j}:QV X Z true (vE (cC .non)) (.Constant .none j p):=j4 kN
theorem kS{z:Str}{j}(h:autoParam (z.length<=sizeLine) ŕ):QE X Z true (cC (.str z)) (.Constant (.str z) j p):=q_C zJ λ_=>QX h
theorem ks{z:Str}{j}(h:autoParam (z.length<=sizeLine) ŕ):QV X Z true (vE (cC (.str z))) (.Constant (.str z) j p):=j4 (kS h)
theorem vv(i:Nat){x:Str}(hN:autoParam (X.N[i]?=some x) Ŕ)(hv:autoParam (Vis X.env.scope x) ř)(hd:autoParam ((x==("__debug__":Str))=false) ŕ)
  (il:autoParam ((x==("__classdict__":Str))=false) ŕ):QV X Z true (vV i) (.Name x pos):=q_vV (pv i hN hv hd il)
theorem cv(i:Nat){x:Str}(hN:autoParam (X.N[i]?=some x) Ŕ)(hv:autoParam (Vis X.env.scope x) ř)(hd:autoParam ((x==("__debug__":Str))=false) ŕ)
  (il:autoParam ((x==("__classdict__":Str))=false) ŕ):QE X Z true (cV i) (.Name x pos):=q_V (pv i hN hv hd il)
theorem kx(ha:QV X Z qa a ea)(hb:QV X Z true b eb)(hs:W4 eb:=by exact λ_ _=>rfl)(hK:autoParam (X.K=Z.K) Ŕ):QV X Z qa (j7 a b) (.Subscript ea eb pos):=q_ix ha hb hs hK
theorem qA{i:Nat}{y:Str}{d9:Pos}(hN:X.N.Nodup)(h:QE X Z q a ea)(hi:autoParam (X.N[i]?=some y) Ŕ)(hx:autoParam (Loc X.env.scope y) Ś)(hp:autoParam (i∉pn) ŕ)(hs:autoParam (swapsWith ea (some (.Name y d9)) pos.line X.env=pure false) Ŕ)(hf:autoParam (X.fn y=true\/X.env.scope.names.lookup y=some .local) Ř):
  QS X Z pn (jK i a) (.Assign [.Name y d9] ea pos):=wv8 hN hi hx h hp hs hf
theorem gn{i:Nat}{x:Str}(hN:X.N.Nodup)(hi:autoParam (X.N[i]?=some x) Ŕ)(hx:autoParam (Loc X.env.scope x) Ś)(hf:autoParam (X.fn x=true\/X.env.scope.names.lookup x=some .local) Ř):PG X (.Name x pos) (qxf i):=W7 hN hi hx hf
theorem gN{i:Nat}{x:Str}(hN:X.N.Nodup)(hi:autoParam (X.N[i]?=some x) Ŕ)(hx:autoParam (Loc X.env.scope x) Ś)(hf:autoParam (X.fn x=true\/X.env.scope.names.lookup x=some .local) Ř)(hp:autoParam (i∉pn) ŕ):QG X Z pn (.n i) (.Name x pos):=wv4 (W7 hN hi hx hf) hp
theorem qC{k m n:Nat}{x:Str}{ps:List Str}{f:Fn}{cs:List Ex}{es:List Expr}(D:k7 X.prog X.w X.K X.mg X.base k x ps (spF Z.K Z.mg n f))(hr:Room m X.A)(ha:QA X Z q cs (e::es))(g:zj X Z.EX:=by exact Zk)(gh:autoParam (k<=m) ŕ)(hn:autoParam (cs.length=n) Ŕ)(hg:autoParam (Gl X x) Ŕ)(i7:autoParam ((x==("__debug__":Str))=false) ŕ)
  (he:autoParam (starEach (e::es) X.env=(false,eval e X.env)::starEach es X.env) Ŕ) (bt:autoParam ((backTo pos (starEach es X.env)).any (·.1)=false) Ŕ):
  QE X Z q (jx f cs) (.Call (.Name x p) (e::es) [] pos):=vze D (hr.mono gh) g ha hn hg i7 he bt
theorem qF{tg av:Expr}{ss:List Stmt}{it:Ev (List D)}{t:Tg}{B:Sm}(hi:QI X Z q tg it av)(hg:QG X Z pn t tg)(hb:QSs X Z pn B ss)(hp:PassesOwn (model X.prog X.w) X.A X.env X.xe:=by exact wj6 ⟨_,_,rfl,rfl⟩)(hc:autoParam (X.calm=true) Ŕ)(hs:autoParam (∀x,foldedSetIterable av X.env x=pure x) Ŗ):QS X Z pn (vK it t B) (.For tg av ss [] pos):=wv5 hp hc hi hg hb hs
theorem oA(ha:QV X Z qa a ea)(hb:QV X Z true b eb)(hK:autoParam (X.K=Z.K) Ŕ):QE X Z qa (cF2 jq a b) (.BinOp ea .Add eb pos):=vW (wjb hK) wq0 ha hb
theorem oX(ha:QV X Z qa a ea)(hb:QV X Z true b eb)(hK:autoParam (X.K=Z.K) Ŕ):QE X Z qa (cF2 v6 a b) (.BinOp ea .Mult eb pos):=vW (wj9 hK) vwy ha hb
theorem oM(ha:QV X Z qa a ea)(hb:QV X Z true b eb):QE X Z qa (cF2 (pu2 jW) a b) (.BinOp ea .Mod eb pos):=vW wj8 wkx ha hb
theorem qP{i:Nat}{x:Str}{ak ab xp:Pos}(h:QE X Z q c e)(hN:autoParam (X.N[i]?=some x) Ŕ)(hv:autoParam (Vis X.env.scope x) ř)(hd:autoParam ((x==("__debug__":Str))=false) ŕ)
  (il:autoParam ((x==("__classdict__":Str))=false) ŕ) (ax:autoParam (attributeBase (.Name x xp) "append" X.env (eval (.Name x xp) X.env)=eval (.Name x xp) X.env) Ŕ)
  (cb:autoParam (((backTo ab (starEach [e] X.env)).all (λx=>!x.1)&&(backToKw ab (keywordEach [] X.env)).all (λx=>x.1.isSome)
   && decide ([e].length+([]:List Keyword).length+(if([]:List Keyword).isEmpty then 0 else 1)<30))=true) Ŕ)
  (az:autoParam ((ak.endLine==ab.line)=true) Ŕ) (hs:autoParam (starEach [e] X.env=(false,eval e X.env)::starEach [] X.env) Ŕ) (b6:autoParam ((backTo ab (starEach [] X.env)).any (·.1)=false) Ŕ) (hK:autoParam (X.K=Z.K) Ŕ)
  (iy:autoParam (swapsWith (.Call (.Attribute (.Name x xp) "append" ak) [e] [] ab) none pos.line X.env=pure false) Ŕ):
  QS X Z pn (wQ wJ i c) (.Expr (.Call (.Attribute (.Name x xp) "append" ak) [e] [] ab) pos):=wv9 (qk3 Z.K Yj PySem.F.slot_list_append PySem.F.type_list_append jzb (pv i hN hv hd il) (vZ h wW hs) ax cb az hs b6 hK) iy
theorem qL(ha:QV X Z q a ea)(hm:X.mg "len"=none)(hK:autoParam (X.K=Z.K) Ŕ)(hg:autoParam (Gl X "len") Ŕ)(he:autoParam (starEach [ea] X.env=(false,eval ea X.env)::starEach [] X.env) Ŕ)(bt:autoParam ((backTo pos (starEach [] X.env)).any (·.1)=false) Ŕ):QE X Z q (cF1 (pu1 kX) a) (.Call (.Name "len" p) [ea] [] pos):=JV (hK▸vwv X.K) wky ha hm wkr hg (by decide) (by decide) he bt
theorem qT(ha:QV X Z q a ea)(hm:X.mg "tuple"=none)(hK:autoParam (X.K=Z.K) Ŕ)(hg:autoParam (Gl X "tuple") Ŕ)(he:autoParam (starEach [ea] X.env=(false,eval ea X.env)::starEach [] X.env) Ŕ)(bt:autoParam ((backTo pos (starEach [] X.env)).any (·.1)=false) Ŕ):QE X Z q (cF1 Wk a) (.Call (.Name "tuple" p) [ea] [] pos):=zk (qxx hK) vk5 ha hm YK hg (by decide) (by decide) he bt
variable {av fu tg:Expr}{fk:List Expr}{scope:Scope}{it:Ev (List D)}{tt:Tg}{u:Ts}
theorem qm(o:Own)(k:Nat)(R:List Nat)(m:Nat)(N:List Str)(hi:QI X Z q tg it av)
  (hg:N.Nodup->∀cl C s0 H0 fp,QG (lcE X scope N cl C s0 H0 fp Z.EX) Z ((List.range R.length).map (k + ·)) tt tg) (ht:∀cl C s0 H0 fp,PTs (lcE X scope N cl C s0 H0 fp Z.EX) fk (tT Z q u)) (he:∀cl C s0 H0 fp,QE (lcE X scope N cl C s0 H0 fp Z.EX) Z q c fu)
  (hN:autoParam (N.Nodup) ŗ) (gx:zj X Z.EX:=by exact Zk) (top:Jw X:=by exact⟨_,_,rfl,rfl⟩) (hR:autoParam (R.Nodup) ŕ) (hm:autoParam (X.N.length=m) Ŕ) (hr:autoParam (∀j∈R,j<m) ŕ) (hc:autoParam (X.calm=true) Ŕ) (hk:autoParam (scope.kind=.function) Ŕ) (j':autoParam (V3 X.N X.env.scope scope N k R=true) Ŕ) (hs:autoParam (∀x,foldedSetIterable av X.env x=pure x) Ŗ):
  QE X Z q (cLC o k R it tt u c) (.ListComp fu [⟨tg,av,fk,0⟩] scope pos):=wwz N hi (hg hN) ht he gx top hR (hm▸hr) hc hk j' hs
theorem qM{x:Str}{p':Pos}(o:Own)(k:Nat)(R:List Nat)(m:Nat)(N:List Str)(hi:QI X Z q (.Name x p') it av)(he:∀cl C s0 H0 fp,QE (lcE X scope N cl C s0 H0 fp Z.EX) Z q c fu)
  (hN:autoParam (N.Nodup) ŗ) (gx:zj X Z.EX:=by exact Zk) (top:Jw X:=by exact⟨_,_,rfl,rfl⟩) (hR:autoParam (R.Nodup) ŕ) (hm:autoParam (X.N.length=m) Ŕ) (hr:autoParam (∀j∈R,j<m) ŕ) (hc:autoParam (X.calm=true) Ŕ) (hk:autoParam (scope.kind=.function) Ŕ) (j':autoParam (V3 X.N X.env.scope scope N k R=true) Ŕ) (hs:autoParam (∀x,foldedSetIterable av X.env x=pure x) Ŗ)
  (hg:N.Nodup->∀cl C s0 H0 fp,QG (lcE X scope N cl C s0 H0 fp Z.EX) Z ((List.range R.length).map (k + ·)) (.n 0) (.Name x p'):=by exact λh _ _ _ _ _=>wv4 (W7 (i:=0) h rfl (by first|exact Or.inl rfl|exact Or.inr rfl))):
  QE X Z q (cLC o k R it (.n 0) tYes c) (.ListComp fu [⟨.Name x p',av,[],0⟩] scope pos):=wwz N hi (hg hN) (λ_ _ _ _ _=>vv4) he gx top hR (hm▸hr) hc hk j' hs
end
end Q
namespace Q
open PySem PySem.Spec PyProof.Rows L2 L3
section
variable {X:Cx}{Z:Fx0}{pn:List Nat}{q1 q2:Bool}{kc vc:Ex}{e1 e2 o:Expr}{j:Nat}
theorem qvo{K:PySem.W.Frag}{H:Hp}{x:Sl}{k:Int}(ok:x.ok K H)(hd:x.d=.int k):x.v=.int k:=by
 have h:=vkf ok (by rw[hd];rfl);rw[hd]at h;unfold RepL at h;exact h.1
end
end Q
namespace PySem
structure ZA (z TI TO i1 i2:Addr)(f1 f2:List Addr):Prop where
 a1:TI≠z
 a2:TO≠z
 a3:TI≠TO
 a4:i1≠z
 a5:i2≠z
 a6:TI≠i1
 a7:TI≠i2
 a8:TO≠i1
 a9:TO≠i2
 b1:i1≠i2
 c1:z∉f1
 c2:TO∉f1
 c3:i2∉f1
 d1:z∉f2
 d2:TO∉f2
 d3:i1∉f2
section
variable {prog:Program}{w:World}{A:Around}{E:Value->Shared->Prop}{s:Shared}{z TI TO i1 i2:Addr}{f1 f2:List Addr}{n1 n2 k:Nat}{P1 P2:Nat->Value->Prop}{S1 S2:Nat->Heap->Prop}
theorem KZ{h h':Heap}{a:Addr}{f:List Addr}{S:Nat->Heap->Prop}{it n i P}(D:Draws prog w A it f n P S)(hs:Heap.SameBut a h h')(ha:a∉f)(st:S i h):S i h':=D.frame i h h' st λb hb o e=>hs.extBut _ _ (λx=>ha (x▸hb)) e
abbrev ZSt(z TI TO i1 i2:Addr)(S1 S2:Nat->Heap->Prop)(k:Nat)(h:Heap):Prop:=IsZip h z TI TO .none/\IsPair h TI (.ref i1) (.ref i2)/\(∃a b,IsPair h TO a b)/\S1 k h/\S2 k h
theorem vqh{Q:Option Value->Shared->Prop}(ap:ZA z TI TO i1 i2 f1 f2)(D1:Draws prog w A.in1 i1 f1 n1 P1 S1)(D2:Draws prog w A.in1 i2 f2 n2 P2 S2)(st:ZSt z TI TO i1 i2 S1 S2 k s.heap)(h1:k<n1)(h2:k<n2)
  (hQ:∀h' tk x y,P1 k x->P2 k y->IsZip h' z TI TO (rawInt s.heap.objs.size)->IsPair h' TI (.ref i1) (.ref i2)->IsPair h' TO x y->S1 (k+1) h'->S2 (k+1) h'->IsPair h' s.heap.objs.size x y ->
   (∀c o,c≠z->c≠TO->c≠i1->c≠i2->s.heap.get? c=some o->h'.get? c=some o)->Q (some (.ref s.heap.objs.size)) { s with heap:=h',toks:=tk }):wpAny (model prog w) A (pyNext (.ref z)) Q E s:=by
 obtain⟨hz,hTI,⟨a,b,hTO⟩,s1,s2⟩:=st;have hT:s.TypeIs (.ref z) "zip":=⟨_,hz,rfl⟩;unfold pyNext;refine X0 (wpAny_attempt (Y4 (name:=Str.ofString "__next__") hT F.slot_zip_next (Xz F.slot_zip_next hT F.entry_zip_next ?_ (F.args_zip_next_1 _))));show wpAny _ _ (field (.ref z) 2 >>= _) _ _ _;refine X0 (Y3 hz rfl (x:=.bool false) rfl ?_);show wpAny _ _ (field (.ref z) 3 >>= _) _ _ _;refine X0 (Y3 hz rfl (x:=.ref TI) rfl ?_);refine X0 (Yr hTI rfl ?_);show wpAny _ _ (Builtin.SmallTypes.ownedTupleIsFree (.ref z) >>= _) _ _ _;refine X0 ?_;unfold Builtin.SmallTypes.ownedTupleIsFree;refine X0 (Y3 hz rfl (x:=.none) rfl (X5 ?_));simp only[if_true];refine X0 (Z7 ?_);refine X0 (Y3 hz rfl (x:=.ref TO) rfl ?_);refine X0 (wpAny_setField_rec hz (by simp) λg1 z1 e1=>?_);have z1:IsZip g1 z TI TO .ellipsis:=z1;refine X0 ?_;simp only[List.zipIdx_cons,List.zipIdx_nil,List.forIn_cons,List.forIn_nil];refine X0 (X0 (wpAny_onRaise ?_));show wpAny _ _ (Builtin.SmallTypes.nextOf (.ref i1) >>= _) _ _ _;refine X0 (D1.item k { s with heap:=g1 } _ _ h1 (KZ D1 e1 ap.c1 s1) λx g2 t2 px s1' e2=>X5 ?_);have e2:Heap.SameBut i1 g1 g2:=e2;have o2:IsPair g2 TO a b:=e2.extBut _ _ ap.a8 (e1.extBut _ _ ap.a2 hTO);refine X0 (Yr o2 rfl ?_);refine X0 (wpAny_updateSeq_pair o2 λg3 o3 e3=>?_);have o3:IsPair g3 TO x b:=o3;have e3:Heap.SameBut TO g2 g3:=e3;refine X0 (wpAny_letGo (X5 ?_));refine X0 (X0 (wpAny_onRaise ?_));show wpAny _ _ (Builtin.SmallTypes.nextOf (.ref i2) >>= _) _ _ _;refine X0 (D2.item k { s with heap:=g3,toks:=t2 } _ _ h2 (KZ D2 e3 ap.d2 (KZ D2 e2 ap.d3 (KZ D2 e1 ap.d1 s2))) λy g4 t4 py s2' e4=>X5 ?_);have e4:Heap.SameBut i2 g3 g4:=e4;have o4:IsPair g4 TO x b:=e4.extBut _ _ ap.a9 o3;refine X0 (Yr o4 rfl ?_);refine X0 (wpAny_updateSeq_pair o4 λg5 o5 e5=>?_);have o5:IsPair g5 TO x y:=o5;have e5:Heap.SameBut TO g4 g5:=e5;refine X0 (wpAny_letGo (X5 (X5 ?_)));refine X0 (Yr o5 rfl ?_);refine X0 (wpAny_newTuple ?_);have hsz:g5.objs.size=s.heap.objs.size:=by rw[e5.1,e4.1,e3.1,e2.1,e1.1]
 have z5:IsZip g5 z TI TO .ellipsis:=e5.extBut _ _ ap.a2.symm (e4.extBut _ _ ap.a5.symm (e3.extBut _ _ ap.a2.symm (e2.extBut _ _ ap.a4.symm z1)));have keep:∀c o,c≠z->c≠TO->c≠i1->c≠i2->s.heap.get? c=some o->g5.get? c=some o:=λc o c1 c2 c3 c4 e=>e5.extBut _ _ c2 (e4.extBut _ _ c4 (e3.extBut _ _ c2 (e2.extBut _ _ c3 (e1.extBut _ _ c1 e))))
 have r1:S1 (k+1) g5:=KZ D1 e5 ap.c2 (KZ D1 e4 ap.c3 (KZ D1 e3 ap.c2 s1'));have r2:S2 (k+1) g5:=KZ D2 e5 ap.d2 s2';have zl:z<g5.objs.size:=Xd z5;show wpAny _ _ (Builtin.SmallTypes.ownedTupleHandOut (.ref z) (.ref g5.objs.size) >>= _) _ _ _;refine X0 ?_;unfold Builtin.SmallTypes.ownedTupleHandOut;have z6:IsZip (g5.push { cls:=.type "tuple",data:=.seq #[x,y] }) z TI TO .ellipsis:=X1 _ z5;refine X0 (wpAny_setField_rec z6 (by simp) λg7 z7 e7=>?_);have z7:IsZip g7 z TI TO (rawInt g5.objs.size):=z7;refine wpAny_setField_rec z7 (by simp) λg8 z8 e8=>?_
 have z8:IsZip g8 z TI TO (rawInt g5.objs.size):=z8;have up:∀c o,c≠z->g5.get? c=some o->g8.get? c=some o:=λc o c1 e=>e8.extBut _ _ c1 (e7.extBut _ _ c1 (X1 _ e))
 have t8:IsPair g8 g5.objs.size x y:=e8.extBut _ _ (Nat.ne_of_gt zl) (e7.extBut _ _ (Nat.ne_of_gt zl) (X8 _ rfl));rw[hsz]at z8 t8;refine X5 ⟨_,rfl,?_⟩;refine X5 ?_;show Q (some (.ref g5.objs.size)) _;rw[hsz];exact hQ g8 t4 x y px py z8 (up _ _ ap.a1 (keep _ _ ap.a1 ap.a3 ap.a6 ap.a7 hTI)) (up _ _ ap.a2 o5) (D1.frame _ _ _ r1 λb hb o e=>up b o (λq=>ap.c1 (q▸hb)) e) (D2.frame _ _ _ r2 λb hb o e=>up b o (λq=>ap.d1 (q▸hb)) e) t8 λc o c1 c2 c3 c4 e=>up c o c1 (keep c o c1 c2 c3 c4 e)
theorem vx9{Q:Option Value->Shared->Prop}(ap:ZA z TI TO i1 i2 f1 f2)(D1:Draws prog w A.in1 i1 f1 n1 P1 S1)(st:ZSt z TI TO i1 i2 S1 S2 n1 s.heap)
  (hQ:∀h',(∀c o,c≠z->c≠i1->s.heap.get? c=some o->h'.get? c=some o)->Q none { s with heap:=h' }):wpAny (model prog w) A (pyNext (.ref z)) Q E s:=by
 obtain⟨hz,hTI,⟨a,b,hTO⟩,s1,s2⟩:=st;have hT:s.TypeIs (.ref z) "zip":=⟨_,hz,rfl⟩;unfold pyNext;refine X0 (wpAny_attempt (Y4 (name:=Str.ofString "__next__") hT F.slot_zip_next (Xz F.slot_zip_next hT F.entry_zip_next ?_ (F.args_zip_next_1 _))));show wpAny _ _ (field (.ref z) 2 >>= _) _ _ _;refine X0 (Y3 hz rfl (x:=.bool false) rfl ?_);show wpAny _ _ (field (.ref z) 3 >>= _) _ _ _;refine X0 (Y3 hz rfl (x:=.ref TI) rfl ?_);refine X0 (Yr hTI rfl ?_);show wpAny _ _ (Builtin.SmallTypes.ownedTupleIsFree (.ref z) >>= _) _ _ _;refine X0 ?_;unfold Builtin.SmallTypes.ownedTupleIsFree;refine X0 (Y3 hz rfl (x:=.none) rfl (X5 ?_));simp only[if_true];refine X0 (Z7 ?_);refine X0 (Y3 hz rfl (x:=.ref TO) rfl ?_);refine X0 (wpAny_setField_rec hz (by simp) λg1 z1 e1=>?_);have z1:IsZip g1 z TI TO .ellipsis:=z1;refine X0 ?_;simp only[List.zipIdx_cons,List.zipIdx_nil,List.forIn_cons,List.forIn_nil];refine X0 (X0 (wpAny_onRaise ?_));show wpAny _ _ (Builtin.SmallTypes.nextOf (.ref i1) >>= _) _ _ _;refine X0 (D1.done { s with heap:=g1 } _ _ (KZ D1 e1 ap.c1 s1) λg2 ex e2 he=>?_);have e2:Heap.ExtBut i1 g1 g2:=e2;obtain⟨oe,hoe,hce⟩:=he;have z2:IsZip g2 z TI TO .ellipsis:=e2 _ _ ap.a4.symm z1;have hez:ex≠z:=λq=>by subst q;rw[z2]at hoe;cases hoe;simp at hce
 refine wpAny_setField_rec z2 (by simp) λg3 _ e3=>?_
 refine X0 (wpAny_isInstance (T:="StopIteration") (b:=true) ⟨oe,e3.extBut _ _ hez hoe,hce⟩ isSubtype_stop ?_);exact X5 (hQ _ λc o c1 c2 q=>e3.extBut _ _ c1 (e2 _ _ c2 (e1.extBut _ _ c1 q)))
end
abbrev zt1(h:Heap)(t:Addr):Heap:=h.push { cls:=.type "tuple_iterator",data:=.fields #[.ref t,.int 0 0] }
abbrev zt2(h:Heap)(t u:Addr):Heap:=(zt1 h t).push { cls:=.type "tuple_iterator",data:=.fields #[.ref u,.int 0 0] }
abbrev zt3(h:Heap)(t u:Addr):Heap:=(zt2 h t u).push { cls:=.type "tuple",data:=.seq #[.ref h.objs.size,.ref (zt1 h t).objs.size] }
abbrev zt4(h:Heap)(t u:Addr):Heap:=(zt3 h t u).push { cls:=.type "tuple",data:=.seq #[.none,.none] }
abbrev zt5(h:Heap)(t u:Addr):Heap:=(zt4 h t u).push { cls:=.type "zip",data:=.fields #[.none,.bool false,.bool false,.ref (zt2 h t u).objs.size,.ref (zt3 h t u).objs.size] }
theorem vx8(t u:Addr)(xs ys:Array Value):Meets (Builtin.«zip.__new__» ⟨[.type "zip",.ref t,.ref u],[]⟩) (λ_ R s=>s.heap.IsTuple t xs/\s.heap.IsTuple u ys/\R (.ok (.ret (.ref (zt4 s.heap t u).objs.size))) { s with heap:=zt5 s.heap t u }):=
 .of_wp λprog w A R s h=>by
  obtain⟨hp,g,d,tk,os⟩:=s;obtain⟨jf,im,h⟩:=h;have io:=sub_zip;have hL1:Heap.IsTuple (Shared.heap ⟨hp,g,d,tk,os⟩) t xs:=jf;have hL2:Heap.IsTuple (Shared.heap ⟨hp.push { cls:=.type "tuple_iterator",data:=.fields #[.ref t,.int 0 0] },g,d,tk,os⟩) u ys:=by obtain⟨o,ho,r⟩:=im;exact⟨o,X1 _ ho,r⟩
  wp_walk using wpAny_pyIter_tuple hL1,wpAny_pyIter_tuple hL2
  exact⟨_,rfl,h⟩
section
variable {prog:Program}{w:World}{A:Around}{E:Value->Shared->Prop}{s:Shared}
theorem vqf{t u:Addr}{xs ys:Array Value}{Q:Value->Shared->Prop}(h1:s.heap.IsTuple t xs)(h2:s.heap.IsTuple u ys)
  (h:∀h',IsZip h' (s.heap.objs.size+4) (s.heap.objs.size+2) (s.heap.objs.size+3) .none->IsPair h' (s.heap.objs.size+2) (.ref s.heap.objs.size) (.ref (s.heap.objs.size+1))->IsPair h' (s.heap.objs.size+3) .none .none ->
   h'.IsTupleIter s.heap.objs.size t 0->h'.IsTupleIter (s.heap.objs.size+1) u 0->(∀c o,s.heap.get? c=some o->h'.get? c=some o)->Q (.ref (s.heap.objs.size+4)) { s with heap:=h' }):wpAny (model prog w) A (call (.type "zip") [.ref t,.ref u]) Q E s:=by
 refine callType_new F.called_zip (by decide) (F.typeCall_zip_2 _ _) (F.newCall_zip_2 _ _) (λobj=>F.args_object_init_3 obj _ _) F.entry_zip_new (vx8 t u xs ys) ⟨h1,h2,?_⟩;have q1:(zt1 s.heap t).objs.size=s.heap.objs.size+1:=Yn ..;have q2:(zt2 s.heap t u).objs.size=s.heap.objs.size+2:=by rw[Yn,q1]
 have q3:(zt3 s.heap t u).objs.size=s.heap.objs.size+3:=by rw[Yn,q2]
 have q4:(zt4 s.heap t u).objs.size=s.heap.objs.size+4:=by rw[Yn,q3]
 have p5:(zt5 s.heap t u).get? (zt4 s.heap t u).objs.size=some _:=X8 _ rfl;have p4:(zt5 s.heap t u).get? (zt3 s.heap t u).objs.size=some _:=X1 _ (X8 _ rfl);have p3:(zt5 s.heap t u).get? (zt2 s.heap t u).objs.size=some _:=X1 _ (X1 _ (X8 _ rfl));have p2:(zt5 s.heap t u).get? (zt1 s.heap t).objs.size=some _:=X1 _ (X1 _ (X1 _ (X8 _ rfl)));have p1:(zt5 s.heap t u).get? s.heap.objs.size=some _:=X1 _ (X1 _ (X1 _ (X1 _ (X8 _ rfl))));show _/\_;rw[q2,q3,q4]at p5;rw[q1,q2]at p3;rw[q3]at p4;rw[q1]at p2;rw[q4];exact⟨⟨_,p5,rfl⟩,h _ p5 p3 p4 ⟨_,p1,rfl,rfl⟩ ⟨_,p2,rfl,rfl⟩ λc o x=>X1 _ (X1 _ (X1 _ (X1 _ (X1 _ x))))⟩
end
end PySem
namespace Q
open PySem PySem.Spec PyProof.Rows L2 L3
noncomputable def ItZ(K:PySem.W.Frag)(l1 l2:Addr):It:=⟨λi H=>∃xs ys x y,SqT K H l1 xs/\SqT K H l2 ys/\xs[i]?=some x/\ys[i]?=some y,
 λi H v H'=>∃T x y,H T=none/\v=.ref T/\H'=upd H T (.tup [x,y])/\(∀xs,SqT K H l1 xs->xs[i]?=some x)/\∀ys,SqT K H l2 ys->ys[i]?=some y,
 λi H=>∃xs ys,SqT K H l1 xs/\SqT K H l2 ys/\xs.length=i⟩
abbrev ztS(z TI TO i1 i2 l1 l2:Addr)(i:Nat)(h:Heap):Prop:=IsZip h z TI TO .none/\IsPair h TI (.ref i1) (.ref i2)/\(∃a b,IsPair h TO a b)/\h.IsTupleIter i1 l1 i/\h.IsTupleIter i2 l2 i
theorem wqh{n l1 l2:Addr}(h1:l1<n)(h2:l2<n):ZA (n+4) (n+2) (n+3) n (n+1) [n,l1] [n+1,l2]:=by
 constructor<;>simp only[Xh,Xg,or_false,not_or,ne_eq]<;>first|omega|(unfold Addr at *;omega)
theorem vqm{P:Program}{w:PySem.World}{K:PySem.W.Frag}{cg:List Expr}{k1:Nat}{pos:Pos}{z TI TO i1 i2 l1 l2:Addr}(ap:ZA z TI TO i1 i2 [i1,l1] [i2,l2])(n1:l1≠i1)(n2:l2≠i2):
  Turn P w K (.Tuple cg k1 pos) (ItZ K l1 l2) [z,TI,TO,i1,i2] z (ztS z TI TO i1 i2 l1 l2) where
 mem:=by simp
 obj:=λi h st b hb=>by
  obtain⟨h1,h2,⟨a,c,h3⟩,⟨o4,e4,c4,d4⟩,o5,e5,c5,d5⟩:=st;simp only[Xh,Xg,or_false]at hb;rcases hb with rfl|rfl|rfl|rfl|rfl
  ·exact⟨_,h1,λv z=>by cases z⟩
  ·exact⟨_,h2,λv z=>by cases z⟩
  ·exact⟨_,h3,λv z=>by cases z⟩
  ·exact⟨_,e4,λv z=>by rw[d4]at z;cases z⟩
  ·exact⟨_,e5,λv z=>by rw[d5]at z;cases z⟩
 keep:=λi h h' st k=>by
  obtain⟨h1,h2,⟨a,c,h3⟩,⟨o4,e4,c4,d4⟩,o5,e5,c5,d5⟩:=st;exact⟨k _ (by simp) _ h1,k _ (by simp) _ h2,⟨a,c,k _ (by simp) _ h3⟩,⟨o4,k _ (by simp) _ e4,c4,d4⟩,o5,k _ (by simp) _ e5,c5,d5⟩
 item:=by
  intro X hP hw hK hc i pins s σ H E I hf st hg;subst hP hw hK;obtain⟨xs,ys,x,y,q1,q2,hx,hy⟩:=hg;obtain⟨gj,lr,p1,lw⟩:=I.tuple q1;obtain⟨u1,hu1,ru1⟩:=lr.get hx;obtain⟨bu,mi,p2,m6⟩:=I.tuple q2;obtain⟨u2,hu2,ru2⟩:=mi.get hy;obtain⟨t1,t2,⟨a,b,t3⟩,t4,t5⟩:=st;have hh:X.A.in1.handled=none:=by have:=I.ok.hd hc;simpa using this
  refine vqh ap (kkx hh i1 l1 n1 gj.toArray) (kkx hh i2 l2 n2 bu.toArray) ⟨t1,t2,⟨a,b,t3⟩,⟨t4,p1⟩,t5,p2⟩ (by rw[X6];exact(List.getElem?_eq_some_iff.mp hu1).1) (by rw[X6];exact(List.getElem?_eq_some_iff.mp hu2).1) λh1 tk v1 v2 w1 w2 g1 gI g3 g4 g5 gT gk=>?_
  have e1:v1=u1:=by
   have w1:gj[i]?=some v1:=by simpa using w1
   rw[hu1]at w1;exact(oq9 w1).symm
  have e2:v2=u2:=by
   have w2:bu[i]?=some v2:=by simpa using w2
   rw[hu2]at w2;exact(oq9 w2).symm
  subst e1 e2;refine⟨_,rfl,wpAny_letOwnedTupleGo_zip (s:={ s with heap:=h1,toks:=tk }) g1 λh2 f1 sb=>?_⟩;have fT:vJ X pins H s.heap.objs.size:=I.fpOk (Xe _) (I.hok.fresh (Xe _));have nT:∀b∈[z,TI,TO,i1,i2],b≠s.heap.objs.size:=λb hb e=>by
   obtain⟨o,eo⟩:∃o,s.heap.get? b=some o:=by
    simp only[Xh,Xg,or_false]at hb;obtain⟨o4,e4,_⟩:=t4;obtain⟨o5,e5,_⟩:=t5;rcases hb with rfl|rfl|rfl|rfl|rfl
    ·exact⟨_,t1⟩
    ·exact⟨_,t2⟩
    ·exact⟨_,t3⟩
    ·exact⟨_,e4⟩
    ·exact⟨_,e5⟩
   exact absurd (Xd eo) (by rw[e];exact Yd _)
  have kk:∀b o,b∉[z,TO,i1,i2]->s.heap.get? b=some o->h2.get? b=some o:=λb o hb e=>by
   simp only[Xh,Xg,or_false,not_or]at hb;exact(sb.2 b hb.1).trans (gk b o hb.1 hb.2.1 hb.2.2.1 hb.2.2.2 e)
  have I1:L2.Inv X pins σ H { s with heap:=h2,toks:=tk }:=jw8 [z,TO,i1,i2] I kk λb hb=>hf b (by
   simp only[Xh,Xg,or_false]at hb ⊢;rcases hb with h|h|h|h<;>simp[h])
  have nz:s.heap.objs.size≠z:=λe=>nT z (by simp) e.symm
  have I2:=kkn (a:=s.heap.objs.size) (o:=.tup [x,y]) I1 fT.1 fT.2.1 fT.2.2.2.1 fT.2.2.2.2.1 fT.2.2.2.2.2
   (show ObjOk X.prog X.w _ h2 _ (.tup [x,y])from⟨by show(2:Nat)<=sizeLine;decide,[v1,v2],.cons ru1 (.cons ru2 .nil),⟨_,(sb.2 _ nz).trans gT,rfl,rfl,0,rfl⟩⟩)
  refine⟨.ref s.heap.objs.size,_,I2,rfl,⟨_,x,y,fT.1,rfl,rfl,λzs lu=>by rw[I.tuple_inj lu q1];exact hx,λzs lu=>by rw[I.tuple_inj lu q2];exact hy⟩,?_,λb hb=>by rw[qx (nT b hb)];exact(hf b hb).1⟩;obtain⟨⟨o4,e4,c4,d4⟩,_⟩:=g4;obtain⟨⟨o5,e5,c5,d5⟩,_⟩:=g5;exact⟨f1,(sb.2 _ ap.a1).trans gI,⟨v1,v2,(sb.2 _ ap.a2).trans g3⟩,⟨o4,(sb.2 _ ap.a4).trans e4,c4,d4⟩,o5,(sb.2 _ ap.a5).trans e5,c5,d5⟩
 done:=by
  intro X hP hw hK hc i pins s σ H E I hf st hg;subst hP hw hK;obtain⟨xs,ys,q1,q2,hx⟩:=hg;obtain⟨gj,lr,p1,lw⟩:=I.tuple q1;obtain⟨bu,mi,p2,m6⟩:=I.tuple q2;obtain⟨t1,t2,⟨a,b,t3⟩,t4,t5⟩:=st;have jf:=lr.length;have hh:X.A.in1.handled=none:=by have:=I.ok.hd hc;simpa using this
  have hsz:gj.toArray.size=i:=by rw[X6,<-jf];exact hx
  refine vx9 (S2:=λk h=>h.IsTupleIter i2 l2 k/\h.IsTuple l2 bu.toArray) ap (kkx hh i1 l1 n1 gj.toArray) (by rw[hsz];exact⟨t1,t2,⟨a,b,t3⟩,⟨t4,p1⟩,t5,p2⟩) λh' kk=>⟨rfl,?_⟩
  refine jw8 (t':=s.toks) [z,TO,i1,i2] I (λb o hb e=>?_) λb hb=>hf b (by
   simp only[Xh,Xg,or_false]at hb ⊢;rcases hb with h|h|h|h<;>simp[h])
  simp only[Xh,Xg,or_false,not_or]at hb;exact kk b o hb.1 hb.2.2.1 e
 self:=λ_ _ _ _ _ st h=>wpAny_pyIter_zip st.1 h
abbrev wvs(K:PySem.W.Frag)(ta:TA):TI:=fun σ H R=>ta σ H λvs H1=>∃l1 l2,vs=[.ref l1,.ref l2]/\(((∃xs,SqL K H1 l1 xs)/\(∃ys,SqL K H1 l2 ys)/\R (Itz K l1 l2) H1)\/((∃xs,SqT K H1 l1 xs)/\(∃ys,SqT K H1 l2 ys)/\R (ItZ K l1 l2) H1))
section
variable {X:Cx}{p pos gz:Pos}{cg:List Expr}{k1:Nat}
theorem vvh(K:PySem.W.Frag){a b:Expr}{ta:TA}(hg:Gl X "zip")(hm:X.mg "zip"=none)(ha:PA X [a,b] ta)(hK:autoParam (X.K=K) Ŕ)
  (hs:autoParam (starEach [a,b] X.env=[(false,eval a X.env),(false,eval b X.env)]) Ŕ) (iw:autoParam (starEach [b] X.env=[(false,eval b X.env)]) Ŕ):
  PI X (.Tuple cg k1 gz) (.Call (.Name "zip" p) [a,b] [] pos) (wvs K ta):=by
 subst hK;intro pins s σ H R I h;refine Call_ (V4 I hg hm vq9 (Yk (thn (ha pos pins s σ H _ I h) λus s1 ⟨vs,H1,I1,r1,q1⟩=>?_) (by rw[hs,iw]) (by rw[iw];rfl)));obtain⟨l1,l2,rfl,q⟩:=q1;obtain⟨u1,u2,rfl,e1,e2⟩:=qv3 r1;cases e1;cases e2;have fin:∀b∈[s1.heap.objs.size+4,s1.heap.objs.size+2,s1.heap.objs.size+3,s1.heap.objs.size,s1.heap.objs.size+1],vJ X pins H1 b:=λb hb=>by
  have gh:s1.heap.objs.size<=b:=by
   simp only[Xh,Xg,or_false]at hb;rcases hb with rfl|rfl|rfl|rfl|rfl<;>omega
  exact I1.fpOk gh (I1.hok.fresh gh)
 rcases q with⟨⟨xs,q1⟩,⟨ys,q2⟩,q⟩|⟨⟨xs,q1⟩,⟨ys,q2⟩,q⟩
 ·obtain⟨gj,lr,p1,lw⟩:=I1.list q1;obtain⟨bu,mi,p2,m6⟩:=I1.list q2;have lt:∀{l:Addr} {ar:Array Value},s1.heap.IsList l ar->l<s1.heap.objs.size:=λh=>by obtain⟨_,e,_⟩:=h;exact Xd e
  exact call_zip_2 p1.isList p2.isList λh' g1 g2 g3 g4 g5 gs gk=>wpAny_pyIter_zip g1 ⟨_,_,_,_,H1,rfl,I1.kept (t':=s1.toks) gk,qje (zipApart_new (lt p1.isList) (lt p2.isList)),⟨g1,g2,⟨_,_,g3⟩,g4,g5⟩,fin,q⟩
 ·obtain⟨gj,lr,p1,lw⟩:=I1.tuple q1;obtain⟨bu,mi,p2,m6⟩:=I1.tuple q2;have lt:∀{l:Addr} {ar:Array Value},s1.heap.IsTuple l ar->l<s1.heap.objs.size:=λh=>by obtain⟨_,e,_⟩:=h;exact Xd e
  have t1:=lt p1;have t2:=lt p2;exact vqf p1 p2 λh' g1 g2 g3 g4 g5 gk=>wpAny_pyIter_zip g1 ⟨_,_,_,_,H1,rfl,I1.kept (t':=s1.toks) gk,vqm (wqh t1 t2) (Xq t1) (Xq (Z2 t2)),⟨g1,g2,⟨_,_,g3⟩,g4,g5⟩,fin,q⟩
end
section
variable {X:Cx}{Z:Fx0}{K:PySem.W.Frag}{pn:List Nat}{q qa qb:Bool}{a b c:Ex}{u:Ts}{tg e ea eb:Expr}{st:Stmt}{σ:L2.St}{H:Hp}{L:Ls}{E:En}{pos p p2 gz:Pos}{x:Str}{cg:List Expr}{k1:Nat}
theorem qzz{b:Ex}(ha:QE X Z q a ea)(hb:QE X Z q b eb)(hg:Gl X "zip")(hm:X.mg "zip"=none)(hK:autoParam (X.K=Z.K) Ŕ)
  (hs:autoParam (starEach [ea,eb] X.env=[(false,eval ea X.env),(false,eval eb X.env)]) Ŕ) (iw:autoParam (starEach [eb] X.env=[(false,eval eb X.env)]) Ŕ)
  (p7:autoParam (starEach [ea,eb] X.env=(false,eval ea X.env)::starEach [eb] X.env) Ŕ):QI X Z q (.Tuple cg k1 gz) (qkf a b) (.Call (.Name "zip" p) [ea,eb] [] pos):=λpins s σ H R I au=>ex8 au λE L r m w hc xc k=>by
 refine(vvh Z.K hg hm (vZ ha (vZ hb wW iw) p7) hK hs iw) pins s σ H R I ?_;refine Wz m w (show bnd (a E) _=some r from hc) xc λE1 s h1 x L1 H1 e1 e2 m1 w1 st sm=>?_
 have s1:Step H L H1 L1:=st.trans Step.drop;refine Wz (q:=q) m1 w1.tail h1 (xc.step s1) λE2 s2 h2 y L2 H2 e3 e4 m2 w2 be fj=>?_
 have hh:=wk4 (T:=[some x]) w1 be w2;have w3:World Z.K H2 (some x::some y::L2):=hh.1;have ef:Step H1 (some x::L1) H2 (some x::some y::L2):=hh.2;obtain⟨ds,hd,rfl⟩:=xw h2;have jm:=w3.head;have ou:=w3.tail.head;have wT:World Z.K H2 (L2++[x.let,y.let].map some):=by
  have wy:World Z.K H2 (some y.let::L2):=w3.tail.tail.consNo (K1 ou) rfl λb hb=>w3.tail.apart b hb
  have wx:World Z.K H2 (some x.let::some y.let::L2):=wy.consNo (K1 jm) rfl λb hb ho=>w3.apart b hb (by
   rw [jQ]at ho ⊢;exact lr9 _ ((List.mem_append.mp ho).elim (λz=>by rw[(Jv y).1]at z;exact nomatch z) id))
  exact World.comm (L:=[some x.let,some y.let]) wx
 have bv:Step H L H2 (some x::some y::L2):=st.trans ef;have sT:Step H L H2 (L2++[x.let,y.let].map some):=by
  refine⟨bv.keep,λb hb=>?_,λb hb=>?_⟩
  ·have:b∈j8 L2:=by simpa [Jv]using hb
   exact bv.own b (by rw[jQ,jQ];exact lr9 _ (lr9 _ this))
  ·have:b∈jY L2\/b∈x.as\/b∈y.as:=by simpa [Jv]using hb
   rcases this with z|z|z
   ·exact bv.frz b (by rw[kQ,kQ];exact lr9 _ (lr9 _ z))
   ·exact kju bv b z
   ·rcases Sl.as_of z with z|z
    ·exact .inr (bv.own b (by rw[jQ,jQ];exact lr9 _ (ll9 _ z)))
    ·exact bv.frz b (by rw[kQ,kQ];exact lr9 _ (ll9 _ z))
 cases hx:x.d with
 | lst es=>
  cases hy:y.d with
  | lst fs=>
   rw [<-e2,<-e4,hx,hy]at hd;have hd:(if es.length<=big then some (v7 es fs)else none)=some ds:=hd
   split at hd
   rotate_left
   ·cases hd
   rename_i af;have af:es.length<=sizeLine:=af;cases oq9 hd;obtain⟨l1,xs,bs,ev,q3,r3,h3,_⟩:=items jm (.inl hx);have q3:LsR Z.K H2 l1 xs:=by rcases q3 with⟨_,z⟩|⟨z,_⟩;exact z;rw[hx]at z;cases z
   obtain⟨l2,ys,cs,ng,q4,r4,h4,_⟩:=items ou (.inl hy);have q4:LsR Z.K H2 l2 ys:=by rcases q4 with⟨_,z⟩|⟨z,_⟩;exact z;rw[hy]at z;cases z
   have kh:=jzd (K:=Z.K) (H1:=H1) hx ev;have lc:=jzd (K:=Z.K) (H1:=H1) hy ng;refine⟨l1,l2,by rw[ev,ng],.inl ⟨⟨xs,q3.sq⟩,⟨ys,q4.sq⟩,k _ _ rfl (Itz Z.K l1 l2) [x.let,y.let] L2 H2 m2 wT sT (by rw[K5];omega) (λhq=>q9 (sm hq).1 (fj hq).1) ⟨λt ht=>?_,λi H3 hok hi=>?_,λH3 hok=>?_,λi H3 v H4 d hok qy f7=>?_⟩⟩⟩
   ·simp only[Xh,Xg,or_false]at ht;rcases ht with rfl|rfl<;>rfl
   ·obtain⟨us,n8,a1,a2,_⟩:=kh H3 (hok _ (by simp));obtain⟨vs,ms,b1,b2,_⟩:=lc H3 (hok _ (by simp));have hl:=a2.len;have im:=b2.len;rw[K5]at hi;exact⟨us,vs,us[i]'(by omega),vs[i]'(by omega),a1,b1,X2 (by omega),X2 (by omega)⟩
   ·obtain⟨us,n8,a1,a2,_⟩:=kh H3 (hok _ (by simp));obtain⟨vs,ms,b1,b2,_⟩:=lc H3 (hok _ (by simp));have hl:=a2.len;have im:=b2.len;exact⟨us,vs,a1,b1,by rw[K5];omega⟩
   ·obtain⟨us,n8,a1,a2,a3⟩:=kh H3 (hok _ (by simp));obtain⟨vs,ms,b1,b2,b3⟩:=lc H3 (hok _ (by simp));obtain⟨T,x',y',hT,rfl,rfl,g1,g2⟩:=qy;rw[kjo]at f7;cases he1:es[i]? with
    | none=>rw[he1]at f7;cases f7
    | some d1=>
     cases jl:fs[i]? with
     |none=>rw[he1,jl]at f7;cases f7
     |some d2=>
      rw[he1,jl]at f7;cases oq9 f7;obtain⟨v1,qh,f1,f2,f3⟩:=a2.get he1;obtain⟨v2,jt,j1,j2,j3⟩:=b2.get jl;have e5:v1=x':=by have:=g1 us a1;rw[f1]at this;exact oq9 this
      have e6:v2=y':=by have:=g2 vs b1;rw[j1]at this;exact oq9 this
      subst e5 e6;refine⟨⟨.no,_,.ref T,qh++jt⟩,rfl,rfl,rfl,x5 hT,kvp hT f2 j2,λb hb=>?_⟩;rcases List.mem_append.mp hb with z|z
      ·exact⟨x.let,by simp,a3 b (f3 b z)⟩
      ·exact⟨y.let,by simp,b3 b (j3 b z)⟩
  | _=>rw[<-e2,<-e4,hx,hy]at hd;cases hd
 | tup es=>
  cases hy:y.d with
  | tup fs=>
   rw [<-e2,<-e4,hx,hy]at hd;have hd:(if es.length<=big/\es.length=fs.length then some (v7 es fs)else none)=some ds:=hd
   split at hd
   rotate_left
   ·cases hd
   rename_i af;obtain⟨af,gh⟩:=af;have af:es.length<=sizeLine:=af;cases oq9 hd;obtain⟨l1,xs,bs,ev,q3,r3,h3,_⟩:=items jm (.inr hx);have q3:SqT Z.K H2 l1 xs:=by rcases q3 with⟨z,_⟩|⟨_,z⟩;rw[hx]at z;cases z;exact z
   obtain⟨l2,ys,cs,ng,q4,r4,h4,_⟩:=items ou (.inr hy);have q4:SqT Z.K H2 l2 ys:=by rcases q4 with⟨z,_⟩|⟨_,z⟩;rw[hy]at z;cases z;exact z
   have kh:=kwl (K:=Z.K) (H1:=H1) hx ev;have lc:=kwl (K:=Z.K) (H1:=H1) hy ng;refine⟨l1,l2,by rw[ev,ng],.inr ⟨⟨xs,q3⟩,⟨ys,q4⟩,k _ _ rfl (ItZ Z.K l1 l2) [x.let,y.let] L2 H2 m2 wT sT (by rw[K5];omega) (λhq=>q9 (sm hq).1 (fj hq).1) ⟨λt ht=>?_,λi H3 hok hi=>?_,λH3 hok=>?_,λi H3 v H4 d hok qy f7=>?_⟩⟩⟩
   ·simp only[Xh,Xg,or_false]at ht;rcases ht with rfl|rfl<;>rfl
   ·obtain⟨us,n8,a1,a2,_⟩:=kh H3 (hok _ (by simp));obtain⟨vs,ms,b1,b2,_⟩:=lc H3 (hok _ (by simp));have hl:=a2.len;have im:=b2.len;rw[K5]at hi;exact⟨us,vs,us[i]'(by omega),vs[i]'(by omega),a1,b1,X2 (by omega),X2 (by omega)⟩
   ·obtain⟨us,n8,a1,a2,_⟩:=kh H3 (hok _ (by simp));obtain⟨vs,ms,b1,b2,_⟩:=lc H3 (hok _ (by simp));have hl:=a2.len;have im:=b2.len;exact⟨us,vs,a1,b1,by rw[K5];omega⟩
   ·obtain⟨us,n8,a1,a2,a3⟩:=kh H3 (hok _ (by simp));obtain⟨vs,ms,b1,b2,b3⟩:=lc H3 (hok _ (by simp));obtain⟨T,x',y',hT,rfl,rfl,g1,g2⟩:=qy;rw[kjo]at f7;cases he1:es[i]? with
    | none=>rw[he1]at f7;cases f7
    | some d1=>
     cases jl:fs[i]? with
     |none=>rw[he1,jl]at f7;cases f7
     |some d2=>
      rw[he1,jl]at f7;cases oq9 f7;obtain⟨v1,qh,f1,f2,f3⟩:=a2.get he1;obtain⟨v2,jt,j1,j2,j3⟩:=b2.get jl;have e5:v1=x':=by have:=g1 us a1;rw[f1]at this;exact oq9 this
      have e6:v2=y':=by have:=g2 vs b1;rw[j1]at this;exact oq9 this
      subst e5 e6;refine⟨⟨.no,_,.ref T,qh++jt⟩,rfl,rfl,rfl,x5 hT,kvp hT f2 j2,λb hb=>?_⟩;rcases List.mem_append.mp hb with z|z
      ·exact⟨x.let,by simp,a3 b (f3 b z)⟩
      ·exact⟨y.let,by simp,b3 b (j3 b z)⟩
  |_=>rw[<-e2,<-e4,hx,hy]at hd;cases hd
 |_=>rw[<-e2,hx]at hd;cases hd
end
end Q
namespace Q
open PySem PySem.Spec PyProof.Rows L2 L3
noncomputable def PVZ(K:PySem.W.Frag)(H:Hp):List Int->V->V->Prop
 |[],v,u=>u=v
 |z::r,v,u=>∃a xs x,v=.ref a/\(H a=some (.lst xs)\/SqT K H a xs)/\atI xs z=some x/\PVZ K H r x u
section
variable {K:PySem.W.Frag}{H:Hp}
theorem PVZ.snoc:∀{p:List Int} {z:Int} {v u:V},PVZ K H (p++[z]) v u->∃w,PVZ K H p v w/\PVZ K H [z] w u
 |[],z,v,u,h=>⟨v,rfl,h⟩
 |m::p,z,v,u,⟨a,xs,x,e,q,ex,h⟩=>by
  obtain⟨w,h1,h2⟩:=PVZ.snoc (p:=p) h;exact⟨w,⟨a,xs,x,e,q,ex,h1⟩,h2⟩
theorem vkz{xs:List V}{n:Nat}{z:Int}{x:V}(h:Q.ixN xs.length z=some n)(hx:xs[n]?=some x):atI xs z=some x:=by
 unfold atI;have e:L2.ixN xs.length z=some n:=by
  unfold Q.ixN at h;unfold L2.ixN;exact h
 rw[e];exact hx
theorem qw4:∀{zs:List Int} {p:List Nat} {d:D} {v u:V},KW zs d=some p->PV K H p d v u->PVZ K H zs v u
 |[],p,d,v,u,h,hp=>by
  cases oq9 (show some []=some p from by rw[<-h];cases d<;>rfl);exact hp
 |z::r,p,.tup ds,v,u,h,hp=>by
  unfold KW at h
  split at h
  rotate_left
  ·cases h
  rename_i n hn
  split at h
  rotate_left
  ·cases h
  rename_i d hd;obtain⟨p',hp',rfl⟩:=Option.map_eq_some_iff.mp h;obtain⟨a,xs,x,d2,e,q,ex,⟨ed,el⟩,hr⟩:=hp;rw[hd]at ed;cases oq9 ed;exact⟨a,xs,x,e,.inr q,vkz (by rw[el];exact hn) ex,qw4 hp' hr⟩
 |z::r,p,.lst ds,v,u,h,hp=>by
  unfold KW at h
  split at h
  rotate_left
  ·cases h
  rename_i n hn
  split at h
  rotate_left
  ·cases h
  rename_i d hd;obtain⟨p',hp',rfl⟩:=Option.map_eq_some_iff.mp h;obtain⟨a,xs,x,d2,e,q,ex,⟨ed,el⟩,hr⟩:=hp;rw[hd]at ed;cases oq9 ed;exact⟨a,xs,x,e,.inl q,vkz (by rw[el];exact hn) ex,qw4 hp' hr⟩
 |z::r,p,.non,v,u,h,hp=>by cases h
 |z::r,p,.bl _,v,u,h,hp=>by cases h
 |z::r,p,.int _,v,u,h,hp=>by cases h
 |z::r,p,.str _,v,u,h,hp=>by cases h
 |z::r,p,.dct _,v,u,h,hp=>by cases h
 |z::r,p,.obj _ _,v,u,h,hp=>by cases h
end
noncomputable def Zs(σ:L2.St):List (Int ⊕ Nat)->List Int->Prop
 |[],zs=>zs=[]
 |.inl z::r,zs=>∃r',zs=z::r'/\Zs σ r r'
 |.inr m::r,zs=>∃z r',zs=z::r'/\σ[m]?=some (some (.int z))/\Zs σ r r'
theorem Zs.snocL{σ:L2.St}{z:Int}:∀{ps:List (Int ⊕ Nat)} {zs:List Int},Zs σ (ps++[.inl z]) zs->∃r,zs=r++[z]/\Zs σ ps r
 |[],zs,⟨r',e,h⟩=>⟨[],by rw[e,show r'=[]from h];rfl,rfl⟩
 |.inl y::ps,zs,⟨r',e,h⟩=>by
  obtain⟨r,e2,h2⟩:=Zs.snocL (ps:=ps) h;exact⟨y::r,by rw[e,e2];rfl,r,rfl,h2⟩
 |.inr m::ps,zs,⟨y,r',e,hm,h⟩=>by
  obtain⟨r,e2,h2⟩:=Zs.snocL (ps:=ps) h;exact⟨y::r,by rw[e,e2];rfl,y,r,rfl,hm,h2⟩
abbrev tPZ(K:PySem.W.Frag)(i:Nat)(ps:List (Int ⊕ Nat)):TE:=fun σ H Q=>∃zs v u,Zs σ ps zs/\σ[i]?=some (some v)/\PVZ K H zs v u/\Q u H
section
variable {X:Cx}{Z:Fx0}{pn:List Nat}{q:Bool}{c:Ex}{e ep e2:Expr}{i m:Nat}{ps:List (Int ⊕ Nat)}{pos:Pos}
theorem vzi(K:PySem.W.Frag)(h:PE X e (J8 i)):PE X e (tPZ K i []):=kZ h fun σ H Q ⟨zs,v,u,hz,hv,hu,q⟩=>by
 have hz:zs=[]:=hz;subst hz;have hu:u=v:=hu;subst hu;exact⟨u,hv,q⟩
theorem pz_c{K:PySem.W.Frag}{z:Int}{j:Nat}{d9:Pos}(h:PE X e (tPZ K i ps))(bt:W4 (.Constant (.int z) j d9))(hK:autoParam (X.K=K) Ŕ):PE X (.Subscript e (.Constant (.int z) j d9) pos) (tPZ K i (ps++[.inl z])):=
 kZ (ZQ (hK▸kxx) h qk1 bt) fun σ H Q ⟨zs,v,u,hz,hv,hu,q⟩=>by
  obtain⟨r,rfl,hr⟩:=hz.snocL;obtain⟨w,h1,a,xs,x,e1,sq,ex,hx⟩:=hu.snoc;have hx:u=x:=hx;subst hx;refine⟨r,v,w,hr,hv,h1,?_⟩;rcases sq with sq|sq
  ·exact .inl ⟨a,xs,z,u,e1,rfl,.inl (.inl sq),ex,q⟩
  ·exact .inr (.inl ⟨a,xs,z,u,e1,rfl,sq,ex,q⟩)
theorem vqg{E:En}{σ:L2.St}{L:Ls}{H:Hp}{K:PySem.W.Frag}(mt:Mt E σ L)(w:World K H L):∀{ps:List (Int ⊕ Nat)} {zs:List Int},W2 E ps=some zs->Zs σ ps zs
 |[],zs,h=>by cases oq9 h;rfl
 |.inl z::ps,zs,h=>by
  unfold W2 at h;obtain⟨r,hr,rfl⟩:=Option.map_eq_some_iff.mp h;exact⟨r,rfl,vqg mt w hr⟩
 |.inr m::ps,zs,h=>by
  unfold W2 at h
  split at h
  rotate_left
  ·cases h
  rename_i o z hE;obtain⟨r,hr,rfl⟩:=Option.map_eq_some_iff.mp h;obtain⟨x,a1,a2,a3,a4⟩:=mt.get hE;have:=qvo (w.ok x (x4 a1)) a3;rw[this]at a4;exact⟨z,r,rfl,a4,vqg mt w hr⟩
theorem wv2(hP:PE X ep (tPZ Z.K i ps))(hc:QE X Z q c e)(hK:autoParam (X.K=Z.K) Ŕ)(hm:MtR X "list.append" kk8){ak ab df:Pos}
  (ax:autoParam (attributeBase ep "append" X.env (eval ep X.env)=eval ep X.env) Ŕ)
  (cb:autoParam (((backTo ab (starEach [e] X.env)).all (λx=>!x.1)&&(backToKw ab (keywordEach [] X.env)).all (λx=>x.1.isSome)
   && decide ([e].length+([]:List Keyword).length+(if([]:List Keyword).isEmpty then 0 else 1)<30))=true) Ŕ)
  (az:autoParam ((ak.endLine==ab.line)=true) Ŕ) (hs:autoParam (starEach [e] X.env=(false,eval e X.env)::starEach [] X.env) Ŕ) (b6:autoParam ((backTo ab (starEach [] X.env)).any (·.1)=false) Ŕ)
  (iy:autoParam (swapsWith (.Call (.Attribute ep "append" ak) [e] [] ab) none df.line X.env=pure false) Ŕ):
  QS X Z pn (Zj i ps c) (.Expr (.Call (.Attribute ep "append" ak) [e] [] ab) df):=
 zw (Zq (qk3 Z.K Yj PySem.F.slot_list_append PySem.F.type_list_append hm hP (vZ hc wW hs) ax cb az hs b6 hK) iy) λDe σ H au=>ex7 au λE L r m w ba k=>by
 unfold Zj at ba
 split at ba
 rotate_left
 ·cases ba
 rename_i o0 d0 zs hE0 lu
 split at ba
 rotate_left
 ·cases ba
 rename_i p hzp;unfold sPA at ba
 split at ba
 rotate_left
 ·cases ba
 rename_i d hE;have hd:d0=d:=by rw[hE0]at hE;cases hE;rfl
 subst hd
 split at ba
 rotate_left
 ·cases ba
 rename_i ds gw
 split at ba
 rotate_left
 ·cases ba
 rename_i af;obtain⟨y,a1,a2,a3,a4⟩:=m.get hE;obtain⟨w0,s0⟩:=kjs w a1;obtain⟨y1,b1,b2,b3,b4,b5⟩:=w0.hole a2 (by rw[a3];exact gw);obtain⟨l,xs,bs,c1,c2,_,_,_⟩:=VV (b4.ok y1 X3) b2 b1;refine⟨zs,y.v,y1.v,vqg m w lu,a4,qw4 (by rw[a3];exact hzp) b3,by rw[c1];exact qv4 c2,?_⟩;refine W5 (q:=q) (Vq i m) w0.tail ba (k.step (s0.trans Step.drop) Pn.refl) λE1 s h1 x L1 H1 e1 e2 m1 w1 st _=>?_
 split at h1
 rotate_left
 ·cases h1
 rename_i hpu;cases oq9 h1;obtain⟨w2,s2⟩:=wk4 (T:=[some y1]) b4 st w1;obtain⟨l',xs',f1,f2,f3,z,z1,z2,z3,z4,z5⟩:=World.app w2 b1 b2 (by rw[e2];exact hpu);obtain⟨y',g1,g2,g3,g4,g5⟩:=b5 _ _ z z4 (s2.trans z5) z1 z3;refine⟨l',xs',x.v,f1,rfl,f2,by rw[f3];exact af,?_⟩;have mm:=W1 (i:=i) (x:=y') (s:=(.dp,Q.D.put (.lst (ds++[s.2])) p d0)) m1 g1 (by rw[g2,z2,a3,e2]);rw[g3,Jq a4]at mm;exact k σ _ _ Pn.refl mm g4.set (s0.trans (g5.trans Step.set))
end
end Q
namespace Q
open PySem PySem.Spec PyProof.Rows L2 L3
section
variable {X:Cx}{Z:Fx0}{pn:List Nat}{ep:Expr}{i:Nat}{p:List Nat}{pos:Pos}
theorem kw1{E:En}{σ:L2.St}{L:Ls}{r:Nat}(hE:E[r]?=some none)(hL:L[r]?=some none)(u:Option V)(h:Mt E σ L):Mt E (σ.set r u) L:=by
 have:=wvn (u:=u) r h;rw[Jq hE,Jq hL]at this;exact this
theorem vv7{r1 r2 r3:Nat}{tg es:Expr}(hp:PassesOwn (model X.prog X.w) X.A X.env X.xe)(hcm:X.calm=true)(hP:PE X ep (tP Z.K i p))(hg:PG X tg (wqa Z.K 3 (gNs [r1,r2,r3])))(hS:PE X es (J8 r3))(hK:autoParam (X.K=Z.K) Ŕ)(hm:MtR X "list.clear" qvz){ak ab df fpos:Pos}
  (h1:autoParam (r1≠i) ŕ) (h2:autoParam (r2≠i) ŕ) (h3:autoParam (r3≠i) ŕ) (hpn1:autoParam (r1∉pn) ŕ) (hpn2:autoParam (r2∉pn) ŕ) (hpn3:autoParam (r3∉pn) ŕ)
  (ax:autoParam (attributeBase es "clear" X.env (eval es X.env)=eval es X.env) Ŕ) (az:autoParam ((ak.endLine==ab.line)=true) Ŕ)
  (iy:autoParam (swapsWith (.Call (.Attribute es "clear" ak) [] [] ab) none df.line X.env=pure false) Ŕ) (gp:autoParam (∀x,foldedSetIterable ep X.env x=pure x) Ŗ):
  QS X Z pn (kx2 i r1 r2 r3 p) (.For tg ep [.Expr (.Call (.Attribute es "clear" ak) [] [] ab) df] [] fpos):=
 zw (vkm hp hcm (vvi hP) hg (qw6 (Zq (qwe Z.K Yj PySem.F.slot_list_clear PySem.F.type_list_clear hm hS ax az hK) iy)) gp) λDe σ H au=>ex7 au λE L rr m w ba k=>by
 unfold kx2 at ba
 split at ba
 rotate_left
 ·cases ba
 rename_i d hE
 split at ba
 rotate_left
 ·cases ba
 rename_i ds gw
 split at ba
 rotate_left
 ·cases ba
 rename_i hrE;obtain⟨q1,q2,q3⟩:=hrE
 split at ba
 rotate_left
 ·cases ba
 rename_i de hea;cases oq9 ba;obtain⟨y,a1,a2,a3,a4⟩:=m.get hE;obtain⟨w0,s0⟩:=kjs w a1;have m0:=Vq r3 (Vq r2 (Vq r1 (Vq i m)));obtain⟨wa,sa⟩:=World.out1 r1 w0.tail;obtain⟨wb,sb⟩:=World.out1 r2 wa;obtain⟨wc,sc⟩:=World.out1 r3 wb;obtain⟨w0,s0'⟩:=wk4 (T:=[some y]) w0 ((sa.trans sb).trans sc) wc;have s0:=s0.trans s0';have ml:=m.len;have none_at:∀{α:Type} {l:List (Option α)} {a b c n:Nat},n<l.length->(n=a\/n=b\/n=c)->(((l.set a none).set b none).set c none)[n]?=some none:=fun {α l a b c n} hn h=>by
  by_cases e3:c=n
  ·rw[e3,Y5 (by simpa using hn)]
  ·rw[Xu e3]
   by_cases e2:b=n
   ·rw[e2,Y5 (by simpa using hn)]
   ·rw[Xu e2];have:n=a:=by rcases h with h|h|h;exact h;exact absurd h.symm e2;exact absurd h.symm e3
    rw[this,Y5 (by rw[<-this];exact hn)]
 have e1:((((E.set i none).set r1 none).set r2 none).set r3 none)[r1]?=some none:=none_at (by simpa using q1) (.inl rfl);have e2:((((E.set i none).set r1 none).set r2 none).set r3 none)[r2]?=some none:=none_at (by simpa using q2) (.inr (.inl rfl));have e3:((((E.set i none).set r1 none).set r2 none).set r3 none)[r3]?=some none:=none_at (by simpa using q3) (.inr (.inr rfl));have f1:((((L.set i none).set r1 none).set r2 none).set r3 none)[r1]?=some none:=none_at (by simp;omega) (.inl rfl);have f2:((((L.set i none).set r1 none).set r2 none).set r3 none)[r2]?=some none:=none_at (by simp;omega) (.inr (.inl rfl));have f3:((((L.set i none).set r1 none).set r2 none).set r3 none)[r3]?=some none:=none_at (by simp;omega) (.inr (.inr rfl));generalize hL0:(((L.set i none).set r1 none).set r2 none).set r3 none=L0 at *;generalize hE0:(((E.set i none).set r1 none).set r2 none).set r3 none=E0 at *;obtain⟨y1,b1,b2,b3,b4,b5⟩:=World.hole w0 a2 (by rw[a3];exact gw);obtain⟨l,xs0,bs,c1,c2,_,_,c5⟩:=VV (b4.ok y1 X3) b2 b1;refine⟨y.d,y.v,y1.v,a4,b3,l,c1,⟨xs0,.inl (.inl c2)⟩,?_⟩;refine⟨λk0 n σ1 H1=>∃(z:Sl) (bq:List Q.D),k0<=ds.length/\n=ds.length - k0/\Mt E0 σ1 L0/\World Z.K H1 (some z::L0)/\z.o=.dp/\z.d=.lst bq/\z.v=y1.v/\Step H (some y1::L0) H1 (some z::L0)/\Vj (ds.length - k0) k0 (.lst bq)=some de/\bq.length=ds.length/\σ1[i]?=some (some y.v)/\Pn pn σ σ1/\σ1.length=σ.length,
  ⟨_,y1,ds,Z1 _,rfl,m0,b4,b1,b2,rfl,Step.refl,hea,rfl,a4,Pn.refl,rfl⟩,?_⟩
 rintro k0 n σ1 H1 ⟨z,bq,hk,rfl,m1,w1,z1,z2,z3,jg,hea1,jf,ja,hpn,hσl⟩;obtain⟨l',xs,d6,d1,d2,_,_,d5⟩:=VV (w1.ok z X3) z2 z1;have hll:l'=l:=by rw[z3,c1]at d1;exact(V.ref.inj d1).symm
 subst hll;have hxl:xs.length=ds.length:=by rw[<-d5.len,jf]
 by_cases em:k0<ds.length
 ·refine .inr ⟨⟨xs,xs[k0]'(by omega),.inl (.inl d2),X2 _⟩,fun σ2 H2=>∃m',m'<ds.length - k0/\_,fun σ' H' h=>h,λx H' hy=>?_⟩;obtain⟨rfl,hyx⟩:=hy;have hx:xs[k0]?=some x:=hyx xs (.inl (.inl d2));obtain⟨n,hn⟩:∃n,ds.length - k0=n+1:=⟨ds.length - k0 - 1,by omega⟩;rw[hn]at hea1;unfold Vj at hea1
  split at hea1
  rotate_left
  ·cases hea1
  rename_i da db eh hat2;have hdk:bq[k0]?=some (.tup [da,db,.lst eh]):=by
   have:(match bq[k0]? with|some d=>Q.D.at [] d|none=>none)=some (.tup [da,db,.lst eh]):=hat2
   split at this
   ·rename_i d' ny;rw[ny];exact this
   ·cases this
  have hat3:Q.D.at [k0,2] (.lst bq)=some (.lst eh):=by
   show(match bq[k0]? with|some d=>Q.D.at [2] d|none=>none)=_;rw[hdk];rfl
  have bf:Q.D.put (.lst []) [k0,2] (.lst bq)=.lst (bq.set k0 (.tup [da,db,.lst []])):=by
   show(match bq[k0]? with|some d=>Q.D.lst (bq.set k0 (Q.D.put (.lst []) [2] d))|none=>_)=_;rw[hdk];rfl
  obtain⟨y2,g1,g2,g3,g4,g5⟩:=w1.hole z1 (by rw[z2];exact hat3);rw[z2]at g3;obtain⟨la,xs2,x2,dx,t1,t2,t3,⟨t4,_⟩,t5⟩:=g3;have u1:la=l':=by rw[d1]at t1;exact(V.ref.inj t1).symm
  subst u1;have u2:xs2=xs:=by rw[d2]at t2;cases t2;rfl
  subst u2;have u3:x2=x:=by rw[hx]at t3;exact(oq9 t3).symm
  subst u3;rw[hdk]at t4;cases oq9 t4;obtain⟨fm,us,u,du,v1,v2,v3,⟨_,v4⟩,v5⟩:=t5;have v4:us.length=3:=v4;have v5:y2.v=u:=v5;obtain⟨ua,ub,uc,rfl⟩:∃a b c,us=[a,b,c]:=by
   match us,v4 with
   |[a,b,c],_=>exact⟨a,b,c,rfl⟩
  have v3:uc=u:=oq9 v3;subst v3;obtain⟨l3,xs3,j1,j2,zn,n1,n2,n3,n4,n5⟩:=World.clr g4 g1 g2;obtain⟨z',o1,o2,o3,o4,o5⟩:=g5 _ _ zn n4 n5 n1 n3;have sg:((((σ1.set r1 (some ua)).set r2 (some ub)).set r3 (some uc)))[r3]?=some (some uc):=Y5 (by simp;omega);refine⟨fm,[ua,ub,uc],v1,.inl v2,rfl,?_⟩;refine⟨ua,_,rfl,ub,_,rfl,uc,_,rfl,rfl,?_⟩;refine⟨uc,sg,by rw[<-v5,j1];exact qv4 j2,l3,xs3,by rw[<-v5];exact j1,rfl,j2,?_⟩;refine⟨ds.length - (k0+1),by omega,z',bq.set k0 (.tup [da,db,.lst []]),by omega,rfl,kw1 e3 f3 _ (kw1 e2 f2 _ (kw1 e1 f1 _ m1)),o4,o1,by rw[o2,n2,z2];exact bf,o3.trans z3,jg.trans o5,?_,by rw[Ys];exact jf,?_,((hpn.set hpn1).set hpn2).set hpn3,by simp;exact hσl⟩
  ·rw[show ds.length - (k0+1)=n by omega,<-bf];exact hea1
  ·rw[Xu h3,Xu h2,Xu h1];exact ja
 ·have hk2:k0=ds.length:=by omega
  refine .inl ⟨⟨xs,.inl (.inl d2),by omega⟩,?_⟩;rw[hk2,Nat.sub_self]at hea1;unfold Vj at hea1;cases oq9 hea1;obtain⟨y',g1,g2,g3,g4,g5⟩:=b5 _ _ z w1 jg z1 z3;have mm:=W1 (i:=i) (x:=y') (s:=(.dp,Q.D.put (.lst bq) p d)) m1 g1 (by rw[g2,z2,a3]);rw[g3,Jq ja]at mm;exact k σ1 _ _ hpn mm g4.set (s0.trans (g5.trans Step.set))
end
end Q
namespace Q
def ddS(ss:List PySem.Str):List PySem.Str:=ss.foldl (λl k=>if l.any (· == k)then l else l++[k]) []
def ddI(ss:List Int):List Int:=ss.foldl (λl k=>if l.any (· == k)then l else l++[k]) []
noncomputable def V7:Sd->Option Sd:=λx=>match x.2 with
 |.lst ds=>(match xK ds with
  |some ss=>if ss.length<64 then some (.rt,.lst ((qW (ddS ss)).map .str))else none
  |none=>none)
 |_=>none
end Q
namespace Sw
open PySem PyProof.Rows
section
variable {prog:Program}{w:World}{A:Around}{E:Value->Shared->Prop}{s:Shared}
def tx(w:World):Bool:=w.params.followText "set-order"
structure Ok (prog:Program)(w:World)(o:Obj)(es:Array (Int×Value))(ep:Nat)(t:SetTable):Prop where
 ex:o.ExactSet
 d:o.data=.set es ep t
 el:ElemsOf (PySem.strKind prog w) es.toList
 b:es.size<scanBound
 f:t.fits es.size=true
 led:t.led=!tx w
 pl:t.plain=false\/es.size=0
def Z8(es:List (Int×Value)):List Str:=es.map λe=>strOf e.2
noncomputable def Has(prog:Program)(w:World)(h:Heap)(a:Addr)(ls:List Str):Prop:=∃o es ep t,h.get? a=some o/\Ok prog w o es ep t/\(Z8 es.toList).Perm ls
theorem vq3{l:List (Int×Value)}(h:ElemsOf (PySem.strKind prog w) l){e:Int×Value}(he:e∈l):∃k t,e.2=.str k t:=by
 obtain⟨⟨k,hk,_⟩,_⟩:=h e he;obtain⟨t,ht⟩:=Value.isStrOf_shape hk;exact⟨k,t,ht⟩
theorem wk2{l:List (Int×Value)}(h:ElemsOf (PySem.strKind prog w) l)(k:Str):(∃e∈l,(PySem.strKind prog w).is k e.2=true)↔k∈Z8 l:=by
 unfold Z8;rw[List.mem_map];constructor
 ·rintro ⟨e,he,hk⟩;obtain⟨t,ht⟩:=Value.isStrOf_shape hk;exact⟨e,he,by rw[ht];rfl⟩
 ·rintro ⟨e,he,hk⟩;obtain⟨k',t,ht⟩:=vq3 h he;rw[ht]at hk;cases(show k'=k from hk);exact⟨e,he,by rw[ht];exact strKind_is _ _ _ _⟩
theorem vw9(t:SetTable)(es:Array (Int×Value))(h:Int)(x:Value):(layNew t es h x).2.1.led=t.led/\((layNew t es h x).2.1.plain=true->t.plain=true):=by
 unfold layNew
 split
 ·rename_i slot wd _;show((t.put slot).1.orStandIn _).led=_/\(((t.put slot).1.orStandIn _).plain=true->_);unfold SetTable.orStandIn
  split
  ·exact⟨rfl,λh=>h⟩
  ·exact⟨rfl,λh=>nomatch h⟩
 ·exact⟨rfl,λh=>nomatch h⟩
theorem qvp(t:SetTable)(es:Array (Int×Value))(n:Nat):(relayAll t es n).2.1.led=t.led/\((relayAll t es n).2.1.plain=true->t.plain=true):=by
 unfold relayAll
 split
 ·rename_i t' order hr;dsimp only
  split
  ·unfold SetTable.relaid SetTable.laid at hr;rw[Option.bind_eq_bind,Option.bind_eq_some_iff]at hr;obtain⟨ow,_,e⟩:=hr;cases oq9 e;exact⟨rfl,λh=>h⟩
  ·exact⟨rfl,λh=>nomatch h⟩
 ·exact⟨rfl,λh=>nomatch h⟩
theorem vxm{h:Heap}{a:Addr}{o:Obj}{es es':Array (Int×Value)}{ep:Nat}{t t':SetTable}(ho:h.get? a=some o)(hd:o.data=.set es ep t):(h.update a (Obj.putSet es' t')).get? a=some { o with data:=.set es' (ep+1) t' }:=by
 have:=Y2 (Obj.putSet es' t') ho (by rw[putSet_of es' t' hd];rfl)
 rwa [putSet_of es' t' hd]at this
theorem tail{g:Bool->Sem Unit}(hg:∀(b:Bool) (s₁:Shared) (Q':Unit->Shared->Prop),Q' () s₁->wpAny (model prog w) A (g b) Q' E s₁)
  {a:Addr} {o:Obj} {es eh:Array (Int×Value)} {ep:Nat} {t t2:SetTable} {ls:List Str} {kf:Bool} {R:Option Bool->Shared->Prop} (ho:s.heap.get? a=some o) (hd:o.data=.set es ep t) (hex:o.ExactSet)
  (hel:ElemsOf (PySem.strKind prog w) eh.toList) (hb:eh.size<scanBound) (hf:t2.fits eh.size=true) (qs:t2.led=!tx w) (bt:t2.plain=false) (hp:(Z8 eh.toList).Perm ls)
  (h:∀h',Heap.SameBut a s.heap h'->Has prog w h' a ls->R (some true) { s with heap:=h' }):
  wpAny (model prog w) A (do
    storeSet a eh t2
    if(!kf&&t2.tooFull)=true then do
      g (relayAll t2 eh (SetTable.grown eh.size)).2.2
      storeSet a (relayAll t2 eh (SetTable.grown eh.size)).1 (relayAll t2 eh (SetTable.grown eh.size)).2.1
      pure (some true)
     else pure (some true)) R E s:=by
 refine X0 (wpAny_storeSet_of ho hd ?_ (fits_of_scanBound hb));have jr:=vxm (es':=eh) (t':=t2) ho hd;have ja:=Y6 s.heap a (Obj.putSet eh t2)
 split
 ·have r1:=relayAll_perm t2 eh (SetTable.grown eh.size);have r2:=relayAll_fits t2 eh (SetTable.grown eh.size);obtain⟨r3,r4⟩:=qvp t2 eh (SetTable.grown eh.size);generalize relayAll t2 eh (SetTable.grown eh.size)=V at r1 r2 r3 r4 ⊢;obtain⟨es2,t3,gv⟩:=V;dsimp only at r1 r2 r3 r4 ⊢;have hz:es2.size=eh.size:=by rw[<-Xa,r1.length_eq,Xa]
  refine X0 (hg _ _ _ ?_);refine X0 (wpAny_storeSet_of jr rfl ?_ (fits_of_scanBound (by rw[hz];exact hb)));refine X5 (h _ (ja.trans (Y6 _ a _)) ⟨_,es2,_,t3,vxm jr rfl,⟨hex,rfl,hel.perm r1,by rw[hz];exact hb,r2,r3.trans qs,.inl ?_⟩,(r1.map _).trans hp⟩);cases hq:t3.plain with
  |false=>rfl
  |true=>rw[r4 hq]at bt;cases bt
 ·exact X5 (h _ ja ⟨_,eh,_,t2,jr,⟨hex,rfl,hel,hb,hf,qs,.inl bt⟩,hp⟩)
theorem add{a:Addr}{k:Str}{tk:Tok}{ls:List Str}{Q:Bool->Shared->Prop}(hS:Has prog w s.heap a ls)(hl:ls.length+1<scanBound)
  (h:∀b h',Heap.SameBut a s.heap h'->Has prog w h' a (step_dedup ls k)->Q b { s with heap:=h' }):wpAny (model prog w) A (setAddHashed a (.str k tk) ((PySem.strKind prog w).hash k)) Q E s:=by
 obtain⟨o,es,ep,t,ho,hk,hp⟩:=hS;have hsz:es.size=ls.length:=by rw[<-hp.length_eq];unfold Z8;rw[X4,Xa]
 have mj:(PySem.strKind prog w).is k (.str k tk)=true:=strKind_is _ _ _ _;have hmk:(∃e∈es.toList,(PySem.strKind prog w).is k e.2=true)↔k∈ls:=(wk2 hk.el k).trans hp.mem_iff;unfold setAddHashed setAddHashedIn;refine Yl (X0 (Z3 ho hk.d hk.f ?_));dsimp only;rw[byScan_of rfl hk.b hk.el];simp only[↓reduceIte];unfold setAddByScan;refine X0 ?_;refine X0 (Z7 ?_);refine X0 (wpAny_setScan_of mj ho hk.d hk.f hk.el ?_);cases hr:List.findIdx? (λe=>(PySem.strKind prog w).is k e.2) es.toList with
 | some j=>
  dsimp only;obtain⟨hj,hpj,_⟩:=List.findIdx?_eq_some_iff_getElem.mp hr;have hin:k∈ls:=hmk.mp ⟨_,Ye hj,hpj⟩;have bm:step_dedup ls k=ls:=by unfold step_dedup;rw[Xf (List.any_eq_true.mpr ⟨k,hin,by simp⟩)]
  refine X5 (X5 ?_);have:=h false s.heap (Heap.SameBut.refl a s.heap) (by rw[bm];exact⟨o,es,ep,t,ho,hk,hp⟩);exact this
 | none=>
  dsimp only;have hni:k∉ls:=λhin=>by
   obtain⟨e,he,hq⟩:=hmk.mpr hin;have:=List.findIdx?_eq_none_iff.mp hr e he;rw[hq]at this;cases this
  have bm:step_dedup ls k=ls++[k]:=by
   unfold step_dedup;rw[Xm];intro hh;obtain⟨y,hy,e⟩:=List.any_eq_true.mp hh;rw[eq_of_beq e]at hy;exact hni hy
  rw[bm]at h;have hgw:∀(b:Bool) {s₁:Shared} {Q':Unit->Shared->Prop},Q' () s₁->wpAny (model prog w) A (match b with|true=>PySem.rule "set.scan.the-table-gave-way" | false=>pure ()) Q' E s₁:=
   λb s₁ Q' hq=>by cases b<;>first|exact X5 hq|exact Z7 hq
  have l1:=layNew_perm t es ((PySem.strKind prog w).hash k) (.str k tk);have l2:=layNew_fits t es ((PySem.strKind prog w).hash k) (.str k tk);obtain⟨l3,l4⟩:=vw9 t es ((PySem.strKind prog w).hash k) (.str k tk);generalize layNew t es ((PySem.strKind prog w).hash k) (.str k tk)=V at l1 l2 l3 l4 ⊢;obtain⟨eh,t1,wd,gv⟩:=V;dsimp only at l1 l2 l3 l4 ⊢;rw[Array.toList_push]at l1;have rd:ElemsOf (PySem.strKind prog w) eh.toList:=(hk.el.push mj rfl).perm l1;have lw:eh.size=ls.length+1:=by rw[<-Xa,l1.length_eq,Xn,Xa,hsz];rfl
  have hp1:(Z8 eh.toList).Perm (ls++[k]):=by
   refine(l1.map λe=>strOf e.2).trans ?_;rw[Y0];exact hp.append (List.Perm.refl _)
  refine X0 (hgw _ ?_)
  split
  ·refine X0 ?_;rw[hashByValue_scannable 8 rfl];refine X5 ?_;refine tail ?_ ho hk.d hk.ex rd (by rw[lw];exact hl) (SetTable.fits_plain_off l2) (l3.trans hk.led) rfl hp1 λh' a1 a2=>?_
   ·intro b s₁ Q' hq;cases b<;>first|exact X5 hq|exact Z7 hq
   ·exact X5 (h true h' a1 a2)
  ·rename_i bt;refine X0 (X5 ?_);refine tail ?_ ho hk.d hk.ex rd (by rw[lw];exact hl) l2 (l3.trans hk.led) (show t1.plain=false from Bool.eq_false_iff.mpr bt) hp1 λh' a1 a2=>?_
   ·intro b s₁ Q' hq;cases b<;>first|exact X5 hq|exact Z7 hq
   ·exact X5 (h true h' a1 a2)
def dd(ss:List Str):List Str:=ss.foldl step_dedup []
theorem vwp{ss:List Str}{i:Nat}{x:Str}(h:ss[i]?=some x):dd (ss.take (i+1))=step_dedup (dd (ss.take i)) x:=by
 obtain⟨hl,e⟩:=List.getElem?_eq_some_iff.mp h;unfold dd;rw[List.take_succ,h,List.foldl_append];rfl
theorem dd_le(ss:List Str):(dd ss).length<=ss.length:=foldl_step_dedup_nil_length_le ss
theorem qva:∀{vs:List Value} {ss:List Str},StrsAre vs ss->∀(i:Nat) (v:Value),vs[i]?=some v->∃x t,v=.str x t/\ss[i]?=some x
 |_,_,.nil,i,v,h=>by cases i<;>cases h
 |_,_,.cons x t r,0,v,h=>by cases oq9 h;exact⟨x,t,rfl,rfl⟩
 |_,_,.cons x t r,i+1,v,h=>qva r i v h
theorem kvh:∀{vs:List Value} {ss:List Str},StrsAre vs ss->vs.length=ss.length
 |_,_,.nil=>rfl
 |_,_,.cons x t r=>congrArg (· + 1) (kvh r)
theorem Has.same{h h':Heap}{a:Addr}{ls:List Str}(x:Has prog w h a ls)(e:∀o,h.get? a=some o->h'.get? a=some o):Has prog w h' a ls:=by
 obtain⟨o,es,ep,t,ho,r⟩:=x;exact⟨o,es,ep,t,e _ ho,r⟩
theorem loop{R:Result->Shared->Prop}{I:Addr}{fp wr:List Addr}{G:Array GenState->Array GenState->Prop}{n:Nat}{P:Nat->Value->Prop}{St:Nat->Shared->Prop}(W:WalksS prog w A.in1 I fp wr G n P St)(S:Addr)(rh:S∉fp)
  {ss:List Str} (hn:ss.length=n) (jp:∀i v,P i v->∃x t,v=.str x t/\ss[i]?=some x) (hb:n+1<scanBound):∀(k i:Nat) (s:Shared),n - i=k->i<=n->St i s->Has prog w s.heap S (dd (ss.take i)) ->
   (∀s',Moved (S::wr) G s s'->Has prog w s'.heap S (dd ss)->R (.ok (.ret .none)) s')->codeAny (model prog w) A (.builtin "set.update.loop" ⟨[.ref S,.ref I],[]⟩) R s:=by
 have hSw:S∉wr:=λh=>rh (W.sub _ h)
 have io:∀b∈wr,b∈S::wr:=λb hb=>lc9 _ hb
 intro k
 induction k with
 | zero=>
  intro i s hk hi bm hS hR;cases(show i=n by omega);refine codeAny_builtin F.entry_set_update_loop ?_;rw[Around.under_plainId F.plain_set_update_loop _];show wpAny _ A.in1 (pyNext (.ref I) >>= _) _ _ s;refine X0 (W.done s _ _ bm λs' hm=>?_);refine X5 (hR s' (hm.mono io) ?_);rw[<-hn,List.take_length]at hS;exact hS.same λo e=>hm.heap S _ hSw e
 | succ k ih=>
  intro i s hk hi bm hS hR;refine codeAny_builtin F.entry_set_update_loop ?_;rw[Around.under_plainId F.plain_set_update_loop _];show wpAny _ A.in1 (pyNext (.ref I) >>= _) _ _ s;refine X0 (W.item i s _ _ (by omega) bm λv s' hP ir hm=>?_);obtain⟨x,t,rfl,hx⟩:=jp i v hP;have n9:Has prog w s'.heap S (dd (ss.take i)):=hS.same λo e=>hm.heap S _ hSw e
  show wpAny _ A.in1 (holding [Value.str x t] (setAdd S (.str x t)) >>= _) _ _ s';refine X0 (Yl ?_);unfold setAdd;refine Yl ?_;refine X0 ((PySem.strKind prog w).pyHash (k:=x) (strKind_is _ _ _ _) ?_);have gh:(dd (ss.take i)).length+1<scanBound:=by have:=dd_le (ss.take i);rw[Yh]at this;omega
  refine add n9 gh λb h' a1 a2=>?_
  rw[<-vwp hx]at a2;refine X5 ⟨plainId_quiet F.plain_set_update_loop _,ih (i+1) _ (by omega) (by omega) (W.frame _ s' _ _ ir (Nat.le_succ _) λb hb o e=>?_) a2 λm8 hm'' hS''=>?_⟩
  ·rw[a1.2 b (λh:b=S=>rh (by rw[<-h];exact hb))];exact e
  ·refine hR m8 (Moved.trans W.gtrans ((hm.mono io).then_heap (Nat.le_succ _) λb o hb e=>?_) hm'') hS'';rw[a1.2 b (λh:b=S=>hb (by rw[h];exact X3))];exact e
def fresh(w:World):Obj:={ cls:=.type "set",dict:=none,data:=.set #[] 0 (.fresh 0 0 (!tx w)) }
theorem qxh{h:Heap}{a:Addr}(e:h.get? a=some (fresh w)):Has prog w h a []:=
 ⟨_,#[],0,.fresh 0 0 (!tx w),e,⟨⟨rfl,rfl,rfl⟩,rfl,(λe he=>nomatch he),by decide,by rfl,rfl,.inr rfl⟩,.refl _⟩
theorem made(a:Value){Q₁:Value->Shared->Prop}(h:Q₁ (.ref s.heap.objs.size) { s with heap:=s.heap.push (fresh w) }):
  codeAny (model prog w) A (.call (.builtin "set.__new__") ⟨[.type "set",a],[]⟩) (wants Q₁ E) s:=by
 refine codeAny_of_tree ?_;show wpAny _ A.in1 (do checkBuiltinCall "set.__new__" ⟨[.type "set",a],[]⟩;again (.builtin "set.__new__" ⟨[.type "set",a],[]⟩)) _ _ s;refine X0 (wpAny_of_eq (F.newCall_set_1 a) (X5 ⟨plainId_quiet F.plain_set_new _,codeAny_builtin F.entry_set_new ?_⟩));rw[Around.under_plainId F.plain_set_new _];unfold Builtin.«set.__new__» Builtin.Frozenset.newClass;have io:=sub_set_self;obtain⟨hp,g,d,tk,os⟩:=s;dsimp only
 wp_walk
 refine Z6 (X5 ?_);dsimp only;simp only[newObj];refine X0 (wpAny_alloc (X5 ?_));exact X5 h
set_option maxHeartbeats 8000000 in
theorem vk0{l:Addr}{items:Array Value}{ss:List Str}{Q:Value->Shared->Prop}(hh:A.handled=none)(hl:s.heap.IsList l items)(hi:StrsAre items.toList ss)(hb:items.size+1<scanBound)
  (h:∀(h':Heap) (tk:Nat),Has prog w h' s.heap.objs.size (dd ss)->(∀b o,b<s.heap.objs.size->s.heap.get? b=some o->h'.get? b=some o)->Q (.ref s.heap.objs.size) { s with heap:=h',toks:=tk }):
  wpAny (model prog w) A (call (.type "set") [.ref l]) Q E s:=by
 obtain⟨c,tl,hmro⟩:=F.called_set.mro;have hmade:=F.called_set.made;have io:=F.called_set.sub;refine wpAny_call (codeAny_of_tree ?_);show wpAny _ _ (callAny (.type "set") _) _ _ _;refine X5 ⟨Code.quiet_builtin _ (by decide +kernel),codeAny_builtin F.entry_type_call ?_⟩;rw [Around.under_plain (weight_type_call_type "set" [.ref l] []) rfl];have h1:=F.called_set.notType;have h2:=F.called_set.canCreate;have hct:=F.typeCall_set_1 (.ref l)
 repeat (any_goals (first|assumption|wp_step))
 refine codeAny_mono (made (.ref l) (E:=E) (Q₁:=λobj s₁=>obj=.ref s.heap.objs.size/\s₁={ s with heap:=s.heap.push (fresh w) }) ⟨rfl,rfl⟩) λr s₁ hr=>?_
 cases r with
 | error e=>exact hr
 | ok fl=>
 cases fl with
 | ret obj=>
  obtain⟨rfl,rfl⟩:=hr;have hS:(s.heap.push (fresh w)).get? s.heap.objs.size=some (fresh w):=X8 _ rfl;have hT:Shared.TypeIs { s with heap:=s.heap.push (fresh w) } (.ref s.heap.objs.size) "set":=⟨_,hS,rfl⟩;have hli:=F.called_set.init.lookup;have hbi:=F.called_set.init.bind (.ref s.heap.objs.size)
  repeat (any_goals (first|assumption|wp_step))
  refine codeAny_mono (codeAny_call_builtin (R:=wants (λr s₂=>r=.none/\∃h' tk,s₂={ s with heap:=h',toks:=tk }/\Has prog w h' s.heap.objs.size (dd ss) /\
    (∀b o,b<s.heap.objs.size->s.heap.get? b=some o->h'.get? b=some o)) E) F.called_set.init.plain F.entry_set_init (check_set_init_1 hT ?_)) λr₂ s₂ hr₂=>?_
  ·obtain⟨ol,hol,i8,nl,hdl⟩:=hl;obtain⟨ocls,r9,odata,nv⟩:=ol;simp only at i8 hdl;subst i8;subst hdl;have hol':(s.heap.push (fresh w)).get? l=some { cls:=.type "list",dict:=r9,data:=.seq items nl,slots:=nv }:=X1 _ hol;have hsls:=F.sub_list_set;have hslf:=F.sub_list_frozenset;have ft:(Value.type "list" == Value.type "dict")=false:=by decide
   have jf:(s.heap.push (fresh w)).IsList l items:=⟨_,hol',rfl,nl,rfl⟩;have hlS:l<s.heap.objs.size:=Xd hol;have ov:({ cls:=.type "set",dict:=none,data:=.set #[] 0 (.fresh 0 0 (!tx w)) }:Obj)=fresh w:=rfl;unfold Builtin.«set.__init__» noKeywords Builtin.Frozenset.updateFrom;generalize hPI:pyIter=PI
   wp_walk
   subst hPI;refine Yz jf ?_;refine X0 (wpAny_runValue ?_);have hh3:A.in1.in1.in1.handled=none:=by simp[hh]
   have hsz:(s.heap.push (fresh w)).objs.size=s.heap.objs.size+1:=Yn ..;refine loop ((Walks.list hh3 _ l (by rw[hsz];exact Xq (Z2 hlS)) items).toS) s.heap.objs.size (by rw[hsz];simp only[Xh,Xg,or_false,not_or];exact⟨Xq (Nat.lt_succ_self _),Nat.ne_of_gt hlS⟩) (ss:=ss) ?_ (λi v hv=>qva hi i v (by rw[Array.getElem?_toList];exact hv)) hb (items.size - 0) 0 _ (by omega) (Z1 _)
    ⟨⟨_,X8 _ rfl,rfl,rfl⟩,jf.push _⟩ ?_ ?_
   ·rw[<-kvh hi,Xa]
   ·exact qxh (X1 _ hS)
   ·intro s' hm n9;obtain⟨h',g',d',tk',os'⟩:=s';have eg:g'=s.gens:=hm.gens;have ed:d'=s.drawn:=hm.drawn;have eo:os'=s.os:=hm.os;subst eg;subst ed;subst eo;show wpAny _ _ _ _ _ _;refine X5 ?_;show wpAny _ _ (ret Value.none) _ _ _;refine X5 ⟨rfl,h',tk',rfl,n9,λb o hb e=>?_⟩;exact hm.heap b o (by simp only[Xh,Xg,or_false,not_or];rw[hsz];exact⟨Xq hb,Xq (Z2 hb)⟩) (X1 _ (X1 _ e))
  ·cases r₂ with
   | error e=>exact hr₂
   | ok fl₂=>
    cases fl₂ with
    |ret r=>
     obtain⟨rfl,h',tk,rfl,n9,hk'⟩:=hr₂
     repeat (any_goals (first|assumption|wp_step))
     exact h _ _ n9 hk'
    |_=>exact hr₂.elim
 |_=>exact hr.elim
end
theorem slot_next:Slot "set_iterator" "__next__" "set_iterator.__next__" :=
 .of (owner:="set_iterator") (n:="__next__") (by rw[typeLookup_type,builtinLookup_eq_fast];kernel_rfl) (by decide +kernel) (by decide +kernel) (by decide +kernel)
  (by first|exact .inl (by decide +kernel)|exact .inr (by decide +kernel)) (by rw[isSubtype_type];kernel_rfl)
theorem kwq:Slot "set_iterator" "__iter__" "set_iterator.__iter__" :=
 .of (owner:="set_iterator") (n:="__iter__") (by rw[typeLookup_type,builtinLookup_eq_fast];kernel_rfl) (by decide +kernel) (by decide +kernel) (by decide +kernel)
  (by first|exact .inl (by decide +kernel)|exact .inr (by decide +kernel)) (by rw[isSubtype_type];kernel_rfl)
theorem jx6:entryFor table "set_iterator.__next__"=some Builtin.«set_iterator.__next__»:=entryFor_of_tree (by kernel_rfl)
theorem qqn:entryFor table "set_iterator.__iter__"=some Builtin.«dict_keyiterator.__iter__»:=entryFor_alias (id':="dict_keyiterator.__iter__") (by kernel_rfl) rfl (by decide +kernel) (by kernel_rfl)
theorem qqo:entryFor table "set.__iter__"=some Builtin.«frozenset.__iter__»:=entryFor_alias (id':="frozenset.__iter__") (by kernel_rfl) rfl (by decide +kernel) (by kernel_rfl)
theorem jzh(a:Value):argsOk "set_iterator.__next__" ⟨[a],[]⟩:=by unfold argsOk;kernel_rfl
theorem qz3(a:Value):argsOk "set_iterator.__iter__" ⟨[a],[]⟩:=by unfold argsOk;kernel_rfl
theorem qz4(a:Value):argsOk "set.__iter__" ⟨[a],[]⟩:=by unfold argsOk;kernel_rfl
section
variable {prog:Program}{w:World}{A:Around}{E:Value->Shared->Prop}{s:Shared}
theorem wkl{src:Source}{n:Nat}{Q:Nat->Shared->Prop}(hn:n≠0)(h:∀i d,i<n->Q i { s with drawn:=d }):wpAny (model prog w) A (choose src n) Q E s:=
 λ_ _ _=>⟨hn,h _ _ (Nat.mod_lt _ (Nat.pos_of_ne_zero hn))⟩
theorem jzz{α:Type}:∀{l:List α} {i:Nat} (h:i<l.length),(l[i]::l.eraseIdx i).Perm l
 |a::l,0,h=>List.Perm.refl _
 |a::l,i+1,h=>by
  have hi:i<l.length:=Nat.lt_of_succ_lt_succ h;exact(List.Perm.swap a (l[i]'hi) _).trans ((jzz hi).cons a)
theorem drawn{α:Type}:∀(n:Nat) (xs:List α) (s:Shared) {Q:List α->Shared->Prop},xs.length=n->(∀ys d,ys.Perm xs->Q ys { s with drawn:=d })->wpAny (model prog w) A (drawOrder n xs) Q E s
 | 0,xs,s,Q,hl,h=>by
  cases xs with
  |nil=>exact X5 (h [] s.drawn (.refl _))
  |cons=>cases hl
 | n+1,xs,s,Q,hl,h=>by
  cases xs with
  |nil=>cases hl
  |cons x xs=>
   unfold drawOrder;refine X0 (wkl (by simp) λi d hi=>?_);rw[X2 hi];refine X0 (drawn n _ _ (by rw[List.length_eraseIdx,Xf hi];exact Nat.succ.inj hl) λys d' hp=>?_);exact X5 (h _ d' ((hp.cons _).trans (jzz hi)))
theorem qwa{α:Type}(f:Nat->Nat):∀(n k:Nat) (l:List α) (out:Array α),l.length=n->(pickOrder.go f n k l out).toList.Perm (out.toList++l)
 |0,k,l,out,hl=>by
  cases l with
  |nil=>unfold pickOrder.go;simp
  |cons=>cases hl
 |n+1,k,l,out,hl=>by
  have hi:f k % l.length<l.length:=Nat.mod_lt _ (by omega);unfold pickOrder.go;rw[X2 hi];refine(qwa f n (k+1) _ _ (by rw[List.length_eraseIdx,Xf hi];omega)).trans ?_;rw[Array.toList_push,Xk];exact(List.Perm.refl _).append (jzz hi)
theorem kx7{α:Type}(f:Nat->Nat)(xs:Array α):(pickOrder f xs).toList.Perm xs.toList:=by
 unfold pickOrder;exact qwa f _ 0 _ #[] (by simp)
end
section
variable {prog:Program}{w:World}{A:Around}{E:Value->Shared->Prop}{s:Shared}
noncomputable def It(h:Heap)(I a:Addr)(f:Value)(i n ep:Nat):Prop:=∃o,h.get? I=some o/\o.cls=.type "set_iterator"/\o.data=.fields #[f,.int i 0,.ref a,.int n 0,.int ep 0]
theorem It.at'{h h':Heap}{I a:Addr}{f:Value}{i n ep:Nat}(x:It h I a f i n ep)(e:∀o,h.get? I=some o->h'.get? I=some o):It h' I a f i n ep:=by
 obtain⟨o,ho,r⟩:=x;exact⟨o,e _ ho,r⟩
noncomputable def Stn(h:Heap)(a:Addr)(n ep:Nat):Prop:=∃o es t,h.get? a=some o/\o.data=.set es ep t/\t.fits es.size=true/\es.size=n
theorem qvh{I a:Addr}{f:Value}{i n ep:Nat}{Q:Value->Shared->Prop}(gq:It s.heap I a f i n ep)(h:Q (.ref I) s):wpAny (model prog w) A (pyIter (.ref I)) Q E s:=by
 obtain⟨o,ho,hc,hd⟩:=gq;have hT:s.TypeIs (.ref I) "set_iterator":=⟨o,ho,hc⟩;refine wpAny_pyIter_slot hT kwq (Xz kwq hT qqn ?_ (qz3 _));show wpAny _ _ (ret (.ref I)) _ _ s;exact X5 ⟨_,rfl,"set_iterator",_,hT,slot_next.lookup,h⟩
theorem wk0{I a:Addr}{sl nx i n ep:Nat}{v:Value}{Q:Option Value->Shared->Prop}(gq:It s.heap I a (.int sl 0) i n ep)(hs:Stn s.heap a n ep)
  (hN:∀(A':Around) (E':Value->Shared->Prop) (R:Option (Value×Nat)->Shared->Prop),R (some (v,nx)) s->wpAny (model prog w) A' (setNext a sl i ep) R E' s)
  (hQ:∀h',It h' I a (.int nx 0) (i+1) n ep->Heap.SameBut I s.heap h'->Q (some v) { s with heap:=h' }):wpAny (model prog w) A (pyNext (.ref I)) Q E s:=by
 obtain⟨o,ho,hc,hd⟩:=gq;obtain⟨os,es,t,jo,gi,hf,hn⟩:=hs;have hT:s.TypeIs (.ref I) "set_iterator":=⟨o,ho,hc⟩;unfold pyNext;refine X0 (wpAny_attempt (Y4 (name:=Str.ofString "__next__") hT slot_next (Xz slot_next hT jx6 ?_ (jzh _))));show wpAny _ _ (fieldsOf (.ref I) >>= _) _ _ s;refine X0 (wpAny_fieldsOf ho hd ?_);show wpAny _ _ (setEntries a >>= _) _ _ s;refine X0 (wpAny_setEntries_of jo gi hf ?_);rw[Xm (by rw[hn];simp)];show wpAny _ _ (setNext a ((sl:Int)).toNat ((i:Int)).toNat ((ep:Int)).toNat >>= _) _ _ s;rw[Y1,Y1,Y1];refine X0 (hN _ _ _ ?_);refine X0 (Yg ho hd (by simp) ?_);have pb:=Yw hd (·.setIfInBounds 0 (rawInt nx));have jr:=Y2 (Obj.mapFields (·.setIfInBounds 0 (rawInt nx))) ho (Yx pb);refine X0 (Yg jr pb (by simp) (X5 ⟨v,rfl,X5 (hQ _ ?_ ((Y6 ..).trans (Y6 ..)))⟩));have gm:=Yw pb (·.setIfInBounds 1 (rawInt (i+1)));refine⟨_,Y2 _ jr (Yx gm),(Obj.cls_mapFields ..).trans ((Obj.cls_mapFields ..).trans hc),?_⟩;rw[gm];simp[rawInt]
theorem wjz{I a T:Addr}{i n ep:Nat}{v:Value}{pl:List Nat}{p:Nat}{Q:Option Value->Shared->Prop}(gq:It s.heap I a (.ref T) i n ep)(hs:Stn s.heap a n ep)(hT':∃o k,s.heap.get? T=some o/\o.data=.seq (pl.map λ(j:Nat)=>rawInt j).toArray k)
  (hp:pl[i]?=some p)
  (hN:∀(A':Around) (E':Value->Shared->Prop) (R:Value->Shared->Prop),R v s->wpAny (model prog w) A' (setNextDrawn a p ep) R E' s)
  (hQ:∀h',It h' I a (.ref T) (i+1) n ep->Heap.SameBut I s.heap h'->Q (some v) { s with heap:=h' }):wpAny (model prog w) A (pyNext (.ref I)) Q E s:=by
 obtain⟨o,ho,hc,hd⟩:=gq;obtain⟨os,es,t,jo,gi,hf,hn⟩:=hs;obtain⟨oT,kT,hoT,pd⟩:=hT';have hT:s.TypeIs (.ref I) "set_iterator":=⟨o,ho,hc⟩;unfold pyNext;refine X0 (wpAny_attempt (Y4 (name:=Str.ofString "__next__") hT slot_next (Xz slot_next hT jx6 ?_ (jzh _))));show wpAny _ _ (fieldsOf (.ref I) >>= _) _ _ s;refine X0 (wpAny_fieldsOf ho hd ?_);show wpAny _ _ (setEntries a >>= _) _ _ s;refine X0 (wpAny_setEntries_of jo gi hf ?_);rw[Xm (by rw[hn];simp)];show wpAny _ _ (seqItems? (.ref T) >>= _) _ _ s;refine X0 (Yr hoT pd ?_);have hg:(pl.map λ(j:Nat)=>rawInt j).toArray[((i:Int)).toNat]?=some (.int p 0):=by
  rw[Y1,List.getElem?_toArray,Xp,hp];rfl
 dsimp only;rw[hg];show wpAny _ _ (setNextDrawn a ((p:Int)).toNat ((ep:Int)).toNat >>= _) _ _ s;rw[Y1,Y1];refine X0 (hN _ _ _ ?_);have gm:=Yw hd (·.setIfInBounds 1 (rawInt (i+1)));refine X0 (Yg ho hd (by simp) (X5 ⟨v,rfl,X5 (hQ _ ?_ (Y6 ..))⟩));refine⟨_,Y2 _ ho (Yx gm),(Obj.cls_mapFields ..).trans hc,?_⟩;rw[gm];simp[rawInt]
theorem ww2{I a:Addr}{sl i n ep:Nat}{Q:Option Value->Shared->Prop}(hh:A.handled=none)(gq:It s.heap I a (.int sl 0) i n ep)(hs:Stn s.heap a n ep)
  (hN:∀(A':Around) (E':Value->Shared->Prop) (R:Option (Value×Nat)->Shared->Prop),R none s->wpAny (model prog w) A' (setNext a sl i ep) R E' s)
  (hQ:∀h',Heap.ExtBut I s.heap h'->Q none { s with heap:=h' }):wpAny (model prog w) A (pyNext (.ref I)) Q E s:=by
 obtain⟨o,ho,hc,hd⟩:=gq;obtain⟨os,es,t,jo,gi,hf,hn⟩:=hs;have hT:s.TypeIs (.ref I) "set_iterator":=⟨o,ho,hc⟩;unfold pyNext;refine X0 (wpAny_attempt (Y4 (name:=Str.ofString "__next__") hT slot_next (Xz slot_next hT jx6 ?_ (jzh _))));show wpAny _ _ (fieldsOf (.ref I) >>= _) _ _ s;refine X0 (wpAny_fieldsOf ho hd ?_);show wpAny _ _ (setEntries a >>= _) _ _ s;refine X0 (wpAny_setEntries_of jo gi hf ?_);rw[Xm (by rw[hn];simp)];show wpAny _ _ (setNext a ((sl:Int)).toNat ((i:Int)).toNat ((ep:Int)).toNat >>= _) _ _ s;rw[Y1,Y1,Y1];refine X0 (hN _ _ _ ?_);refine X0 (Yg ho hd (by simp) ?_);show wpAny _ _ (newExc (.type "StopIteration") [] >>= _) _ _ _;refine X0 ?_;simp only[newExc,newTuple];refine X0 (Xs ?_ (by size_fits));refine X0 (m:=firstArgMember _ _) (wpAny_of_eq (a:=Value.none) (by first|rfl|(simp only[firstArgMember];rfl)) ?_);refine Xs ?_ (by size_fits);simp only[raiseNew];refine X0 (wpAny_handled ?_);rw[show A.in1.handled=none from hh];refine X0 (X5 (wpAny_throw ?_));refine X0 (wpAny_isInstance (T:="StopIteration") (b:=true) ⟨_,X8 _ rfl,rfl⟩ isSubtype_stop ?_);exact X5 (hQ _ (((Y6 ..).extBut.push _).push _))
theorem ww1{I a T:Addr}{i n ep:Nat}{pl:List Nat}{Q:Option Value->Shared->Prop}(hh:A.handled=none)(gq:It s.heap I a (.ref T) i n ep)(hs:Stn s.heap a n ep)(hT':∃o k,s.heap.get? T=some o/\o.data=.seq (pl.map λ(j:Nat)=>rawInt j).toArray k)
  (hp:pl[i]?=none) (hQ:∀h',Heap.ExtBut I s.heap h'->Q none { s with heap:=h' }):wpAny (model prog w) A (pyNext (.ref I)) Q E s:=by
 obtain⟨o,ho,hc,hd⟩:=gq;obtain⟨os,es,t,jo,gi,hf,hn⟩:=hs;obtain⟨oT,kT,hoT,pd⟩:=hT';have hT:s.TypeIs (.ref I) "set_iterator":=⟨o,ho,hc⟩;unfold pyNext;refine X0 (wpAny_attempt (Y4 (name:=Str.ofString "__next__") hT slot_next (Xz slot_next hT jx6 ?_ (jzh _))));show wpAny _ _ (fieldsOf (.ref I) >>= _) _ _ s;refine X0 (wpAny_fieldsOf ho hd ?_);show wpAny _ _ (setEntries a >>= _) _ _ s;refine X0 (wpAny_setEntries_of jo gi hf ?_);rw[Xm (by rw[hn];simp)];show wpAny _ _ (seqItems? (.ref T) >>= _) _ _ s;refine X0 (Yr hoT pd ?_);have hg:(pl.map λ(j:Nat)=>rawInt j).toArray[((i:Int)).toNat]?=none:=by
  rw[Y1,List.getElem?_toArray,Xp,hp];rfl
 dsimp only;rw[hg];have pb:=Yw hd (·.setIfInBounds 0 (rawInt 0));have jr:=Y2 (Obj.mapFields (·.setIfInBounds 0 (rawInt 0))) ho (Yx pb);refine X0 (Yg ho hd (by simp) ?_);refine X0 (Yg jr pb (by simp) ?_);show wpAny _ _ (newExc (.type "StopIteration") [] >>= _) _ _ _;refine X0 ?_;simp only[newExc,newTuple];refine X0 (Xs ?_ (by size_fits));refine X0 (m:=firstArgMember _ _) (wpAny_of_eq (a:=Value.none) (by first|rfl|(simp only[firstArgMember];rfl)) ?_);refine Xs ?_ (by size_fits);simp only[raiseNew];refine X0 (wpAny_handled ?_);rw[show A.in1.handled=none from hh];refine X0 (X5 (wpAny_throw ?_));refine X0 (wpAny_isInstance (T:="StopIteration") (b:=true) ⟨_,X8 _ rfl,rfl⟩ isSubtype_stop ?_);exact X5 (hQ _ ((((Y6 ..).trans (Y6 ..)).extBut.push _).push _))
end
section
variable {prog:Program}{w:World}{A:Around}{E:Value->Shared->Prop}{s:Shared}
theorem qv1(hh:A.handled=none)(I a:Addr)(ft:a≠I){o:Obj}{es:Array (Int×Value)}{ep:Nat}{t:SetTable}(hd:o.data=.set es ep t)(hf:t.fits es.size=true){cf:List Value}(hl:cf.length=es.size)(sl:Nat->Nat)
  (hN:∀(i:Nat) (s:Shared) (A':Around) (E':Value->Shared->Prop) (R:Option (Value×Nat)->Shared->Prop),s.heap.get? a=some o->i<=es.size->R (cf[i]?.map λv=>(v,sl (i+1))) s->wpAny (model prog w) A' (setNext a (sl i) i ep) R E' s):
  Walks prog w A I [I,a] [I] es.size (λi v=>cf[i]?=some v) (λi h=>It h I a (.int (sl i) 0) i es.size ep/\h.get? a=some o) where
 sub:=λb hb=>by simp at hb;simp[hb]
 frame:=λ_ _ _ st hk=>⟨st.1.at' λo e=>hk I (by simp) o e,hk a (by simp) _ st.2⟩
 item:=λi s Q E hi st hQ=>by
  have hv:cf[i]?=some (cf[i]'(by omega)):=X2 _;refine wk0 (nx:=sl (i+1)) (v:=cf[i]'(by omega)) st.1 ⟨o,es,t,st.2,hd,hf,rfl⟩ (λA' E' R hR=>hN i s A' E' R st.2 (Nat.le_of_lt hi) (by rw[hv];exact hR)) λh' oq n6=>?_
  exact hQ _ h' s.toks hv ⟨oq,(n6.extBut a o ft st.2)⟩ λb o hb e=>n6.extBut b o (λh=>hb (by simp[h])) e
 done:=λs Q E st hQ=>by
  refine ww2 hh st.1 ⟨o,es,t,st.2,hd,hf,rfl⟩ (λA' E' R hR=>hN es.size s A' E' R st.2 (Xe _) (by rw[Yp (by omega)];exact hR)) λh' he=>?_
  exact hQ h' s.toks λb o hb e=>he b o (λh=>hb (by simp[h])) e
 self:=λ_ _ _ _ st hQ=>qvh st.1 hQ
theorem vqj(hh:A.handled=none)(I a T:Addr)(ft:a≠I)(hneT:T≠I){o oT:Obj}{es:Array (Int×Value)}{ep k:Nat}{t:SetTable}(hd:o.data=.set es ep t)(hf:t.fits es.size=true){pl:List Nat}(hp:pl.Perm (List.range es.size))(pd:oT.data=.seq (pl.map λ(j:Nat)=>rawInt j).toArray k):
  Walks prog w A I [I,a,T] [I] es.size (λi v=>(pl.map λj=>(es.getD j (0,.none)).2)[i]?=some v) (λi h=>It h I a (.ref T) i es.size ep/\h.get? a=some o/\h.get? T=some oT) where
 sub:=λb hb=>by simp at hb;simp[hb]
 frame:=λ_ _ _ st hk=>⟨st.1.at' λo e=>hk I (by simp) o e,hk a (by simp) _ st.2.1,hk T (by simp) _ st.2.2⟩
 item:=λi s Q E hi st hQ=>by
  have af:pl.length=es.size:=by rw[hp.length_eq,Yb]
  have hv:pl[i]?=some (pl[i]'(by omega)):=X2 _;have em:pl[i]'(by omega)<es.size:=List.mem_range.mp (hp.mem_iff.mp (Ye _));refine wjz (p:=pl[i]'(by omega)) (v:=(es.getD (pl[i]'(by omega)) (0,.none)).2) st.1 ⟨o,es,t,st.2.1,hd,hf,rfl⟩ ⟨oT,k,st.2.2,pd⟩ hv (λA' E' R hR=>?_) λh' oq n6=>?_
  ·unfold setNextDrawn;refine X0 (Z3 st.2.1 hd hf ?_);dsimp only;rw[Xm (by simp),Array.getElem?_eq_getElem em];refine X5 ?_;rw[Array.getD_eq_getD_getElem?,Array.getElem?_eq_getElem em]at hR;exact hR
  ·exact hQ _ h' s.toks (by rw[Xp,hv];rfl) ⟨oq,(n6.extBut a o ft st.2.1),(n6.extBut T oT hneT st.2.2)⟩ λb o hb e=>n6.extBut b o (λh=>hb (by simp[h])) e
 done:=λs Q E st hQ=>by
  have af:pl.length=es.size:=by rw[hp.length_eq,Yb]
  refine ww1 hh st.1 ⟨o,es,t,st.2.1,hd,hf,rfl⟩ ⟨oT,k,st.2.2,pd⟩ (Yp (by omega)) λh' he=>?_
  exact hQ h' s.toks λb o hb e=>he b o (λh=>hb (by simp[h])) e
 self:=λ_ _ _ _ st hQ=>qvh st.1 hQ
theorem qwn(lz:tx w=true){a:Addr}{o:Obj}{es:Array (Int×Value)}{ep:Nat}{t:SetTable}(hd:o.data=.set es ep t)(hf:t.fits es.size=true):
  ∀(i:Nat) (s:Shared) (A':Around) (E':Value->Shared->Prop) (R:Option (Value×Nat)->Shared->Prop),s.heap.get? a=some o->i<=es.size->R (((pickOrder (w.params.setOrder a ep) es).toList.map (·.2))[i]?.map λv=>(v,0)) s->wpAny (model prog w) A' (setNext a 0 i ep) R E' s:=by
 intro i s A' E' R ho hi hR;unfold setNext;refine X0 (Z3 ho hd hf ?_);unfold setsByText;refine X0 (X0 (Z6 (X5 ?_)));show wpAny _ _ (if tx w=true then _ else _) _ _ _;rw[Xf lz];rw[Xm (by simp)];unfold setWalk;refine X0 (X0 (Z3 ho hd hf ?_));unfold setsByText;refine X0 (X0 (Z6 (X5 ?_)));show wpAny _ _ (if tx w=true then _ else _) _ _ _;rw[Xf lz];refine X0 (Z6 (X5 ?_));refine X5 ?_;rw[Xp,Array.getElem?_toList,Option.map_map]at hR;exact hR
end
section
variable {prog:Program}{w:World}{A:Around}{E:Value->Shared->Prop}{s:Shared}
theorem qxi{t:SetTable}{n:Nat}(h:t.fits n=true):t.place.size=n:=by
 simp only[SetTable.fits,Bool.and_eq_true,beq_iff_eq]at h;exact h.1
def sl1(t:SetTable)(i:Nat):Nat:=if i=0 then 0 else t.place.getD 0 0+1
theorem vje(lz:tx w=false){a:Addr}{o:Obj}{es:Array (Int×Value)}{ep:Nat}{t:SetTable}(hk:Ok prog w o es ep t)(h1:es.size<=1):
  ∀ (i:Nat) (s:Shared) (A':Around) (E':Value->Shared->Prop) (R:Option (Value×Nat)->Shared->Prop),s.heap.get? a=some o->i<=es.size->R ((es.toList.map (·.2))[i]?.map λv=>(v,sl1 t (i+1))) s->wpAny (model prog w) A' (setNext a (sl1 t i) i ep) R E' s:=by
 intro i s A' E' R ho hi hR;have hsz:=qxi hk.f;unfold setNext;refine X0 (Z3 ho hk.d hk.f ?_);unfold setsByText;refine X0 (X0 (Z6 (X5 ?_)));show wpAny _ _ (if tx w=true then _ else _) _ _ _;rw [Xm (by rw[lz];decide)];show wpAny _ _ (if(!t.plain&&decide (es.size>1))=true then _ else _) _ _ _;rw [Xm (by rw[Y8 (by omega)];simp)];show wpAny _ _ ((if(!t.led && !es.isEmpty)=true then _ else pure ()) >>= _) _ _ _;rw [Xm (by rw[hk.led,lz];simp)];refine X0 (X5 ?_);refine X5 ?_;obtain⟨es⟩:=es;obtain⟨mask,⟨pl⟩,du,fi,le,mo,pln⟩:=t;cases es with
 | nil=>
  cases pl with
  | nil=>
   have hi0:i=0:=by simpa using hi
   subst hi0;exact hR
  | cons=>cases hsz
 | cons e es=>
  cases es with
  | cons=>exact absurd h1 (by simp)
  | nil=>
   cases pl with
   | nil=>cases hsz
   | cons p pl=>
    cases pl with
    | cons=>cases hsz
    | nil=>
     have hb0:SetTable.below #[p] 0=0:=by
      show SetTable.below.go #[p] 0 1 0 1=0;unfold SetTable.below.go;rw[Xf (by decide),Xm (by simp)];rfl
     have hb1:SetTable.below #[p] (p+1)=1:=by
      show SetTable.below.go #[p] (p+1) 1 0 1=1;unfold SetTable.below.go;rw[Xf (by decide),Xf (by simp)];rfl
     rcases(show i=0\/i=1 by have:i<=1:=hi;omega)with rfl|rfl
     ·show R (match (#[e]:Array (Int×Value))[SetTable.below #[p] 0]?,(#[p]:Array Nat)[SetTable.below #[p] 0]? with|some (_,x),some j=>some (x,j+1)|_,_=>none) s;rw[hb0];exact hR
     ·show R (match (#[e]:Array (Int×Value))[SetTable.below #[p] (p+1)]?,(#[p]:Array Nat)[SetTable.below #[p] (p+1)]? with|some (_,x),some j=>some (x,j+1)|_,_=>none) s;rw[hb1];exact hR
theorem qv2{es:Array (Int×Value)}{pl:List Nat}(hp:pl.Perm (List.range es.size)):(pl.map λj=>(es.getD j (0,.none)).2).Perm (es.toList.map (·.2)):=by
 refine(hp.map _).trans (.of_eq ?_);apply List.ext_getElem
 ·simp
 ·intro i h1 h2;simp at h1;simp[Array.getD_eq_getD_getElem?,h1]
end
section
variable {prog:Program}{w:World}{A:Around}{E:Value->Shared->Prop}{s:Shared}
theorem vjw{a:Addr}{o:Obj}{es:Array (Int×Value)}{ep:Nat}{t:SetTable}(ho:s.heap.get? a=some o)(hk:Ok prog w o es ep t){Q:Bool->Shared->Prop}(h:Q (!tx w&&(!t.plain&&decide (es.size>1))) s):wpAny (model prog w) A (setDrawn a) Q E s:=by
 unfold setDrawn;refine X0 (Z3 ho hk.d hk.f ?_);unfold setsByText;refine X0 (X0 (Z6 (X5 ?_)));exact X5 h
theorem vwc{a:Addr}{o:Obj}{es:Array (Int×Value)}{ep:Nat}{t:SetTable}{Q:Value->Shared->Prop}(ho:s.heap.get? a=some o)(hk:Ok prog w o es ep t)
  (h:∀(h':Heap) (d:Drawn) (I:Addr) (fp:List Addr) (cf:List Value) (St:Nat->Heap->Prop),(∀b o,s.heap.get? b=some o->h'.get? b=some o)->s.heap.objs.size<=I->(∀b∈fp,b=a\/s.heap.objs.size<=b) ->
   (∀A':Around,A'.handled=none->Walks prog w A' I fp [I] es.size (λi v=>cf[i]?=some v) St)->St 0 h'->cf.Perm (es.toList.map (·.2))->Q (.ref I) { s with heap:=h',drawn:=d }):wpAny (model prog w) A (pyIter (.ref a)) Q E s:=by
 have hT:s.TypeIs (.ref a) "set":=⟨o,ho,hk.ex.1⟩;have m4:a<s.heap.objs.size:=Xd ho;refine wpAny_pyIter_slot hT F.slot_set_iter (Xz F.slot_set_iter hT qqo ?_ (qz4 _));unfold Builtin.«frozenset.__iter__» Builtin.Frozenset.slot0 slotArgs;simp only[List.isEmpty_nil,Bool.not_true,Bool.false_eq_true,↓reduceIte,bind_assoc,Yt,bne_self_eq_false];unfold Builtin.Frozenset.addrOf Builtin.Frozenset.sizeOf;refine X0 (X5 ?_)
 try dsimp only
 refine X0 (X5 ?_);refine X0 (X0 (wpAny_setEntries_of ho hk.d hk.f (X5 ?_)));refine X0 (vjw ho hk ?_)
 by_cases hdr:(!tx w&&(!t.plain&&decide (es.size>1)))=true
 ·rw [Xf hdr];refine X0 (drawn es.size _ s (by simp) λpl d hp=>?_);refine X0 (wpAny_newTuple ?_ (hsz:=by rw[X4,hp.length_eq,Yb];exact fits_of_scanBound hk.b));refine X0 (wpAny_setEpoch_of (X1 _ ho) hk.d hk.f ?_);refine X0 (Xs (X5 ⟨_,rfl,"set_iterator",_,⟨_,X8 _ rfl,rfl⟩,slot_next.lookup,?_⟩));have hsz:(s.heap.push (seqObj "tuple" (pl.map λ(i:Nat)=>rawInt i).toArray 0)).objs.size=s.heap.objs.size+1:=Yn ..;refine h _ d _ [_,a,s.heap.objs.size] (pl.map λj=>(es.getD j (0,.none)).2) _ (λb o e=>X1 _ (X1 _ e)) (by rw[hsz];exact Nat.le_succ _) (λb hb=>?_)
   (λA' hh=>vqj hh _ a s.heap.objs.size (by rw[hsz];exact Xq (Z2 m4)) (by rw[hsz];exact Xq (Nat.lt_succ_self _)) (o:=o) (oT:=seqObj "tuple" (pl.map λ(i:Nat)=>rawInt i).toArray 0) hk.d hk.f hp rfl)
   ⟨⟨_,X8 _ rfl,rfl,rfl⟩,X1 _ (X1 _ ho),X1 _ (X8 _ rfl)⟩ (qv2 hp)
  rcases List.mem_cons.mp hb with rfl|hb
  ·exact .inr (by rw[hsz];exact Nat.le_succ _)
  rcases List.mem_cons.mp hb with rfl|hb
  ·exact .inl rfl
  ·rw[List.mem_singleton.mp hb];exact .inr (Xe _)
 ·rw [Xm hdr];refine X0 (X5 ?_);refine X0 (wpAny_setEpoch_of ho hk.d hk.f ?_);refine X0 (Xs (X5 ⟨_,rfl,"set_iterator",_,⟨_,X8 _ rfl,rfl⟩,slot_next.lookup,?_⟩));have hfp:∀b∈[s.heap.objs.size,a],b=a\/s.heap.objs.size<=b:=λb hb=>by
   rcases List.mem_cons.mp hb with rfl|hb
   ·exact .inr (Xe _)
   ·exact .inl (List.mem_singleton.mp hb)
  cases lz:tx w with
  | true=>
   refine h _ s.drawn _ [_,a] ((pickOrder (w.params.setOrder a ep) es).toList.map (·.2)) _ (λb o e=>X1 _ e) (Xe _) hfp
    (λA' hh=>qv1 hh _ a (Xq m4) (o:=o) hk.d hk.f (by rw[X4,(kx7 _ es).length_eq,Xa]) (λ_=>0) (qwn lz hk.d hk.f))
    ⟨⟨_,X8 _ rfl,rfl,rfl⟩,X1 _ ho⟩ ((kx7 _ es).map _)
  | false=>
   have h1:es.size<=1:=by
    rcases hk.pl with hp|hp
    ·rw[lz,hp]at hdr;simp at hdr;exact hdr
    ·omega
   refine h _ s.drawn _ [_,a] (es.toList.map (·.2)) _ (λb o e=>X1 _ e) (Xe _) hfp
    (λA' hh=>qv1 hh _ a (Xq m4) (o:=o) hk.d hk.f (by rw[X4,Xa]) (sl1 t) (vje lz hk h1))
    ⟨⟨_,X8 _ rfl,rfl,rfl⟩,X1 _ ho⟩ (.refl _)
theorem vwg{a:Addr}{Q:Bool->Shared->Prop}(hT:s.TypeIs (.ref a) "set")(h:Q false s):wpAny (model prog w) A (Builtin.List.listLengthHint (.ref a)) Q E s:=by
 unfold Builtin.List.listLengthHint;refine X0 (wpAny_specialOf hT F.slot_set_len.lookup ?_);generalize lv:("set.__len__":String)=id0
 wp_delta
 rw[show splitId id0=some ("set","__len__")from by subst lv;decide +kernel];subst lv;refine X0 (wpAny_isInstance (T:="set") (b:=true) hT sub_set_self ?_);refine wpAny_ite_split (λgr=>absurd gr (by decide)) (λ_=>?_);refine wpAny_ite_split (λ_=>?_) (λgr=>absurd (by decide +kernel) gr);refine X0 (wpAny_typeOf hT ?_);exact X5 h
theorem qv9:∀{vs:List Value},(∀v∈vs,∃x t,v=Value.str x t)->StrsAre vs (vs.map strOf)
 |[],_=>.nil
 |v::vs,h=>by
  obtain⟨x,t,rfl⟩:=h v X3;exact .cons x t (qv9 λv hv=>h v (lc9 _ hv))
theorem qqq{a:Addr}{ls:List Str}{Q:List Value->Shared->Prop}(hh:A.handled=none)(hS:Has prog w s.heap a ls)
  (h:∀(h':Heap) (d:Drawn) (tk:Nat) (vs:List Value) (ss:List Str),(∀b o,s.heap.get? b=some o->h'.get? b=some o)->s.heap.objs.size<h'.objs.size->StrsAre vs ss->ss.Perm ls->Q vs { s with heap:=h',drawn:=d,toks:=tk }):
  wpAny (model prog w) A (collect (.ref a)) Q E s:=by
 obtain⟨o,es,ep,t,ho,hk,hp⟩:=hS;have m4:a<s.heap.objs.size:=Xd ho;unfold collect;refine X0 (wpAny_runValue (codeAny_builtin F.entry_proto_collect ?_));rw[Around.under_plainId F.plain_proto_collect _];show wpAny _ A.in1 (newList [] >>= λl=>again (.builtin "list.__iadd__" ⟨[l,.ref a],[]⟩)) _ _ s;refine X0 (Xs ?_);refine X5 ⟨plainId_quiet F.plain_list_iadd _,codeAny_builtin F.entry_list_iadd ?_⟩;rw[Around.under_plainId F.plain_list_iadd _];have jr:(s.heap.push { cls:=.type "list",data:=.seq ([]:List Value).toArray }).get? a=some o:=X1 _ ho;have hT1:Shared.TypeIs { s with heap:=s.heap.push { cls:=.type "list",data:=.seq ([]:List Value).toArray } } (.ref a) "set":=⟨o,jr,hk.ex.1⟩;show wpAny _ A.in1 (Builtin.List.listExtendWith (.ref s.heap.objs.size) (.ref a) (.ref s.heap.objs.size)) _ _ _;unfold Builtin.List.listExtendWith;refine X0 (wpAny_typeOf hT1 ?_);have h1:Builtin.List.listSameRef (.ref s.heap.objs.size) (.ref a)=false:=by simp[Builtin.List.listSameRef];exact Nat.ne_of_gt m4
 have h2:(Value.type "set" == Value.type "list")=false:=by decide
 have h3:(Value.type "set" == Value.type "tuple")=false:=by decide
 simp only[h1,h2,h3,Bool.or_false,Bool.false_eq_true,if_false];refine X0 (vwc jr hk λh' d I fp cf St i4 hI hfp W st0 hv=>?_);refine X0 (Yl (vwg ⟨o,i4 _ _ jr,hk.ex.1⟩ ?_));show wpAny _ A.in1 (PySem.rule "list.extend.makes-room" >>= λ_=>Builtin.List.listTouch (.ref s.heap.objs.size) >>= λ_=>
  again (.builtin "list.extend.loop" ⟨[.ref s.heap.objs.size,.ref I,.ref s.heap.objs.size],[]⟩)) _ _ _
 refine X0 (Z7 ?_);have hsz:(s.heap.push { cls:=.type "list",data:=.seq ([]:List Value).toArray }).objs.size=s.heap.objs.size+1:=Yn ..;have hI':s.heap.objs.size+1<=I:=by rw[<-hsz];exact hI
 have rh:s.heap.objs.size∉fp:=λhm=>by
  rcases hfp _ hm with e|e
  ·exact absurd e (Nat.ne_of_gt m4)
  ·have e:s.heap.objs.size+1<=s.heap.objs.size:=by rw[<-hsz];exact e
   exact absurd e (Nat.not_succ_le_self _)
 have hS₁:h'.get? s.heap.objs.size=some { cls:=.type "list",data:=.seq ([]:List Value).toArray }:=i4 _ _ (X8 _ rfl);refine X0 ?_;show wpAny _ A.in1 (updateSeq s.heap.objs.size (·.push .none) >>= λ_=>updateSeq s.heap.objs.size (·.pop)) _ _ _;refine X0 (wpAny_updateSeq hS₁ rfl ?_);have hS₂:=Y2 (Obj.mapSeq (·.push Value.none)) hS₁ rfl;refine wpAny_updateSeq hS₂ rfl ?_;have hS₃:=Y2 (Obj.mapSeq (·.pop)) hS₂ rfl;have oth:∀b o,b≠s.heap.objs.size->h'.get? b=some o->((h'.update s.heap.objs.size (Obj.mapSeq (·.push Value.none))).update s.heap.objs.size (Obj.mapSeq (·.pop))).get? b=some o:=
  λb o hb e=>(Heap.get?_update_other _ _ (Ne.symm hb)).trans ((Heap.get?_update_other _ _ (Ne.symm hb)).trans e)
 have WW:=W A.in1 hh;have af:cf.length=es.size:=by rw[hv.length_eq,X4,Xa]
 refine X5 ⟨plainId_quiet F.plain_extend_loop _,codeAny_extend_loopS WW.toS (fits_of_scanBound hk.b) _ rh _ es.size 0 _ _ _ rfl (Z1 _) (WW.frame 0 h' _ st0 λb hb o e=>oth b o (λe'=>rh (e'▸hb)) e) hS₃ (ItemsOf.nil _) λs' i5 c' hm n9 mq=>?_⟩;show wpAny _ A (load s.heap.objs.size >>= _) _ _ s';refine X0 (wpAny_load n9 ?_);have hac:i5.toList=cf:=by
  apply List.ext_getElem?;intro j
  by_cases hj:j<es.size
  ·have hj1:j<i5.size:=by rw[mq.1];exact hj
   rw[Array.getElem?_toList,Array.getElem?_eq_getElem hj1];exact(mq.2 j _ (Array.getElem?_eq_getElem hj1)).symm
  ·rw[Yp (by rw[Xa,mq.1];omega),Yp (by omega)]
 refine X5 ?_;rw[hac,Moved.eq_with hm];refine h _ d _ cf (cf.map strOf) (λb o e=>?_) (Xd n9) ?_ ?_
 ·have hb:b<s.heap.objs.size:=Xd e;have hbS:b≠s.heap.objs.size:=Xq hb;refine hm.heap b o (λhmem=>?_) (oth b o hbS (i4 b o (X1 _ e)));rcases List.mem_cons.mp hmem with e'|hmem
  ·exact hbS e'
  ·rw[List.mem_singleton.mp hmem]at hb;exact absurd hb (Nat.not_lt.mpr (Nat.le_of_succ_le hI'))
 ·exact qv9 λv hvm=>by
   obtain⟨e,he,rfl⟩:=List.mem_map.mp (hv.mem_iff.mp hvm);exact vq3 hk.el he
 ·refine((hv.map strOf).trans (.of_eq ?_)).trans hp;rw[Xx];rfl
end
section
variable {prog:Program}{w:World}{A:Around}{E:Value->Shared->Prop}{s:Shared}
theorem qq2{a:Addr}{ls:List Str}{Q:Value->Shared->Prop}(hh:A.handled=none)(hS:Has prog w s.heap a ls)(h64:ls.length<64)
  (h:∀(h':Heap) (d:Drawn) (tk l e:Nat) (out:Array Value) (ss:List Str),(∀b o,s.heap.get? b=some o->h'.get? b=some o)->s.heap.objs.size<=l->h'.get? l=some (seqObj "list" out e)->StrsAre out.toList ss->ss.Perm ls->sortedS ss=true->Q (.ref l) { s with heap:=h',drawn:=d,toks:=tk }):
  wpAny (model prog w) A (call (.builtin "sorted") [.ref a]) Q E s:=by
 refine Calls.call_function_entry kind_sorted plain_sorted entry_sorted (args_sorted1 _) ?_;unfold Builtin.«sorted»;refine X0 (m:=checkCount "sorted" 1 1 _) (X5 ?_);refine X0 (qqq (by simpa using hh) hS λh' d tk vs ss i4 hsz hv hp=>?_);have h64':vs.length<64:=by rw[kvh hv,hp.length_eq];exact h64
 refine X0 (wpAny_newList ?_ (hsz:=by rw[sizeLine_eq];omega));have rk:(h'.push (seqObj "list" vs.toArray 0)).get? h'.objs.size=some (seqObj "list" vs.toArray 0):=X8 _ rfl;refine X0 (Yl (Xz slot_list_sort ⟨_,rk,rfl⟩ entry_list_sort (list_sort_treeK strKind_oneLt rk hv.keysOf (λv₁ v₂ j9 e=>keyKind_strs (by rw[<-e];exact hv)) h64' λff a1 a2=>⟨_,rfl,?_⟩) (args_list_sort _)));obtain⟨ss',h1,h2,h3⟩:=sorted_out_str hv a1 a2;obtain⟨e,he⟩:=sortedHeap_at (out:=(arrOf ff).map (·.2)) rk;refine X5 ⟨_,rfl,h _ d tk _ e _ ss' (λb o q=>?_) (Nat.le_of_lt hsz) he h1 (h2.trans hp) h3⟩;have hb:=Xd (i4 b o q);show(sortedHeap (h'.push (seqObj "list" vs.toArray 0)) h'.objs.size vs _).get? b=some o;rw[sortedHeap_old (Xq hb) (by rw[size_push'];exact Z2 hb)];exact X1 _ (i4 b o q)
end
end Sw
namespace Q
open PySem PySem.Spec PyProof.Rows L2 L3 Sw
section
variable {X:Cx}{Z:Fx0}{K:PySem.W.Frag}{q:Bool}{a:Ex}{e ea:Expr}{σ:L2.St}{H:Hp}{pos p p2 lh:Pos}{x y:Str}{pins:List (Addr×Obj)}{s:Shared}
theorem Inv.dr{d:Drawn}(I:L2.Inv X pins σ H s):L2.Inv X pins σ H { s with drawn:=d }:=⟨I.ok,I.os,I.bare,I.base,I.loc,I.cell,I.free,I.freeC,I.pin,I.hok,I.len⟩
noncomputable def wxe(X:Cx)(f:Value)(r:List Str->Hp->VK->Prop):Prop:=
 ∀(pins:List (Addr×Obj)) (s:Shared) (σ:L2.St) (H:Hp) (b:Addr) (ls:List Str) (Q:VK),L2.Inv X pins σ H s->Has X.prog X.w s.heap b ls->r ls H Q->wpAny (model X.prog X.w) X.A (call f [.ref b]) (EP X pins σ Q) X.xe s
noncomputable def wqy(K:PySem.W.Frag)(r:List Str->Hp->VK->Prop):List V->Hp->VK->Prop:=λxs H Q=>∃p ss,xs=[.ref p]/\SqL K H p (ss.map V.str)/\ss.length<4000/\r (dd ss) H Q
theorem vvj{id:String}{r:List Str->Hp->VK->Prop}{t:TE}(hc:X.calm=true)(hf:wxe X (.builtin id) r)(hg:Gl X x)(hm:X.mg x=none)(hv:bootBuiltins x=some (.builtin id))(hg2:Gl X "set")(pc:X.mg "set"=none)(hv2:bootBuiltins "set"=some (.type "set"))
  (ha:PE X e t) (hn:autoParam (x≠"__name__") ŕ) (i7:autoParam ((x==("__debug__":Str))=false) ŕ) (ma:autoParam (("set":Str)≠"__name__") ŕ) (hdb2:autoParam ((("set":Str)==("__debug__":Str))=false) ŕ)
  (he:autoParam (starEach [e] X.env=(false,eval e X.env)::starEach [] X.env) Ŕ):
  PE X (.Call (.Name x p) [.Call (.Name "set" p2) [e] [] lh] [] pos) (fun σ H Q=>t σ H λv H1=>wqy X.K r [v] H1 Q):=by
 intro pins s σ H Q I h;refine wpAny_Call_Name_kw (V4 I hg hm hv ?_ hn i7);refine PyProof.Rows.callWith_builtin1 ?_ rfl rfl;show wpAny _ _ (spliced ((false,eval (.Call (.Name "set" p2) [e] [] lh) X.env)::[])) _ _ s;refine Calls.spliced_cons ?_;refine wpAny_Call_Name_kw (V4 I hg2 pc hv2 ?_ ma hdb2);refine Yk (thn (vZ ha wW he lh pins s σ H (λvs H1=>wqy X.K r vs H1 Q) I ?_) λus s1 ⟨vs,H1,I1,r1,q1⟩=>?_) he rfl
 ·exact h
 obtain⟨b,ss,rfl,hq,hl,q⟩:=q1;obtain⟨u,rfl,rx⟩:=x8 r1;cases rx;obtain⟨aa,r',pl,hz⟩:=I1.list hq;have af:=r'.length;rw[X4]at af hz;refine vk0 (I1.ok.hd hc) pl.isList (by simpa using kqw r') (by simp;unfold scanBound;omega) λh' tk hS i4=>?_
 have I2:L2.Inv X pins σ H1 { s1 with heap:=h',toks:=tk }:=I1.kept λb u q=>i4 b u (Xd q) q
 exact Calls.spliced_nil (hf pins _ σ H1 _ (dd ss) Q I2 hS q)
theorem qq5(hc:X.calm=true):wxe X (.builtin "sorted") (λls H Q=>ls.length<64/\∀l,H l=none->Q (.ref l) (upd H l (.lst ((qW ls).map V.str)))):=by
 intro pins s σ H b ls Q I hS h;refine qq2 (I.ok.hd hc) hS h.1 λh' d tk l e out ss i4 hl hg h1 h2 h3=>?_
 have e1:=qjm h2 h3;subst e1;have hz:(qW ls).length<=sizeLine:=by rw[(J7 ls).length_eq,sizeLine_eq];omega
 refine⟨.ref l,_,Inv.dr (I.laid (t':=tk) (o:=.lst ((qW ls).map V.str)) i4 hl ?_),rfl,h.2 l (I.hok.fresh hl)⟩;exact⟨by rw[X4];exact hz,out.toList,e,kwi h1,by simpa using hg⟩
end
section
variable {X:Cx}{Z:Fx0}{K:PySem.W.Frag}{q:Bool}{a:Ex}{e ea:Expr}{σ:L2.St}{H:Hp}{pos p p2 lh:Pos}{x y:Str}{pins:List (Addr×Obj)}{s:Shared}
theorem vq5{ss:List Str}{z:Str}(h:z∈ddS ss):z∈ss:=by
 have:∀(l ah:List Str),z∈l.foldl (λl k=>if l.any (· == k)then l else l++[k]) ah->z∈ah\/z∈l:=by
  intro l
  induction l with
  | nil=>intro ah h;exact .inl h
  | cons k l ih=>
   intro ah h;rcases ih _ h with h|h
   ·dsimp only at h
    split at h
    ·exact .inl h
    ·rcases List.mem_append.mp h with h|h
     ·exact .inl h
     ·exact .inr (by rw[List.mem_singleton.mp h];exact X3)
   ·exact .inr (lc9 _ h)
 rcases this ss [] h with h|h
 ·cases h
 ·exact h
noncomputable def rSS(K:PySem.W.Frag):List V->Hp->VK->Prop:=wqy K λls H Q=>ls.length<64/\∀l,H l=none->Q (.ref l) (upd H l (.lst ((qW ls).map V.str)))
theorem qqt:Ad1 K (λv H Q=>rSS K [v] H Q) V7:=by
 intro H x s Q ok hf k;unfold V7 at hf;dsimp only at hf;cases hx:x.d with
 | lst ds=>
  rw[hx]at hf;dsimp only at hf;obtain⟨l,xs,bs,ev,q3,r3,_⟩:=items ok (.inl hx);have q3:LsR K H l xs:=by rcases q3 with⟨_,z⟩|⟨z,_⟩;exact z;rw[hx]at z;cases z
  cases hs:xK ds with
  | some ss=>
   rw[hs]at hf;dsimp only at hf
   split at hf
   ·rename_i hl;cases oq9 hf;obtain⟨e1,e2⟩:=kjt hs r3;subst e1;refine⟨l,ss,by rw[ev],zW q3,by omega,Nat.lt_of_le_of_lt (dd_le ss) hl,λp hp=>?_⟩;exact k ⟨.rt,.lst _,.ref p,p::[]⟩ _ rfl rfl (JX hp (kjw λz hz=>e2 z (vq5 ((J7 _).mem_iff.mp hz))) λb hb=>nomatch hb)
   ·cases hf
  |none=>rw[hs]at hf;cases hf
 |_=>rw[hx]at hf;cases hf
theorem kx5(hK:X.K=Z.K)(hc:X.calm=true)(ha:QV X Z q a ea)(hm:X.mg "sorted"=none)(pc:X.mg "set"=none)(hg:autoParam (Gl X "sorted") Ŕ)(hg2:autoParam (Gl X "set") Ŕ)(he:autoParam (starEach [ea] X.env=(false,eval ea X.env)::starEach [] X.env) Ŕ):
  QE X Z q (cF1 V7 a) (.Call (.Name "sorted" p) [.Call (.Name "set" p2) [ea] [] lh] [] pos):=
 kZ (vvj hc (qq5 hc) hg hm rfl hg2 pc rfl ha (he:=he)) fun σ H Q h=>by
  have:=Qz (r:=λv H Q=>rSS Z.K [v] H Q) qqt h;rw[hK];exact this
end
end Q
namespace Q
open PySem PySem.Spec PyProof.Rows L2 L3
section
variable {X:Cx}{Z:Fx0}{K:PySem.W.Frag}{H:Hp}{q g:Bool}{a:Ex}{e:Expr}{p2 pos:Pos}{x:Str}{d:D}{ds:List D}{v:V}{vs:List V}
theorem wvf{j:_}{p3 p4:Pos}:PE X (.UnaryOp .USub (.Constant (.int 1) j p3) p4) (tC (.int (-1))):=kZ (wvc vxf qk1) fun σ H Q h=>⟨1,rfl,h⟩
end
end Q
namespace Q
open PySem
noncomputable def W9(c:Nat):Sd->Option Sd:=λx=>match x.2 with
 |.str z=>if z.length<sizeLine then some (.rt,.lst ((Txt.split z ⟨#[c]⟩).map .str))else none
 |_=>none
def kkv(y:Str):D->Option D
 |.str z=>some (.bl (Txt.startswith z y))
 |_=>none
noncomputable def z9:D->Option D
 |.int i=>if i.natAbs.log2<1920/\(Str.ofString (toString i)).length<=sizeLine then some (.str (Str.ofString (toString i)))else none
 |.str z=>if z.length<=sizeLine then some (.str z)else none
 |_=>none
end Q
namespace Q
open PySem PySem.Spec PyProof.Rows L2 L3
section
variable {X:Cx}{Z:Fx0}{K:PySem.W.Frag}{q:Bool}{a:Ex}{o:Expr}{y:Str}{c:Nat}{j:_}{p ak ab:Pos}
theorem kzk{c:Nat}:∀{l p:List Nat},p∈splitL c l->p.length<=l.length:=jvc
theorem kzj{z w:Str}(h:w∈Txt.split z ⟨#[c]⟩):w.length<=z.length:=by
 have:w.cps.toList∈splitL c z.cps.toList:=by rw[<-split_list];exact List.mem_map.mpr ⟨w,h,rfl⟩
 have:=kzk this;rw[Xa,Xa]at this;exact this
theorem vk6:Ad1 K (λv H Q=>tyV K "str" v H/\qvt v [.str ⟨#[c]⟩] H Q) (W9 c):=by
 intro H x s Q ok hf k;unfold W9 at hf;dsimp only at hf;cases hx:x.d with
 | str z=>
  rw[hx]at hf;dsimp only at hf
  split at hf
  ·rename_i hz;cases oq9 hf;have ev:x.v=.str z:=(wY ok hx).1;refine⟨by rw[ev];rfl,z,c,ev,rfl,hz,λl hl=>?_⟩;exact k ⟨.rt,.lst _,.ref l,l::[]⟩ _ rfl rfl (JX hl (kjw λw hw=>Xw (kzj hw) (Nat.le_of_lt hz)) λb hb=>nomatch hb)
  ·cases hf
 |_=>rw[hx]at hf;cases hf
theorem qw1(hy:y=(⟨#[c]⟩:Str))(ha:QV X Z q a o)(hK:autoParam (X.K=Z.K) Ŕ)(ax:autoParam (attributeBase o "split" X.env (eval o X.env)=eval o X.env) Ŕ)
  (cb:autoParam (((backTo ab (starEach [.Constant (.str y) j p] X.env)).all (λx=>!x.1)&&(backToKw ab (keywordEach [] X.env)).all (λx=>x.1.isSome)
   && decide ([Expr.Constant (.str y) j p].length+([]:List Keyword).length+(if([]:List Keyword).isEmpty then 0 else 1)<30))=true) Ŕ)
  (az:autoParam ((ak.endLine==ab.line)=true) Ŕ) (hs:autoParam (starEach [.Constant (.str y) j p] X.env=(false,eval (.Constant (.str y) j p) X.env)::starEach [] X.env) Ŕ) (b6:autoParam ((backTo ab (starEach [] X.env)).any (·.1)=false) Ŕ):
  QE X Z q (cF1 (W9 c) a) (.Call (.Attribute o "split" ak) [.Constant (.str y) j p] [] ab):=
 kZ (qwf PySem.F.plainAttrs_str PySem.F.slot_str_split PySem.F.type_str_split vvz ha (vZ zJ wW hs) ax cb az hs b6) fun σ H Q h=>by
  rw[hK];subst hy;exact Qz (r:=λv H Q=>tyV Z.K "str" v H/\qvt v [.str ⟨#[c]⟩] H Q) vk6 h
theorem qz6:Ad1 K (λv H Q=>tyV K "str" v H/\kzs v [.str y] H Q) (pu1 (kkv y)):=by
 intro H x s Q ok hf k;unfold pu1 kkv at hf;dsimp only at hf;cases hx:x.d with
 |str z=>
  rw[hx]at hf;cases oq9 hf;have ev:x.v=.str z:=(wY ok hx).1;exact⟨by rw[ev];rfl,z,y,ev,rfl,k ⟨.dp,.bl _,.bl _,[]⟩ H rfl rfl xJ⟩
 |_=>rw[hx]at hf;cases hf
theorem qzx(ha:QV X Z q a o)(hK:autoParam (X.K=Z.K) Ŕ)(ax:autoParam (attributeBase o "startswith" X.env (eval o X.env)=eval o X.env) Ŕ)
  (cb:autoParam (((backTo ab (starEach [.Constant (.str y) j p] X.env)).all (λx=>!x.1)&&(backToKw ab (keywordEach [] X.env)).all (λx=>x.1.isSome)
   && decide ([Expr.Constant (.str y) j p].length+([]:List Keyword).length+(if([]:List Keyword).isEmpty then 0 else 1)<30))=true) Ŕ)
  (az:autoParam ((ak.endLine==ab.line)=true) Ŕ) (hs:autoParam (starEach [.Constant (.str y) j p] X.env=(false,eval (.Constant (.str y) j p) X.env)::starEach [] X.env) Ŕ) (b6:autoParam ((backTo ab (starEach [] X.env)).any (·.1)=false) Ŕ):
  QE X Z q (cF1 (pu1 (kkv y)) a) (.Call (.Attribute o "startswith" ak) [.Constant (.str y) j p] [] ab):=
 kZ (qwf PySem.F.plainAttrs_str PySem.F.slot_str_startswith PySem.F.type_str_startswith vjf ha (vZ zJ wW hs) ax cb az hs b6) fun σ H Q h=>by
  rw[hK];exact Qz (r:=λv H Q=>tyV Z.K "str" v H/\kzs v [.str y] H Q) qz6 h
noncomputable def wwo:List V->Hp->VK->Prop:=λxs H Q=>(∃i:Int,xs=[.int i]/\i.natAbs.log2<1920/\Q (.str (Str.ofString (toString i))) H)\/∃z:Str,xs=[.str z]/\Q (.str z) H
theorem VY:CallR X (.type "str") wwo:=by
 intro pins s σ H xs us Q I r h;rcases h with⟨i,rfl,hi,q⟩|⟨z,rfl,q⟩
 ·obtain⟨u,rfl,t,rfl⟩:=x8 r;exact PySem.P.str_of_int hi ⟨.str _,H,I.tok _,⟨_,rfl⟩,q⟩
 ·obtain⟨u,rfl,t,rfl⟩:=x8 r;exact PySem.P.str_of_str ⟨.str _,H,I,⟨_,rfl⟩,q⟩
theorem Vk:Ad1 K (λv H Q=>wwo [v] H Q) (pu1 z9):=by
 intro H x s Q ok hf k;unfold pu1 z9 at hf;dsimp only at hf;cases hx:x.d with
 | int i=>
  rw[hx]at hf;dsimp only at hf
  split at hf
  ·rename_i hz;cases oq9 hf;exact .inl ⟨i,by rw[vq ok hx],hz.1,k ⟨.dp,.str _,.str _,[]⟩ H rfl rfl (Wv hz.2)⟩
  ·cases hf
 | str z=>
  rw[hx]at hf;dsimp only at hf
  split at hf
  ·rename_i hz;cases oq9 hf;exact .inr ⟨z,by rw[(wY ok hx).1],k ⟨.dp,.str _,.str _,[]⟩ H rfl rfl (Wv hz)⟩
  ·cases hf
 |_=>rw[hx]at hf;cases hf
end
end Q
namespace Q
open PySem
noncomputable def WY(i:Nat)(c:Ex):Sm:=λE=>if Wj E[i]? then ofE (c E) λE x=>match E[i]?,x.2 with
 |some (some (o,.lst xs)),.lst ys=>if o=.no\/x.1=.no\/¬xs.length+ys.length<big then none else some (.nx (E.set i (some (.rt,.lst (xs++ys)))))
 |_,_=>none
 else none
end Q
namespace Q
open PySem PySem.Spec PyProof.Rows L2 L3
section
variable {X:Cx}{Z:Fx0}{K:PySem.W.Frag}{q:Bool}{a:Ex}{e:Expr}{p2 pos:Pos}
variable {pn:List Nat}{c:Ex}
theorem vzd {i:Nat} {o:Expr} {ak ab:Pos} (hb:PE X (.Call (.Attribute o "extend" ak) [e] [] ab) (tBM Z.K "list" qvy (J8 i) (vqq (tQ Z q c) wqi))) (hs:autoParam (swapsWith (.Call (.Attribute o "extend" ak) [e] [] ab) none pos.line X.env=pure false) Ŕ):
  QS X Z pn (WY i c) (.Expr (.Call (.Attribute o "extend" ak) [e] [] ab) pos):=zw (Zq hb hs) λD' σ H au=>ex7 au λE L r m w hc k=>by
 unfold WY at hc;cases h0:E[i]? with
 | none=>rw[h0]at hc;cases hc
 | some s0=>
  cases s0 with
  | none=>rw[h0]at hc;cases hc
  | some s0=>
   obtain ⟨o0,d0⟩:=s0;cases d0 with
   | lst ds0=>
    rw [h0,Xf (show Wj (some (some (o0,D.lst ds0)))=true from rfl)]at hc;obtain⟨x0,a1,a2,a3,a4⟩:=m.get h0;refine⟨x0.v,a4,vks (w.ok x0 (x4 a1)) a3,?_⟩;refine W5 m w hc k λE1 s h1 x L1 H1 e1 e2 m1 w1 st _=>?_
    cases hE:E1[i]? with
    | none=>rw[hE]at h1;cases h1
    | some s1=>
     cases s1 with
     | none=>rw[hE]at h1;cases h1
     | some s1=>
      obtain⟨oo,dd⟩:=s1;rw [hE]at h1;cases dd with
      | lst ds=>
       obtain⟨so,sd⟩:=s;cases sd with
       | lst ys=>
        dsimp only at h1
        by_cases ll:oo=.no\/so=.no\/¬ds.length+ys.length<big
        ·rw[Xf ll]at h1;cases h1
        ·rw[Xm ll]at h1;cases oq9 h1;have p9:oo≠.no:=λz=>ll (.inl z)
         have ma:so≠.no:=λz=>ll (.inr (.inl z))
         have hn3:ds.length+ys.length<big:=Decidable.byContradiction λz=>ll (.inr (.inr z))
         obtain⟨y,b1,b2,b3,b4⟩:=m1.get hE;have hv:y.v=x0.v:=by rw[a4]at b4;exact(oq9 (oq9 b4)).symm
         obtain⟨l,xs,bs,c1,c2,c3,c4,c5⟩:=kvr (w1.ok y (lc9 _ (x4 b1))) b3 (by rw[b2];exact p9);have jm:=w1.head;obtain⟨l2,zs,jt,g1,g2,g3,g4,g5⟩:=kvr jm e2 (by rw[e1];exact ma);have ex0:x0.v=.ref l:=hv▸c1;rw[ex0];have wT:World Z.K H1 ([some x]++L1):=w1;have oT:j8 [some x]=x.own:=by simp
         have fT:jY [some x]=x.frz:=by simp
         have wk:∀{b:Bool} {ds:List D} {xs:List V} {bs:List Addr},RepA Z.K H1 b ds xs bs->RepA Z.K H1 true ds xs bs:=fun {b} {ds} {xs} {bs} h=>by
          cases b with
          |true=>exact h
          |false=>exact h.wk
         have re:=RepA.app (wk g5) (wk c5);refine⟨l,l2,xs,zs,rfl,by rw[g1],c2,g2,?_,?_⟩
         ·have:=(wk c5).len;have:=(wk g5).len;have hb:big=sizeLine:=rfl;omega
         obtain⟨w3,s3⟩:=kzv (o':=.rt) (ds':=ds++ys) (xs':=xs++zs) wT b1 c2 c3 c4 c1 re (.inl ⟨rfl,λa ha=>(List.mem_append.mp ha).imp id λz=>by rw[oT,fT];exact Sl.as_of (by rw[g3];exact lc9 _ z)⟩);refine k σ _ _ Pn.refl ?_ w3 (st.trans s3);have:=m1.set (x:=⟨.rt,.lst (ds++ys),y.v,l::(bs++jt)⟩) i;rw[Jq b4]at this;exact this
       |_=>cases h1
      |_=>obtain⟨so,sd⟩:=s;cases sd<;>cases h1
   |_=>rw[h0]at hc;cases hc
theorem wv7{i:Nat}{x:Str}{ak ab xp:Pos}(h:QE X Z q c e)(hN:autoParam (X.N[i]?=some x) Ŕ)(hv:autoParam (Vis X.env.scope x) ř)(hd:autoParam ((x==("__debug__":Str))=false) ŕ)
  (il:autoParam ((x==("__classdict__":Str))=false) ŕ) (ax:autoParam (attributeBase (.Name x xp) "extend" X.env (eval (.Name x xp) X.env)=eval (.Name x xp) X.env) Ŕ)
  (cb:autoParam (((backTo ab (starEach [e] X.env)).all (λx=>!x.1)&&(backToKw ab (keywordEach [] X.env)).all (λx=>x.1.isSome)
   && decide ([e].length+([]:List Keyword).length+(if([]:List Keyword).isEmpty then 0 else 1)<30))=true) Ŕ)
  (az:autoParam ((ak.endLine==ab.line)=true) Ŕ) (hs:autoParam (starEach [e] X.env=(false,eval e X.env)::starEach [] X.env) Ŕ) (b6:autoParam ((backTo ab (starEach [] X.env)).any (·.1)=false) Ŕ) (hK:autoParam (X.K=Z.K) Ŕ)
  (iy:autoParam (swapsWith (.Call (.Attribute (.Name x xp) "extend" ak) [e] [] ab) none pos.line X.env=pure false) Ŕ):
  QS X Z pn (WY i c) (.Expr (.Call (.Attribute (.Name x xp) "extend" ak) [e] [] ab) pos):=vzd (qk3 Z.K Yj PySem.F.slot_list_extend PySem.F.type_list_extend qwo (pv i hN hv hd il) (vZ h wW hs) ax cb az hs b6 hK) iy
theorem pz_n{K:PySem.W.Frag}{i j:Nat}{ps:List (Int ⊕ Nat)}{p3 p4:Pos}(h:PE X e (tPZ K i ps))(bt:W4 (.UnaryOp .USub (.Constant (.int 1) j p3) p4))(hK:autoParam (X.K=K) Ŕ):PE X (.Subscript e (.UnaryOp .USub (.Constant (.int 1) j p3) p4) pos) (tPZ K i (ps++[.inl (-1)])):=
 kZ (ZQ (hK▸kxx) h wvf bt) fun σ H Q ⟨zs,v,u,hz,hv,hu,q⟩=>by
  obtain⟨r,rfl,hr⟩:=hz.snocL;obtain⟨w,h1,a,xs,x,e1,sq,ex,hx⟩:=hu.snoc;have hx:u=x:=hx;subst hx;refine⟨r,v,w,hr,hv,h1,?_⟩;rcases sq with sq|sq
  ·exact .inl ⟨a,xs,-1,u,e1,rfl,.inl (.inl sq),ex,q⟩
  ·exact .inr (.inl ⟨a,xs,-1,u,e1,rfl,sq,ex,q⟩)
end
end Q
namespace Q
open PySem
noncomputable def fFm(pre post:Str):D->Option D
 |.int i=>if i.natAbs.log2<1920/\(Str.ofString (toString i)).length<=700/\post.length<=700 then some (.str (Str.empty++pre++Str.ofString (toString i)++post))else none
 |_=>none
noncomputable def wkg(pre:Str):D->Option D
 |.int i=>if i.natAbs.log2<1920/\(Str.ofString (toString i)).length<=700 then some (.str (Str.empty++pre++Str.ofString (toString i)))else none
 |_=>none
end Q
namespace Q
open PySem PySem.Spec PyProof.Rows L2 L3
section
variable {X:Cx}{Z:Fx0}{K:PySem.W.Frag}{q:Bool}{a:Ex}{e:Expr}{pre post:Str}{j1 j2:_}{p1 p2 p3 pos:Pos}
noncomputable def rFm2(pre:Str):V->Hp->VK->Prop:=λv H1 Q=>(∃z,v=.str z/\z.length<=sizeLine/\∃y,V.str z=.str y/\(Str.empty++pre).length+y.length<=sizeLine/\qzi (Str.empty++pre++y) [] H1 Q)\/∃i:Int,v=.int i/\i.natAbs.log2<1920/\∃y,V.str (Str.ofString (toString i))=.str y/\(Str.empty++pre).length+y.length<=sizeLine/\qzi (Str.empty++pre++y) [] H1 Q
theorem wv6(hp:pre.length<=1000)(ha:QV X Z q a e)(hs:autoParam (evalEach [.Constant (.str pre) j1 p1,.FormattedValue e (-1) none p2] X.env=eval (.Constant (.str pre) j1 p1) X.env::eval (.FormattedValue e (-1) none p2) X.env::evalEach [] X.env) Ŕ)
  (ja:autoParam (evalEach [.Constant (.str pre) j1 p1,.FormattedValue e (-1) none p2] X.env=eval (.Constant (.str pre) j1 p1) X.env::evalEach [.FormattedValue e (-1) none p2] X.env) Ŕ) (iw:autoParam (evalEach [.FormattedValue e (-1) none p2] X.env=eval (.FormattedValue e (-1) none p2) X.env::evalEach [] X.env) Ŕ):
  QE X Z q (cF1 (pu1 (wkg pre)) a) (.JoinedStr [.Constant (.str pre) j1 p1,.FormattedValue e (-1) none p2] pos):=
 kZ (vzy (kka zJ (kka (vzz ha) vkn iw) ja) hs) fun σ H Q h=>by
  refine⟨pre,rfl,?_,?_⟩
  ·have:(Str.empty:Str).length=0:=rfl;have hz:sizeLine=16777216:=by decide
   omega
  ·refine Qz (r:=rFm2 pre) (f:=pu1 (wkg pre)) ?_ h;intro H x s Q ok hf k;unfold pu1 wkg at hf;dsimp only at hf;cases hx:x.d with
   | int i=>
    rw[hx]at hf;dsimp only at hf
    split at hf
    ·rename_i hz;cases oq9 hf;have l0:∀a b:Str,(a++b).length=a.length+b.length:=λa b=>by show(a.cps++b.cps).size=_;rw[Array.size_append];rfl
     have le:(Str.empty:Str).length=0:=rfl;have hsz:sizeLine=16777216:=by decide
     have hb:(Str.empty++pre++Str.ofString (toString i)).length<=sizeLine:=by rw[l0,l0];omega
     refine .inr ⟨i,vq ok hx,hz.1,_,rfl,by rw[l0];omega,hb,?_⟩;exact k ⟨.dp,.str _,.str _,[]⟩ H rfl rfl (Wv hb)
    ·cases hf
   |_=>rw[hx]at hf;cases hf
abbrev vkb(post:Str):TJ:=vkc (tC (.str post)) qzi
noncomputable def rFm(pre post:Str):V->Hp->VK->Prop:=λv H1 Q=>(∃z,v=.str z/\z.length<=sizeLine/\∃y,V.str z=.str y/\(Str.empty++pre).length+y.length<=sizeLine/\vkb post (Str.empty++pre++y) [] H1 Q)\/∃i:Int,v=.int i/\i.natAbs.log2<1920/\∃y,V.str (Str.ofString (toString i))=.str y/\(Str.empty++pre).length+y.length<=sizeLine/\vkb post (Str.empty++pre++y) [] H1 Q
theorem q_fm(hp:pre.length<=1000)(ha:QV X Z q a e)(hs:autoParam (evalEach [.Constant (.str pre) j1 p1,.FormattedValue e (-1) none p2,.Constant (.str post) j2 p3] X.env=eval (.Constant (.str pre) j1 p1) X.env::eval (.FormattedValue e (-1) none p2) X.env::evalEach [.Constant (.str post) j2 p3] X.env) Ŕ)
  (ja:autoParam (evalEach [.Constant (.str pre) j1 p1,.FormattedValue e (-1) none p2,.Constant (.str post) j2 p3] X.env=eval (.Constant (.str pre) j1 p1) X.env::evalEach [.FormattedValue e (-1) none p2,.Constant (.str post) j2 p3] X.env) Ŕ) (iw:autoParam (evalEach [.FormattedValue e (-1) none p2,.Constant (.str post) j2 p3] X.env=eval (.FormattedValue e (-1) none p2) X.env::evalEach [.Constant (.str post) j2 p3] X.env) Ŕ) (p7:autoParam (evalEach [.Constant (.str post) j2 p3] X.env=eval (.Constant (.str post) j2 p3) X.env::evalEach [] X.env) Ŕ):
  QE X Z q (cF1 (pu1 (fFm pre post)) a) (.JoinedStr [.Constant (.str pre) j1 p1,.FormattedValue e (-1) none p2,.Constant (.str post) j2 p3] pos):=
 kZ (vzy (kka zJ (kka (vzz ha) (kka zJ vkn p7) iw) ja) hs) fun σ H Q h=>by
  refine⟨pre,rfl,?_,?_⟩
  ·have:(Str.empty:Str).length=0:=rfl;have hz:sizeLine=16777216:=by decide
   omega
  ·refine Qz (r:=rFm pre post) (f:=pu1 (fFm pre post)) ?_ h;intro H x s Q ok hf k;unfold pu1 fFm at hf;dsimp only at hf;cases hx:x.d with
   | int i=>
    rw[hx]at hf;dsimp only at hf
    split at hf
    ·rename_i hz;cases oq9 hf;have l0:∀a b:Str,(a++b).length=a.length+b.length:=λa b=>by show(a.cps++b.cps).size=_;rw[Array.size_append];rfl
     have le:(Str.empty:Str).length=0:=rfl;have hsz:sizeLine=16777216:=by decide
     have hb:(Str.empty++pre++Str.ofString (toString i)++post).length<=sizeLine:=by rw[l0,l0,l0];omega
     refine .inr ⟨i,vq ok hx,hz.1,_,rfl,by rw[l0];omega,post,rfl,by rw[l0,l0];omega,hb,?_⟩;exact k ⟨.dp,.str _,.str _,[]⟩ H rfl rfl (Wv hb)
    ·cases hf
   |_=>rw[hx]at hf;cases hf
end
end Q
namespace Q
open PySem
noncomputable def out(f:Fn)(xs:List Sd):Option (Sd ⊕ Str):=match f xs with
 |some (.ok _ y)=>some (.inl y)
 |some (.exc _ c)=>some (.inr c)
 |none=>none
theorem wji(n:Nat)(h:300<=n):(10:Nat) ^ 70<2 ^ n:=Xi (show(10:Nat) ^ 70<2 ^ 240 by decide) (Nat.pow_le_pow_right (by decide) (by omega))
theorem mul_l{o1 o2:Own}{a b:Int}(h1:-18446744073709551616<a)(h2:a<18446744073709551616):wke (o1,.int a) (o2,.int b)=some (.dp,.int (a*b)):=by
 have:XJ a b=true:=by
  have:qvg a=true:=by unfold qvg;rw[Yc (show -(2 ^ 64)<a by omega),Yc (show a<2 ^ 64 by omega)];rfl
  unfold XJ;rw[this];rfl
 show(if XJ a b=true then _ else _)=_;rw[Xf this]
theorem add_i{o1 o2:Own}{a b:Int}:jq (o1,.int a) (o2,.int b)=some (.dp,.int (a+b)):=rfl
theorem sub_i{a b:Int}:fSub (.int a) (.int b)=some (.int (a - b)):=rfl
theorem div_i{a b:Int}(h:0<b)(h2:b<10 ^ 70):qK (.int a) (.int b)=some (.int (a / b)):=by
 have hb:b.natAbs.log2<9000:=by
  exact(Nat.log2_lt (by omega)).mpr (Nat.lt_trans (show b.natAbs<10 ^ 70 by omega) (wji 9000 (by decide)))
 show(if 0<b/\b.natAbs.log2<9000 then some (a / b)else none).map _=_;rw[Xf ⟨h,hb⟩];rfl
theorem mod_i{a b:Int}(h:0<b):jW (.int a) (.int b)=some (.int (a % b)):=by
 show(if 0<b then some (a % b)else none).map _=_;rw[Xf h];rfl
theorem JY{a b:Int}:fEq (.int a) (.int b)=some (.bl (a==b)):=rfl
theorem ZX{a b:Str}:fEq (.str a) (.str b)=some (.bl (a==b)):=rfl
theorem lt_ii{a b:Int}:fLt (.int a) (.int b)=some (.bl (decide (a<b))):=rfl
theorem gt_ii{a b:Int}:fGt (.int a) (.int b)=some (.bl (decide (b<a))):=rfl
theorem le_ii{a b:Int}:fLe (.int a) (.int b)=some (.bl (decide (a<=b))):=rfl
theorem ge_ii{a b:Int}:fGe (.int a) (.int b)=some (.bl (decide (b<=a))):=rfl
theorem qY{xs:List D}{i:Int}{d:D}(h0:0<=i)(h:xs[i.toNat]?=some d):jz (.lst xs) (.int i)=some d:=by
 show((ixN xs.length i).bind λj=>xs[j]?)=some d;have hl:i.toNat<xs.length:=(List.getElem?_eq_some_iff.mp h).1;unfold ixN;rw[Xf h0,Xf (by omega)];exact h
theorem len_l{xs:List D}:kX (.lst xs)=some (.int xs.length):=rfl
theorem len_t{xs:List D}:kX (.tup xs)=some (.int xs.length):=rfl
theorem qz5{o1 o2:Own}{a b:List D}(h1:o1≠.dp)(h2:o2≠.dp)(hl:a.length+b.length<10000):jq (o1,.lst a) (o2,.lst b)=some (.rt,.lst (a++b)):=by
 show(if a.length+b.length<=big/\qQ (o1,.lst a)/\qQ (o2,.lst b)then _ else _)=_;rw[Xf ⟨by unfold big;omega,by cases o1<;>simp_all [qQ],by cases o2<;>simp_all [qQ]⟩]
theorem vxg{o:Own}{xs:List D}(h:o≠.dp):Wk (o,.lst xs)=some (.no,.tup xs):=by
 show(if qQ (o,.lst xs)then _ else _)=_;rw[Xf (by cases o<;>simp_all [qQ])]
abbrev XP:=Str->Prop
theorem nd{α:Sort _}{a b:α}(h:a=b):a=b:=h
@[irreducible] noncomputable def Eo {α:Type} (m:Option (Res α)) (P:En->α->Prop) (X:XP):Prop:=match m with
 |some (.ok E a)=>P E a
 |some (.exc _ c)=>X c
 |none=>False
@[irreducible] noncomputable def Vo {α:Type} (m:Option α) (P:α->Prop):Prop:=match m with
 |some a=>P a
 |none=>False
@[irreducible] noncomputable def Oo (f:Fn) (xs:List Sd) (P:Sd->Prop) (X:XP):Prop:=match f xs with
 |some (.ok _ y)=>P y
 |some (.exc _ c)=>X c
 |none=>False
@[irreducible] noncomputable def Po (r:Option Fl) (N C:En->Prop) (R:Sd->Prop) (X:XP):Prop:=match r with
 |some (.nx E)=>N E
 |some (.ct E)=>C E
 |some (.rt _ x)=>R x
 |some (.xc _ c)=>X c
 |_=>False
abbrev noX:XP:=λ_=>False
section
variable {α β:Type}{P:En->α->Prop}{X:XP}{N C:En->Prop}{R:Sd->Prop}{E:En}
theorem vwl{a:α}:Eo (some (.ok E a)) P X=P E a:=nd (by with_unfolding_all rfl)
theorem k8{m:Option (Res β)}{f:En->β->Option (Res α)}:Eo (bnd m f) P X=Eo m (λE a=>Eo (f E a) P X) X:=by
 cases m with
 |none=>with_unfolding_all rfl
 |some r=>cases r<;>with_unfolding_all rfl
theorem vo_some{a:α}{P:α->Prop}:Vo (some a) P=P a:=nd (by with_unfolding_all rfl)
theorem vo_map{x:Option β}{f:β->α}{P:α->Prop}:Vo (x.map f) P=Vo x (λa=>P (f a)):=by cases x<;>with_unfolding_all rfl
theorem xY{x:Option α}:Eo (val E x) P X=Vo x (P E):=by cases x<;>with_unfolding_all rfl
theorem vj5{E:En}:Po (some (.nx E)) N C R X=N E:=nd (by with_unfolding_all rfl)
theorem KJ{m:Option (Res α)}{f:En->α->Option Fl}:Po (ofE m f) N C R X=Eo m (λE a=>Po (f E a) N C R X) X:=by
 cases m with
 |none=>with_unfolding_all rfl
 |some r=>cases r<;>with_unfolding_all rfl
theorem vzp{a b:Sm}:Po (j6 a b E) N C R X=Po (a E) (λE=>Po (b E) N C R X) C R X:=by
 unfold j6 Po;cases a E with
 |none=>with_unfolding_all rfl
 |some r=>cases r<;>with_unfolding_all rfl
theorem Eo.mono{m:Option (Res α)}{P':En->α->Prop}(h:Eo m P X)(k:∀E a,P E a->P' E a):Eo m P' X:=by
 cases m with
 |none=>with_unfolding_all exact h
 |some r=>cases r with
  |ok E a=>with_unfolding_all exact k E a h
  |exc E c=>with_unfolding_all exact h
theorem Oo.mono{f:Fn}{xs:List Sd}{P P':Sd->Prop}(h:Oo f xs P X)(k:∀y,P y->P' y):Oo f xs P' X:=by
 unfold Oo at h ⊢;cases hf:f xs with
 |none=>rw[hf]at h;with_unfolding_all exact h
 |some r=>rw[hf]at h;cases r with
  |ok E a=>with_unfolding_all exact k a h
  |exc E c=>with_unfolding_all exact h
theorem Oo.out{f:Fn}{xs:List Sd}{P:Sd->Prop}(h:Oo f xs P noX):∃E y,f xs=some (.ok E y)/\P y:=by
 unfold Oo at h;cases hf:f xs with
 |none=>rw[hf]at h;with_unfolding_all exact(show False from h).elim
 |some r=>rw[hf]at h;cases r with
  |ok E a=>with_unfolding_all exact⟨E,a,rfl,h⟩
  |exc E c=>with_unfolding_all exact(show False from h).elim
theorem kq{n:Nat}{b:Sm}{xs:List Sd}{P:Sd->Prop}(h:Po (b (xs.map some++List.replicate (n - xs.length) none)) (λ_=>P (.dp,.non)) (λ_=>False) P X):Oo (fn n b) xs P X:=by
 unfold Oo fn;unfold Po at h;cases hb:b (xs.map some++List.replicate (n - xs.length) none)with
 |none=>rw[hb]at h;with_unfolding_all exact h
 |some r=>rw[hb]at h;cases r<;>with_unfolding_all exact h
theorem vwm{f:Fn}{cs:List Ex}{P:En->Sd->Prop}:Eo (jx f cs E) P X=Eo (vk cs E) (λE xs=>Oo f (letAll xs) (P E) X) X:=by
 unfold jx;rw[k8]
 congr 1
 funext E xs;unfold Oo;cases f (letAll xs)with
 |none=>with_unfolding_all rfl
 |some r=>cases r<;>with_unfolding_all rfl
theorem vju{f:Fn}{cs:List Ex}{P:En->Sd->Prop}:Eo (YY f cs E) P X=Eo (vk cs E) (λE xs=>Oo f (letAll xs) (λy=>y.2.pure=true/\P E (.dp,y.2)) X) X:=by
 unfold YY;rw[k8]
 congr 1
 funext E xs;unfold Oo;cases f (letAll xs)with
 | none=>with_unfolding_all rfl
 | some r=>
  cases r with
  |exc=>with_unfolding_all rfl
  |ok E1 y=>
   dsimp only
   by_cases hp:y.2.pure=true
   ·rw[Xf hp];with_unfolding_all exact propext ⟨λh=>⟨hp,h⟩,λh=>h.2⟩
   ·rw[Xm hp];with_unfolding_all exact propext ⟨λh=>(show False from h).elim,λh=>hp h.1⟩
def wqe(d:D){α:Type}(a b:Option α):Option α:=match d with
 |.bl k=>if k=true then a else b
 |_=>none
theorem vww(a b:Ex):x6 a b E=bnd (a E) λE x=>wqe x.2 (b E) (some (.ok E (.dp,.bl false))):=by
 unfold x6 wqe
 congr 1
 funext E x;cases x.2 with
 |bl k=>cases k<;>with_unfolding_all rfl
 |_=>with_unfolding_all rfl
theorem wkp(a b:Ex):cOr a b E=bnd (a E) λE x=>wqe x.2 (some (.ok E (.dp,.bl true))) (b E):=by
 unfold cOr wqe
 congr 1
 funext E x;cases x.2 with
 |bl k=>cases k<;>with_unfolding_all rfl
 |_=>with_unfolding_all rfl
theorem kzx{tg:Tg}{b:Sm}(I:En->List D->Prop)(hs:∀E d ds,I E (d::ds)->Vo (tg.put d E) λE1=>Po (b E1) (λE2=>I E2 ds) (λE2=>I E2 ds) R X)(h1:∀E,I E []->N E):∀ds E,I E ds->Po (JZ tg b ds E) N C R X
 | [],E,h=>by with_unfolding_all exact h1 E h
 | d::ds,E,h=>by
  have h2:=hs E d ds h;unfold JZ;cases hp:tg.put d E with
  | none=>rw[hp]at h2;with_unfolding_all exact(show False from h2).elim
  | some E1=>
   rw[hp]at h2;have h2:Po (b E1) (λE2=>I E2 ds) (λE2=>I E2 ds) R X:=by with_unfolding_all exact h2
   dsimp only;cases hb:b E1 with
   |none=>rw[hb]at h2;with_unfolding_all exact(show False from h2).elim
   |some r=>
    rw[hb]at h2;cases r with
    |nx E2=>with_unfolding_all exact kzx I hs h1 ds E2 h2
    |ct E2=>with_unfolding_all exact kzx I hs h1 ds E2 h2
    |rt E2 x=>with_unfolding_all exact h2
    |xc E2 c=>with_unfolding_all exact h2
    |bk E2=>with_unfolding_all exact(show False from h2).elim
theorem K2{it:Ev (List D)}{tg:Tg}{b:Sm}(I:En->List D->Prop)(h0:Eo (it E) I X)(hs:∀E d ds,I E (d::ds)->Vo (tg.put d E) λE1=>Po (b E1) (λE2=>I E2 ds) (λE2=>I E2 ds) R X)(h1:∀E,I E []->N E):Po (vK it tg b E) N C R X:=by
 show Po (ofE (it E) λE ds=>JZ tg b ds E) N C R X;rw[KJ]
 with_unfolding_all exact h0.mono λE ds h=>kzx I hs h1 ds E h
theorem qxn{tg:Tg}{t:Ts}{c:Ex}{P:En->List Sd->Prop}(J:En->List D->List Sd->Prop)(hs:∀B d ds ah,J B (d::ds) ah->Vo (tg.put d B) λB1=>Eo (t B1) (λB2 k=>if k=true then Eo (c B2) (λB3 y=>J B3 ds (ah++[y])) X else J B2 ds ah) X)(h1:∀B ah,J B [] ah->P B ah):∀ds B ah,J B ds ah->Eo (lcL tg t c ds B ah) P X
 | [],B,ah,h=>by with_unfolding_all exact h1 B ah h
 | d::ds,B,ah,h=>by
  have h2:=hs B d ds ah h;unfold lcL;cases hp:tg.put d B with
  | none=>rw[hp]at h2;with_unfolding_all exact(show False from h2).elim
  | some B1=>
   rw[hp]at h2;have h2:Eo (t B1) (λB2 k=>if k=true then Eo (c B2) (λB3 y=>J B3 ds (ah++[y])) X else J B2 ds ah) X:=by with_unfolding_all exact h2
   dsimp only;rw[k8];refine h2.mono λB2 k h3=>?_
   cases k with
   |false=>with_unfolding_all exact qxn J hs h1 ds B2 ah h3
   |true=>
    show Eo (bnd (c B2) _) P X;rw[k8]
    with_unfolding_all exact Eo.mono (P:=λB3 y=>J B3 ds (ah++[y])) h3 λB3 y h4=>qxn J hs h1 ds B3 _ h4
theorem vjt{o:Own}{k:Nat}{r:List Nat}{it:Ev (List D)}{tg:Tg}{t:Ts}{c:Ex}{P:En->Sd->Prop}(J:En->En->List D->List Sd->Prop)(h0:Eo (it E) (λE1 ds=>J E1 (Vz k r E1) ds []) X)
  (hs:∀E1 B d ds ah,J E1 B (d::ds) ah->Vo (tg.put d B) λB1=>Eo (t B1) (λB2 k=>if k=true then Eo (c B2) (λB3 y=>J E1 B3 ds (ah++[y])) X else J E1 B2 ds ah) X) (h1:∀E1 B ah,J E1 B [] ah->Eo (mkL o (Q0 k r B E1) ah) P X):Eo (cLC o k r it tg t c E) P X:=by
 unfold cLC;rw[k8];refine h0.mono λE1 ds hJ=>?_
 have:=qxn (P:=λB ah=>Eo (mkL o (Q0 k r B E1) ah) P X) (J E1) (hs E1) (h1 E1) ds _ _ hJ;cases hl:lcL tg t c ds (Vz k r E1) []with
 |none=>rw[hl]at this;with_unfolding_all exact(show False from this).elim
 |some q=>rw[hl]at this;cases q<;>with_unfolding_all exact this
end
theorem mulT_i{o1:Own}{a:Int}{y:Sd}:v6 (o1,.int a) y=wke (o1,.int a) y:=by
 unfold v6;with_unfolding_all rfl
def sl(q:Option (Option Sd)):Option Sd:=match q with
 |some (some x)=>some x
 |_=>none
theorem sl_some{x:Sd}:sl (some (some x))=some x:=nd (by with_unfolding_all rfl)
def wqd(d:D)(a b:Prop):Prop:=match d with
 |.bl k=>if k=true then a else b
 |_=>False
theorem andP_bl{k:Bool}{a b:Prop}:wqd (.bl k) a b=if k=true then a else b:=nd (by with_unfolding_all rfl)
def Wo{α:Type}(m:Option α)(E:En)(P:En->α->Prop):Prop:=Vo m (P E)
theorem wo_some{α:Type}{a:α}{E:En}{P:En->α->Prop}:Wo (some a) E P=P E a:=by unfold Wo;exact vo_some
theorem wo_map{α β:Type}{x:Option β}{f:β->α}{E:En}{P:En->α->Prop}:Wo (x.map f) E P=Wo x E (λE a=>P E (f a)):=by unfold Wo;exact vo_map
def Oe(f:Fn)(xs:List Sd)(E:En)(P:En->Sd->Prop)(X:XP):Prop:=Oo f xs (P E) X
def intP(d:D)(P:Int->Prop):Prop:=match d with
 |.int i=>P i
 |_=>False
def Ie(d:D)(E:En)(P:En->Int->Prop):Prop:=intP d (P E)
theorem ie_i{i:Int}{E:En}{P:En->Int->Prop}:Ie (.int i) E P=P E i:=nd (by with_unfolding_all rfl)
section
variable {P:En->Sd->Prop}{T:En->Bool->Prop}{X:XP}{N C:En->Prop}{R:Sd->Prop}{E:En}{e:Option Sd}{a b c:Ex}{t u:Ts}{i:Nat}
theorem w_seq{a b:Sm}:Po (j6 a b (e::E)) N C R X=Po (a (e::E)) (λE=>Po (b E) N C R X) C R X:=vzp
theorem w_asg:Po (jK i c (e::E)) N C R X=Eo (c (e::E)) (λE x=>N (E.set i (some x))) X:=by unfold jK;rw[KJ];with_unfolding_all rfl
theorem w_ret:Po (jw c (e::E)) N C R X=Eo (c (e::E)) (λ_ x=>R x) X:=by unfold jw;rw[KJ];with_unfolding_all rfl
theorem w_pass:Po (kW (e::E)) N C R X=N (e::E):=nd (by with_unfolding_all rfl)
theorem w_if{a b:Sm}:Po (sIf t a b (e::E)) N C R X=Eo (t (e::E)) (λE k=>if k=true then Po (a E) N C R X else Po (b E) N C R X) X:=by
 unfold sIf;rw[KJ];congr 1;funext E k;cases k<;>with_unfolding_all rfl
theorem w_fz{s:Sm}:Po (sFz i s (e::E)) N C R X=Po (s (ZK i (e::E))) N C R X:=nd (by with_unfolding_all rfl)
theorem w_vV:Eo (vV i (e::E)) P X=Wo (sl (e::E)[i]?) (e::E) P:=by
 unfold vV Wo;cases(e::E)[i]? with
 |none=>with_unfolding_all rfl
 |some q=>cases q<;>with_unfolding_all rfl
theorem w_cV:Eo (cV i (e::E)) P X=Wo (sl (e::E)[i]?) (e::E) (λE x=>P (E.set i (some (.no,x.2))) (.no,x.2)):=by
 unfold cV Wo;cases(e::E)[i]? with
 |none=>with_unfolding_all rfl
 |some q=>cases q<;>with_unfolding_all rfl
theorem w_cMv:Eo (cMv i (e::E)) P X=Wo (sl (e::E)[i]?) (e::E) (λE x=>P (E.set i none) x):=by
 unfold cMv Wo;cases(e::E)[i]? with
 |none=>with_unfolding_all rfl
 |some q=>cases q<;>with_unfolding_all rfl
theorem w_cC{d:D}:Eo (cC d (e::E)) P X=P (e::E) (.dp,d):=nd (by with_unfolding_all rfl)
theorem w_vE:Eo (vE c (e::E)) P X=Eo (c (e::E)) (λE x=>P E (.no,x.2)) X:=by unfold vE;rw[k8];with_unfolding_all rfl
theorem w_cH:Eo (cH c (e::E)) P X=Eo (c (e::E)) (λE x=>if x.1=.no then P E (.no,x.2)else if x.2.pure=true then P E (.dp,x.2)else False) X:=by
 unfold cH;rw[k8]
 congr 1
 funext E x
 by_cases h:x.1=.no
 ·rw[Xf h,Xf h];with_unfolding_all rfl
 ·rw[Xm h,Xm h]
  by_cases h2:x.2.pure=true
  ·rw[Xf h2,Xf h2];with_unfolding_all rfl
  ·rw[Xm h2,Xm h2];with_unfolding_all rfl
theorem w_f1{f:Sd->Option Sd}:Eo (cF1 f a (e::E)) P X=Eo (a (e::E)) (λE x=>Wo (f x) E P) X:=by
 unfold cF1;rw[k8];congr 1;funext E x;exact xY
theorem w_f2{f:Sd->Sd->Option Sd}:Eo (cF2 f a b (e::E)) P X=Eo (a (e::E)) (λE x=>Eo (b E) (λE y=>Wo (f x y) E P) X) X:=by
 unfold cF2;rw[k8];congr 1;funext E x;rw[k8];congr 1;funext E y;exact xY
theorem w_ix:Eo (j7 a b (e::E)) P X=Eo (a (e::E)) (λE x=>Eo (b E) (λE y=>Wo (jz x.2 y.2) E (λE d=>P E (sub x.1,d))) X) X:=by
 unfold j7;rw[k8];congr 1;funext E x;rw[k8];congr 1;funext E y;rw[xY];exact vo_map
theorem w_tE:Eo (tE c (e::E)) T X=Eo (c (e::E)) (λE x=>Wo (truth x.2) E T) X:=by
 unfold tE;rw[k8];congr 1;funext E x;exact xY
theorem w_tEQ:Eo (tEQ c (e::E)) T X=Eo (c (e::E)) (λE x=>Wo (truthQ x.2) E T) X:=by
 unfold tEQ;rw[k8];congr 1;funext E x;exact xY
theorem w_tNot:Eo (tNot t (e::E)) T X=Eo (t (e::E)) (λE k=>T E (!k)) X:=by unfold tNot;rw[k8];with_unfolding_all rfl
theorem w_tAnd:Eo (tAnd t u (e::E)) T X=Eo (t (e::E)) (λE k=>if k=true then Eo (u E) T X else T E false) X:=by
 unfold tAnd;rw[k8];congr 1;funext E k;cases k<;>with_unfolding_all rfl
theorem w_tOr:Eo (tOr t u (e::E)) T X=Eo (t (e::E)) (λE k=>if k=true then T E true else Eo (u E) T X) X:=by
 unfold tOr;rw[k8];congr 1;funext E k;cases k<;>with_unfolding_all rfl
theorem w_tYes:Eo (tYes (e::E)) T X=T (e::E) true:=nd (by with_unfolding_all rfl)
theorem w_cIf:Eo (cIf t a b (e::E)) P X=Eo (t (e::E)) (λE k=>if k=true then Eo (a E) P X else Eo (b E) P X) X:=by
 unfold cIf;rw[k8];congr 1;funext E k;cases k<;>with_unfolding_all rfl
theorem w_cAnd:Eo (x6 a b (e::E)) P X=Eo (a (e::E)) (λE x=>wqd x.2 (Eo (b E) P X) (P E (.dp,.bl false))) X:=by
 rw[vww,k8];congr 1;funext E x;cases x.2 with
 |bl k=>cases k<;>with_unfolding_all rfl
 |_=>with_unfolding_all rfl
theorem w_cOr:Eo (cOr a b (e::E)) P X=Eo (a (e::E)) (λE x=>wqd x.2 (P E (.dp,.bl true)) (Eo (b E) P X)) X:=by
 rw[wkp,k8];congr 1;funext E x;cases x.2 with
 |bl k=>cases k<;>with_unfolding_all rfl
 |_=>with_unfolding_all rfl
theorem w_cNotQ:Eo (Z9 c (e::E)) P X=Eo (c (e::E)) (λE x=>Wo (truthQ x.2) E (λE k=>P E (.dp,.bl (!k)))) X:=by
 unfold Z9;rw[k8];congr 1;funext E x;rw[xY];exact vo_map
theorem w_call{f:Fn}{cs:List Ex}:Eo (jx f cs (e::E)) P X=Eo (vk cs (e::E)) (λE xs=>Oe f (letAll xs) E P X) X:=by with_unfolding_all exact vwm
theorem w_callB{f:Fn}{cs:List Ex}:Eo (YY f cs (e::E)) P X=Eo (vk cs (e::E)) (λE xs=>Oe f (letAll xs) E (λE y=>y.2.pure=true/\P E (.dp,y.2)) X) X:=by with_unfolding_all exact vju
theorem w_partN{P:En->Option Int->Prop}:Eo (Vx none (e::E)) P X=P (e::E) none:=nd (by with_unfolding_all rfl)
theorem w_partS{P:En->Option Int->Prop}:Eo (Vx (some c) (e::E)) P X=Eo (c (e::E)) (λE x=>Ie x.2 E (λE i=>P E (some i))) X:=by
 show Eo (bnd (c (e::E)) _) P X=_;rw[k8];congr 1;funext E x;unfold Ie;cases x.2<;>with_unfolding_all rfl
theorem w_sl{lo hi:Option Ex}:Eo (cSl a lo hi (e::E)) P X=Eo (a (e::E)) (λE x=>Eo (Vx lo E) (λE l=>Eo (Vx hi E) (λE h=>Wo (fSl x l h) E P) X) X) X:=by
 unfold cSl;rw[k8];congr 1;funext E x;rw[k8];congr 1;funext E l;rw[k8];congr 1;funext E h;exact xY
theorem w_itS{P:En->List D->Prop}:Eo (itS c (e::E)) P X=Eo (c (e::E)) (λE x=>Wo (seqOf x.2) E P) X:=by
 unfold itS;rw[k8]
 congr 1
 funext E x;exact xY
end
theorem args_nil{e:Option Sd}{E:En}{P:En->List Sd->Prop}{X:XP}:Eo (vk [] (e::E)) P X=P (e::E) []:=nd (by with_unfolding_all rfl)
theorem args_cons{e:Option Sd}{E:En}{c:Ex}{cs:List Ex}{P:En->List Sd->Prop}{X:XP}:Eo (vk (c::cs) (e::E)) P X=Eo (c (e::E)) (λE x=>Eo (vk cs E) (λE xs=>P E (x::xs)) X) X:=by
 show Eo (bnd (c (e::E)) λE x=>bnd (vk cs E) λE xs=>some (.ok E (x::xs))) P X=_;rw[k8]
 congr 1
 funext E x;rw[k8]
 with_unfolding_all rfl
theorem eo_tup{e:Option Sd}{E:En}{cs:List Ex}{P:En->Sd->Prop}{X:XP}:Eo (qZ .no cs (e::E)) P X=Eo (vk cs (e::E)) (λE xs=>P E (.no,.tup (xs.map (·.2)))) X:=by
 unfold qZ;rw[k8]
 with_unfolding_all rfl
theorem eo_lst{e:Option Sd}{E:En}{cs:List Ex}{P:En->Sd->Prop}{X:XP}:Eo (qk .rt cs (e::E)) P X=Eo (vk cs (e::E)) (λE xs=>P E (.rt,.lst (xs.map (·.2)))) X:=by
 unfold qk;rw[k8]
 with_unfolding_all rfl
theorem Kw{c:Ex}{E:En}{P:En->List D->Prop}{X:XP}(h:Eo (c E) (λE x=>∃n:Int,x.2=.int n/\n<=1000/\-1000<=n/\P E (kK 0 n)) X):Eo (qV c E) P X:=by
 unfold qV;rw[k8];refine h.mono ?_;rintro E ⟨o,d⟩ ⟨n,rfl,h1,h2,h3⟩;have:Jk n=true:=by unfold Jk;rw[Yc (by omega),Yc (by omega)];with_unfolding_all rfl
 show Eo (if Jk n=true/\n.toNat<=big then _ else _) P X;rw[Xf ⟨this,by unfold big;omega⟩]
 with_unfolding_all exact h3
theorem vqc{i:Nat}{c:Ex}{E:En}{o:Own}{xs:List D}{N C:En->Prop}{R:Sd->Prop}{X:XP}(h0:E[i]?=some (some (o,.lst xs)))
  (h:Eo (c E) (λE1 x=>∃o ys,E1[i]?=some (some (o,.lst ys))/\o≠.no/\ys.length<10000/\N (E1.set i (some (if o=.dp/\v9 x then .dp else .rt,.lst (ys++[x.2]))))) X):Po (wQ wJ i c E) N C R X:=by
 unfold wQ;rw[h0,Xf (show Wj (some (some (o,.lst xs)))=true from rfl),KJ];refine h.mono ?_;rintro E1 x ⟨o,ys,h1,h2,h3,h4⟩;rw[h1];dsimp only;have hg:wJ ys x.2=some (ys++[x.2]):=by unfold wJ;rw[Xf (by unfold big;omega)]
 rw[Xm h2,hg]
 with_unfolding_all exact h4
theorem qku{i:Nat}{c:Ex}{E:En}{xs:List D}{N C:En->Prop}{R:Sd->Prop}{X:XP}(h0:E[i]?=some (some (.rt,.lst xs)))
  (h:Eo (c E) (λE1 x=>∃ys,E1[i]?=some (some (.rt,.lst ys))/\ys.length<10000/\N (E1.set i (some (.rt,.lst (ys++[x.2]))))) X):Po (wQ wJ i c E) N C R X:=
 vqc h0 (h.mono λE1 x ⟨ys,h1,h2,h3⟩=>⟨.rt,ys,h1,by decide,h2,by rw[Xm (by rintro ⟨z,_⟩;cases z)];with_unfolding_all exact h3⟩)
theorem rng_ok{n:Int}(h1:-1000<=n)(h2:n<=1000):(Jk n=true/\n.toNat<=big)=True:=by
 have:Jk n=true:=by unfold Jk;rw[Yc (by omega),Yc (by omega)];with_unfolding_all rfl
 with_unfolding_all exact eq_true ⟨this,by unfold big;omega⟩
theorem kwb{α:Type}{p:Prop}[Decidable p]{a:Option (Res α)}{P:En->α->Prop}{X:XP}:Eo (if p then a else none) P X=(p/\Eo a P X):=by
 by_cases h:p
 ·rw[Xf h];with_unfolding_all exact propext ⟨λz=>⟨h,z⟩,λz=>z.2⟩
 ·rw[Xm h];with_unfolding_all exact propext ⟨λz=>z.elim,λz=>h z.1⟩
theorem w_R1{c:Ex}{e:Option Sd}{E:En}{P:En->List D->Prop}{X:XP}:Eo (qV c (e::E)) P X=Eo (c (e::E)) (λE x=>Ie x.2 E λE n=>(Jk n=true/\n.toNat<=big)/\P E (kK 0 n)) X:=by
 unfold qV;rw[k8];congr 1;funext E x;cases x.2 with
 |int n=>with_unfolding_all exact kwb
 |_=>with_unfolding_all rfl
theorem qwh{i:Nat}{j c:Ex}{E:En}{xs:List D}{N C:En->Prop}{R:Sd->Prop}{X:XP}(h0:E[i]?=some (some (.dp,.lst xs)))
  (h:Eo (j E) (λE1 y=>∃(n:Int) (ys:List D),y.2=.int n/\0<=n/\E1[i]?=some (some (.dp,.lst xs))/\xs[n.toNat]?=some (.lst ys)/\ys.length<10000/\Eo (c E1) (λE2 x=>E2[i]?=some (some (.dp,.lst xs))/\v9 x=true/\N (E2.set i (some (.dp,.lst (xs.set n.toNat (.lst (ys++[x.2]))))))) X) X):Po (Q3 i j c E) N C R X:=by
 unfold Q3;rw[h0,Xf (show wvq (some (some (Own.dp,D.lst xs)))=true from rfl),KJ];refine h.mono ?_;rintro E1 ⟨o,d⟩ ⟨n,ys,rfl,hn,h1,h2,h3,h4⟩;have hl:n.toNat<xs.length:=(List.getElem?_eq_some_iff.mp h2).1;have hx:ixN xs.length n=some n.toNat:=by unfold ixN;rw[Xf hn,Xf (by omega)]
 rw[h1];dsimp only;rw[hx];dsimp only;rw[h2];dsimp only;rw[KJ];refine h4.mono ?_;rintro E2 x ⟨g1,g2,g3⟩;rw[g1];dsimp only;rw[h2];dsimp only;rw[Xf ⟨g2,by unfold big;omega⟩]
 with_unfolding_all exact g3
theorem lst_dp0{e:Option Sd}{E:En}{P:En->Sd->Prop}{X:XP}:Eo (qk .dp [] (e::E)) P X=P (e::E) (.dp,.lst []):=nd (by with_unfolding_all rfl)
theorem wjh{E:En}{ys:List Sd}{P:En->Sd->Prop}{X:XP}(h:ys.all v9=true):Eo (mkL .dp E ys) P X=P E (.dp,.lst (ys.map (·.2))):=by
 unfold mkL;rw[Xf rfl,Xf h];with_unfolding_all rfl
theorem W8{o:Own}{xs:List D}{lo hi:Option Int}(h:o≠.dp):fSl (o,.lst xs) lo hi=some (.rt,.lst (K7 xs lo hi)):=by
 show(if qQ (o,.lst xs)then _ else _)=_;rw[Xf (by cases o<;>simp_all [qQ])]
theorem wvw{i:Nat}{E:En}{o:Own}{d:D}(h:E[i]?=some (some (o,d))):ZK i E=E.set i (some (.no,d)):=by unfold ZK;rw[h]
theorem sub_no:sub .no=.no:=nd (by with_unfolding_all rfl)
theorem sub_rt:sub .rt=.no:=nd (by with_unfolding_all rfl)
theorem sub_dp:sub .dp=.dp:=nd (by with_unfolding_all rfl)
theorem Oo.use{ι:Sort _}{f:Fn}{xs:List Sd}{g:ι->Sd}{S:ι->Prop}{E:En}{P:En->Sd->Prop}{X:XP}(h:Oo f xs (λy=>∃i,y=g i/\S i) X)(k:∀i,S i->P E (g i)):Oe f xs E P X:=h.mono λy ⟨i,e,s⟩=>e▸k i s
theorem Oo.via{f:Fn}{xs:List Sd}{S:Sd->Prop}{E:En}{P:En->Sd->Prop}{X:XP}(h:Oo f xs S X)(k:∀y,S y->P E y):Oe f xs E P X:=h.mono k
theorem v8{E:En}{ys:List Sd}{P:En->Sd->Prop}{X:XP}:Eo (mkL .rt E ys) P X=P E (.rt,.lst (ys.map (·.2))):=nd (by with_unfolding_all rfl)
theorem w_zip{c d:Ex}{e:Option Sd}{E:En}{P:En->List D->Prop}{X:XP}:Eo (ZV c d (e::E)) P X=Eo (c (e::E)) (λE x=>Eo (d E) (λE y=>Wo ((lstOf x.2).bind λxs=>(lstOf y.2).bind λys=>if xs.length<=big then some (v7 xs ys)else none) E P) X) X:=by
 unfold ZV;rw[k8];congr 1;funext E x;rw[k8];congr 1;funext E y;exact xY
theorem w_chain{f g:D->D->Option D}{a b c:Ex}{e:Option Sd}{E:En}{P:En->Sd->Prop}{X:XP}:Eo (zQ f g a b c (e::E)) P X=Eo (a (e::E)) (λE x=>Eo (b E) (λE y=>Wo (f x.2 y.2) E λE d=>wqd d (Eo (c E) (λE z=>Wo (g y.2 z.2) E λE d=>P E (.dp,d)) X) (P E (.dp,.bl false))) X) X:=by
 unfold zQ;rw [k8]
 congr 1
 funext E x;rw [k8]
 congr 1
 funext E y;cases f x.2 y.2 with
 | none=>with_unfolding_all rfl
 | some d=>
  rw[wo_some];cases d with
  | bl k=>
   rw[andP_bl];cases k with
   |false=>with_unfolding_all rfl
   |true=>
    rw[Xf rfl];dsimp only;rw[k8]
    congr 1
    funext E z;rw[xY];exact vo_map
  |_=>with_unfolding_all rfl
section
variable {a b c kc vc:Ex}{e:Option Sd}{E:En}{X:XP}{N C:En->Prop}{R:Sd->Prop}{P:En->Sd->Prop}
theorem XV{z:Str}:Eo (K0 z c (e::E)) P X=Eo (c (e::E)) (λE x=>Wo (xW z x.2) E (λE d=>P E (.dp,d))) X:=by
 unfold K0;rw[k8];congr 1;funext E x;rw[xY];exact vo_map
end
section
variable {a b c kc vc:Ex}{e:Option Sd}{E:En}{X:XP}{N C:En->Prop}{R:Sd->Prop}{P:En->Sd->Prop}
theorem vxe:Eo (vk3 a b (e::E)) P X=Eo (a (e::E)) (λE x=>qkg x.2=true/\Eo (b E) (λE y=>Wo (qxl x.2 y.2) E (λE d=>P E (.dp,d))) X) X:=by
 unfold vk3;rw[k8];congr 1;funext E x;rw[kwb];congr 1;rw[k8];congr 1;funext E y;rw[xY];exact vo_map
end
section
variable {a b c:Ex}{cs:List Ex}{e:Option Sd}{E:En}{X:XP}{N C:En->Prop}{R:Sd->Prop}{P:En->Sd->Prop}{i r:Nat}{p:List Nat}{d:D}{ds:List D}
theorem vql:Eo (Qx c (e::E)) P X=Eo (c (e::E)) (λE x=>YJ x=true/\P E (.dp,x.2)) X:=by
 unfold Qx;rw[k8];congr 1;funext E x;rw[kwb,vwl]
theorem vk8:Eo (qZ .dp cs (e::E)) P X=Eo (vk cs (e::E)) (λE xs=>xs.all v9=true/\P E (.dp,.tup (xs.map (·.2)))) X:=by
 unfold qZ;rw[k8];congr 1;funext E x;rw[Xf rfl,kwb,vwl]
theorem wvi(h0:E[i]?=some (some (.dp,d)))(gw:D.at p d=some (.lst ds))(hl:ds.length<10000)(h:Eo (c (E.set i none)) (λE1 x=>x.2.pure=true/\N (E1.set i (some (.dp,D.put (.lst (ds++[x.2])) p d)))) X):Po (sPA i p c E) N C R X:=by
 unfold sPA;rw[h0];dsimp only;rw[gw];dsimp only;rw[Xf (by unfold big;omega),KJ];refine h.mono ?_;rintro E1 x ⟨hp,hn⟩;rw[Xf hp,vj5];exact hn
theorem wvg(h0:E[i]?=some (some (.dp,d)))(gw:D.at p d=some (.lst ds))(h:N (E.set i (some (.dp,D.put (.lst []) p d)))):Po (sPC i p E) N C R X:=by
 unfold sPC;rw[h0];dsimp only;rw[gw];dsimp only;rw[vj5];exact h
end
end Q
namespace Q
open PySem
theorem wkh{i:Nat}{c:Ex}{E:En}{xs:List D}{N C:En->Prop}{R:Sd->Prop}{X:XP}(h0:E[i]?=some (some (.rt,.lst xs)))
  (h:Eo (c E) (λE1 x=>∃ys zs,E1[i]?=some (some (.rt,.lst ys))/\x.2=.lst zs/\x.1≠.no/\ys.length+zs.length<10000/\N (E1.set i (some (.rt,.lst (ys++zs))))) X):Po (WY i c E) N C R X:=by
 unfold WY;rw[h0,Xf (show Wj (some (some (Own.rt,D.lst xs)))=true from rfl),KJ];refine h.mono λE1 x ⟨ys,zs,h1,h2,h3,h4,h5⟩=>?_
 rw[h1,h2];dsimp only;have hn:¬(Own.rt=.no\/x.1=.no\/¬ys.length+zs.length<big):=by
  rintro (z|z|z)
  ·cases z
  ·exact h3 z
  ·exact z (by unfold big;omega)
 rw[Xm hn,vj5];exact h5
end Q
namespace C
open PySem Q
noncomputable def jw6:Fn:=fn 4
  (j6 (jK 2 (qk .rt []))
  (j6 (vK (itS (cV 1)) (.n 3) (j6 (wQ wJ 2 (cF2 (pu2 jW) (vV 0) (vV 3)))
  (jK 0 (cF2 (pu2 qK) (vV 0) (vV 3)))))
  (jw (cMv 2))))
noncomputable def Qw:Fn:=fn 11
  (j6 (jK 2 (cC (.str "abcdefghijklmnopqrstuvwxyz")))
  (j6 (sTup [3,4,5] (jx jw6 [(cV 0),(qk .rt [(cC (.int 8)),(cC (.int 840)),(cC (.int 8))])]))
  (j6 (jK 4 (cF2 (pu2 jW) (vV 4) (vE (cF2 jq (vV 3) (C9 1)))))
  (j6 (jK 6 (qk .rt []))
  (j6 (vK (qV (vV 1)) (.n 7) (j6 (jK 8 (cC (.str "")))
  (j6 (vK (qV (vE (cF2 jq (vV 3) (C9 1)))) (.n 9) (j6 (jK 10 (cF2 jq (vE (cF2 (pu2 qK) (vV 0) (vE (cF2 jq (C9 53761) (vE (cF2 v6 (vE (cF2 v6 (C9 26) (vV 9))) (vV 9))))))) (vE (cF2 v6 (vE (cF2 v6 (vV 7) (vE (cF2 jq (vV 5) (C9 1))))) (vE (cF1 (pu1 Q8) (vE (cF2 (pu2 fEq) (vV 9) (vV 4)))))))))
  (jK 8 (cF2 jq (vV 8) (j7 (vV 2) (vE (cF2 (pu2 jW) (vV 10) (C9 26))))))))
  (wQ wJ 6 (cV 8)))))
  (jw (cF1 ZJ (vV 6))))))))
noncomputable def Wq(dr:Fn):Fn:=fn 15
  (j6 (jK 3 (jx jw6 [(jx dr [(cV 0),(cV 1)]),(cF2 jq (vE (cF2 jq (vE (qk .rt [(cC (.int 4)),(cC (.int 8)),(cC (.int 12))])) (vE (cF2 v6 (vE (qk .rt [(cC (.int 12))])) (C9 4))))) (vE (cF2 v6 (vE (qk .rt [(cC (.int 2))])) (C9 4))))]))
  (j6 (jK 4 (cF2 jq (C9 1) (j7 (vV 3) (C9 0))))
  (j6 (jK 5 (cLC .rt 1 [3] (qV (vV 4)) (.n 0) tYes (cF2 (pu2 jW) (j7 (vV 1) (vE (cF2 jq (C9 3) (vV 0)))) (vE (cF2 jq (C9 3) (vE (cF1 (pu1 Q8) (vE (cF2 (pu2 fEq) (j7 (vV 1) (C9 1)) (C9 3))))))))))
  (j6 (jK 6 (cLC .dp 1 [] (qV (vV 4)) (.n 0) tYes (qk .dp [])))
  (j6 (vK (qV (vE (cF2 jq (C9 3) (j7 (vV 3) (C9 2))))) (.n 7) (j6 (jK 8 (jx jw6 [(jx dr [(cV 0),(cF2 jq (vE (cF2 jq (vV 1) (C9 1))) (vV 7))]),(cF2 jq (vE (qk .rt [(cC (.int 12)),(cC (.int 6)),(cC (.int 60)),(cC (.int 12))])) (vE (cF2 v6 (vE (qk .rt [(cC (.int 60))])) (C9 3))))]))
  (j6 (jK 9 (cH (j7 (vV 5) (vE (cF2 (pu2 jW) (j7 (vV 8) (C9 0)) (vV 4))))))
  (j6 (jK 10 (cF2 (pu2 jW) (j7 (vV 8) (C9 3)) (vV 4)))
  (j6 (jK 11 (cF2 jq (vE (qk .rt [(cC (.str "new")),(cC .non)])) (vE (wxa (vV 9)))))
  (j6 (jK 12 (cF1 Wk (vE (cLC .rt 1 [11] (itS (cSl (vV 8) (some (C9 4)) (some (vE (cF2 jq (C9 4) (j7 (vV 5) (vV 10))))))) (.n 0) tYes (cH (j7 (vV 1) (vE (cF2 (pu2 jW) (vV 0) (vE (cF1 (pu1 kX) (vV 1)))))))))))
  (j6 (jK 13 (cH (j7 (vE (cF2 jq (vE (qk .rt [(cC (.str "fresh")),(cC (.str "any"))])) (vE (wxa (vV 9))))) (vE (cF2 (pu2 jW) (j7 (vV 8) (C9 2)) (vE (cF2 jq (C9 2) (vV 9))))))))
  (Q3 6 (vE (cF2 (pu2 jW) (j7 (vV 8) (C9 0)) (vV 4))) (qZ .no [(cH (j7 (vV 2) (vE (cF2 (pu2 jW) (j7 (vV 8) (C9 1)) (vE (cF1 (pu1 kX) (vV 2))))))),(cV 13),(cV 10),(cV 12)])))))))))
  (j6 (sFz 6 (jK 14 (cLC .rt 1 [5,3,6] (qV (vV 4)) (.n 0) tYes (qZ .no [(cH (j7 (vV 1) (vV 0))),(cF2 (pu2 fEq) (j7 (vV 2) (vE (cF2 jq (C9 7) (vV 0)))) (C9 1)),(cH (j7 (vV 3) (vV 0)))]))))
  (jw (qZ .no [(qZ .no [(cF1 V6 (vV 2)),(cV 14)]),(cF2 jq (vE (cF2 jq (vV 1) (C9 4))) (j7 (vV 3) (C9 2)))]))))))))
noncomputable def YX:Fn:=fn 1
  (jw (qZ .no [(cF1 V6 (j7 (vV 0) (C9 0))),(cLC .rt 1 [] (itS (cH (j7 (vV 0) (C9 1)))) (.n 0) tYes (qZ .no [(cH (j7 (vV 0) (C9 0))),(cH (j7 (vV 0) (C9 1))),(cF1 V6 (j7 (vV 0) (C9 2)))]))]))
end C
local macro_rules
 | `(tactic| simp![$ts,*])=>`(tactic| simp(config:={ maxSteps:=1000000,failIfUnchanged:=false,implicitDefEqProofs:=true }) (disch:=omega) only[↓Q.w_seq,↓Q.w_asg,↓Q.w_ret,↓Q.w_pass,↓Q.w_if,↓Q.w_vV,↓Q.w_cV,↓Q.w_cMv,↓Q.w_cC,↓Q.w_vE,↓Q.w_cH,↓Q.w_f1,↓Q.w_f2,↓Q.w_ix,↓Q.w_tE,↓Q.w_tEQ,↓Q.w_tNot,↓Q.w_tAnd,↓Q.w_tOr,↓Q.w_tYes,↓Q.w_cIf,↓Q.w_cAnd,↓Q.w_cOr,↓Q.w_cNotQ,↓Q.w_call,↓Q.w_callB,↓Q.w_partN,↓Q.w_partS,↓Q.w_sl,↓Q.w_itS,↓Q.w_zip,↓Q.w_chain,↓Q.w_R1,Q.rng_ok,true_and,Q.lst_dp0,↓Q.ie_i,Q.isSq,Q.sl_some,↓Q.andP_bl,↓Q.vo_some,↓Q.vo_map,↓Q.wo_some,↓Q.wo_map,↓Q.args_nil,↓Q.args_cons,↓Q.eo_tup,↓Q.eo_lst,Q.letAll,Q.pu2,Q.pu1,Q.f2First,Q.fIsNon,Q.fNotNon,Q.isNon,List.map_cons,List.map_nil,List.cons_append,List.nil_append,Xb,Yt,X4,Nat.reduceAdd,Nat.reduceSub,List.replicate,List.set_cons_zero,List.set_cons_succ,List.getElem?_cons_zero,List.getElem?_cons_succ,Q.len_l,Q.len_t,Q.lt_ii,Q.gt_ii,Q.le_ii,Q.ge_ii,Q.add_i,Q.sub_i,Q.div_i,Q.mod_i,Q.mulT_i,Q.mul_l,Option.map_some,Q.truth,Q.truthQ,Q.D.pure,↓reduceIte,if_true,if_false,ite_true,ite_false,Q.sub_no,Q.sub_rt,Q.sub_dp,Bool.false_eq_true,reduceCtorEq,Bool.not_true,Bool.not_false,Q.Tg.put,Q.setAll,Q.seqOf,Q.lstOf,$ts,*])
namespace C
open Q PySem
abbrev most:Int:=1000*10 ^ 64
abbrev iL(ns:List Int):D:=.lst (ns.map D.int)
def Each(G:D->Sd->Prop):List D->List Sd->Prop
 |[],[]=>True
 |d::ds,y::ys=>G d y/\Each G ds ys
 |_,_=>False
theorem Each.snoc{G:D->Sd->Prop}{d:D}{y:Sd}(h:G d y):∀{ds:List D} {ys:List Sd},Each G ds ys->Each G (ds++[d]) (ys++[y])
 |[],[],_=>⟨h,trivial⟩
 |_::_,_::_,r=>⟨r.1,Each.snoc h r.2⟩
theorem vQ{X:XP}{E:En}{o:Own}{r:List Nat}{it:Ev (List D)}{c:Ex}{P:En->Sd->Prop}(j9:En)(G:D->Sd->Prop)(h0:Eo (it E) (λE1 ds=>r.map (at' E1)=j9/\(∀d∈ds,Eo (c (some (.no,d)::j9)) (λB y=>(∃q,B=q::j9)/\G d y) X)/\∀ys,Each G ds ys->Eo (mkL o (back r j9 (clr r E1)) ys) P X) X):Eo (cLC o 1 r it (.n 0) tYes c E) P X:=by
 refine vjt (λE1 B ij ah=>∃ds bq q,ds=bq++ij/\B=q::j9/\Each G bq ah/\(∀d∈ds,Eo (c (some (.no,d)::j9)) (λB y=>(∃q,B=q::j9)/\G d y) X)/\∀ys,Each G ds ys->Eo (mkL o (back r j9 (clr r E1)) ys) P X) ?_ ?_ ?_
 ·refine h0.mono λE1 ds ⟨h1,h2,h3⟩=>⟨ds,[],none,rfl,by rw[<-h1];rfl,trivial,h2,h3⟩
 ·rintro E1 B d ij ah ⟨ds,bq,q,e,rfl,hE,h2,h3⟩;have hp:(Tg.n 0).put d (q::j9)=some (some (.no,d)::j9):=rfl;rw[hp,vo_some,show tYes (some (Own.no,d)::j9)=some (.ok (some (Own.no,d)::j9) true)from rfl,vwl,Xf rfl];refine(h2 d (by rw[e];simp)).mono ?_;rintro B y ⟨⟨q',rfl⟩,hG⟩;exact⟨ds,bq++[d],q',by rw[e];simp,rfl,hE.snoc hG,h2,h3⟩
 ·rintro E1 B ah ⟨ds,bq,q,e,rfl,hE,h2,h3⟩;rw[Xv]at e;subst e;exact h3 ah hE
theorem kz2{G:D->Sd->Prop}{S:Int->Prop}(hG:∀d y,G d y->∃i,y.2=.int i/\S i):∀{ds:List D} {ys:List Sd},Each G ds ys->∃ps:List Int,ys.map (·.2)=ps.map D.int/\ps.length=ds.length/\∀p∈ps,S p
 |[],[],_=>⟨[],rfl,rfl,λ_ h=>nomatch h⟩
 |d::ds,y::ys,r=>by
  obtain⟨i,e,s⟩:=hG d y r.1;obtain⟨ps,h1,h2,h3⟩:=kz2 hG r.2;exact⟨i::ps,by simp[e,h1],by simp[h2],λp hp=>(List.mem_cons.mp hp).elim (λz=>z▸s) (h3 p)⟩
theorem qko{G:D->Sd->Prop}{S:D->Prop}(hG:∀d y,G d y->S y.2):∀{ds:List D} {ys:List Sd},Each G ds ys->∀z∈ys.map (·.2),S z
 |[],[],_,_,h=>nomatch h
 |d::ds,y::ys,r,z,h=>by
  rcases List.mem_cons.mp h with rfl|h
  ·exact hG d y r.1
  ·exact qko hG r.2 z h
theorem qvr{n:Int}:kK n n=[]:=by unfold kK;rw[Int.sub_self];rfl
theorem kv5{k n:Int}(h:k<n):kK k n=.int k::kK (k+1) n:=by
 unfold kK;have:(n - k).toNat=(n - (k+1)).toNat+1:=by
  obtain⟨m,hm⟩:=Int.eq_ofNat_of_zero_le (show 0<=n - (k+1)by omega);rw[hm,show n - k=(m+1:Nat)by omega];rfl
 rw[this,List.range_succ_eq_map,List.map_cons,Xx]
 congr 1
 ·simp
 ·apply List.map_congr_left;intro i _;simp only[Function.comp]
  congr 1
  omega
theorem qvq{k n:Int}{d:D}{ds:List D}(hk:k<=n)(h:d::ds=kK k n):k<n/\d=.int k/\ds=kK (k+1) n:=by
 by_cases hl:k<n
 ·rw[kv5 hl]at h;injection h with h1 h2;exact⟨hl,h1,h2⟩
 ·have:k=n:=by omega
  subst this;rw[qvr]at h;cases h
theorem qvs{k n:Int}(hk:k<=n)(h:[]=kK k n):k=n:=by
 by_cases hl:k<n
 ·rw[kv5 hl]at h;cases h
 ·omega
theorem K6{k n:Int}{d:D}(h:d∈kK k n):∃i:Int,k<=i/\i<n/\d=.int i:=by
 unfold kK at h;obtain⟨j,hj,rfl⟩:=List.mem_map.mp h;have:=List.mem_range.mp hj;exact⟨k+j,by omega,by omega,rfl⟩
theorem kkm{k n:Int}(h:k<=n):((kK k n).length:Int)=n - k:=by
 unfold kK;rw[X4,Yb];omega
theorem Qk{o1 o2:Own}{a b:Str}(h:a.cps.size+b.cps.size<=10000):jq (o1,.str a) (o2,.str b)=some (.dp,.str (a++b)):=by
 show(if a.cps.size+b.cps.size<=big then _ else _)=_;rw[Xf (by unfold big;omega)]
theorem jz4(a b:Str):(a++b).cps.size=a.cps.size+b.cps.size:=by
 show(a.cps++b.cps).size=_;exact Array.size_append
theorem kk0:∀(ss:List Str),xK (ss.map D.str)=some ss
 |[]=>rfl
 |s::ss=>by rw[List.map_cons,xK,kk0 ss];rfl
abbrev sL(ss:List Str):D:=.lst (ss.map D.str)
theorem ixI(ks:List Int)(S:Int->Prop)(hS:∀k∈ks,S k)(i:Int)(h0:0<=i)(h1:i<ks.length):∃v,jz (iL ks) (.int i)=some (.int v)/\S v/\ks[i.toNat]?=some v:=by
 have hl:i.toNat<ks.length:=by omega
 refine⟨ks[i.toNat],qY h0 (by rw[Xp,X2 hl];rfl),hS _ (Ye hl),X2 hl⟩
def Gd(n:Int)(g:D):Prop:=g=.str "fresh"\/g=.str "any"\/∃i:Int,0<=i/\i<n/\g=.int i
def Fd(n:Int)(g:D):Prop:=g=.str "new"\/g=.non\/∃i:Int,0<=i/\i<n/\g=.int i
noncomputable def St(own:Int)(d:D):Prop:=∃(z:Str) (g:D) (to:Int) (fs:List D),d=.tup [.str z,g,.int to,.tup fs]/\Gd own g/\(∀f∈fs,Fd own f)/\fs.length<=3
noncomputable def Rm(d:D):Prop:=∃(kp:Int) (gd:Bool) (ss:List D),d=.tup [.int kp,.bl gd,.lst ss]/\0<=kp/\kp<=3/\(∀s∈ss,St kp s)/\ss.length<=14
def Rms(rs:List D):Prop:=1<=rs.length/\rs.length<=4/\∀r∈rs,Rm r
def Rmw(rs:List D):Prop:=1<=rs.length/\rs.length<=12/\∀r∈rs,Rm r
instance {rs:List D}:Coe (Rms rs) (Rmw rs):=⟨λh=>⟨h.1,by have:=h.2.1;omega,h.2.2⟩⟩
noncomputable def Sx(sgs:List Str)(cj:List Int)(d:D):Prop:=∃(z:Str) (g:D) (to:Int) (fs:List D),d=.tup [.str z,g,.int to,.tup fs]/\z∈sgs/\0<=to/\to<cj.length/\(fs.length:Int)=cj.getD to.toNat 0
def At(d:D):Prop:=d=.non\/∃i,d=.int i
theorem K4{n:Nat}:∀{ks:List D},(∀k∈ks,k.flat n=true)->D.flats n ks=true
 |[],_=>by cases n<;>simp[D.flats]
 |k::ks,h=>by rw[D.flats,h k X3,K4 λe he=>h e (lc9 _ he)];rfl
mutual
theorem WQ:∀{n:Nat} (d:D),d.flat n=true->peq d d=true
 |n,.non,_=>by simp[peq]
 |n,.bl b,_=>by simp[peq]
 |n,.int b,_=>by simp[peq]
 |n,.str b,_=>by simp[peq]
 |0,.tup xs,h=>by simp[D.flat]at h
 |0,.lst xs,h=>by simp[D.flat]at h
 |n+1,.tup xs,h=>by rw[peq];exact peqs_refl xs (by simpa [D.flat]using h)
 |n+1,.lst xs,h=>by rw[peq];exact peqs_refl xs (by simpa [D.flat]using h)
 |n,.dct _,h=>by cases n<;>simp[D.flat]at h
 |n,.obj _ _,h=>by cases n<;>simp[D.flat]at h
theorem peqs_refl:∀{n:Nat} (ds:List D),D.flats n ds=true->peqs ds ds=true
 |_,[],_=>by simp[peqs]
 |n,d::ds,h=>by
  rw[D.flats,Bool.and_eq_true]at h;rw[peqs,WQ d h.1,peqs_refl ds h.2];rfl
end
theorem eq_self{d:D}(h:d.flat 40=true):fEq d d=some (.bl true):=by unfold fEq;rw[h,WQ d h];rfl
theorem ZW{d:D}(h:d.flat 40=true):fNe d d=some (.bl false):=by unfold fNe;rw[h,WQ d h];rfl
noncomputable def fitB(ks:List D)(d g:D):Bool:=match g with
 |.int i=>peq (ks.getD i.toNat .non) d
 |.str s=>if s="fresh" then !ks.any λz=>peq z d else true
 |_=>true
theorem ix1(c g r f:D):jz (.tup [c,g,r,f]) (.int 1)=some g:=rfl
theorem ix2(c g r f:D):jz (.tup [c,g,r,f]) (.int 2)=some r:=rfl
theorem p0(a b:D):jz (.tup [a,b]) (.int 0)=some a:=rfl
theorem p1(a b:D):jz (.tup [a,b]) (.int 1)=some b:=rfl
theorem t0(a b c:D):jz (.tup [a,b,c]) (.int 0)=some a:=rfl
theorem t1(a b c:D):jz (.tup [a,b,c]) (.int 1)=some b:=rfl
theorem t2(a b c:D):jz (.tup [a,b,c]) (.int 2)=some c:=rfl
def wk5(ks:List D)(d f:D):D:=match f with
 |.int i=>ks.getD i.toNat .non
 |.str _=>d
 |_=>.non
theorem J4{G:D->Sd->Prop}{h:D->D}(hG:∀d y,G d y->y.2=h d):∀{ds:List D} {ys:List Sd},Each G ds ys->ys.map (·.2)=ds.map h
 |[],[],_=>rfl
 |d::ds,y::ys,r=>by rw[List.map_cons,List.map_cons,hG d y r.1,J4 hG r.2]
abbrev qX(ss:List Str)(rs:List D):D:=.tup [sL ss,.lst rs]
def ww7(z:Str)(ks:List D)(d s:D):Bool:=match s with
 |.tup [.str w,g,_,_]=>(w==z)&&fitB ks d g
 |_=>false
noncomputable def qxj(p:D->Bool):Nat->List D->List D
 |_,[]=>[]
 |k,s::r=>if p s=true then .int k::qxj p (k+1) r else qxj p (k+1) r
def qz1(ks:List D)(d s:D):D:=match s with
 |.tup [_,_,to,.tup fs]=>.tup [to,.tup (fs.map (wk5 ks d))]
 |_=>.non
theorem vwn{G:D->Sd->Prop}(hG:∀d y,G d y->y.2=d){ds:List D}{ys:List Sd}(h:Each G ds ys):ys.map (·.2)=ds:=by
 rw[J4 (h:=id) hG h,List.map_id]
theorem vku{o:Own}{xs:List D}(h:o≠.dp):V6 (o,.lst xs)=some (.rt,.lst xs):=by
 show(if qQ (o,.lst xs)then _ else _)=_;rw[Xf (by cases o<;>simp_all [qQ])]
theorem wx7{z:Str}{ss:List Str}:wV (.str z) (sL ss)=some (.bl (ss.any λw=>w==z)):=by
 show(if(D.str z).flat 30&&D.flats 30 (ss.map D.str)then some (D.bl ((ss.map D.str).any λw=>peq w (.str z)))else none)=_;rw[show(D.str z).flat 30=true from rfl,K4 (ks:=ss.map D.str) (λk hk=>by obtain⟨w,_,rfl⟩:=List.mem_map.mp hk;rfl),List.any_map];rfl
def wr(x:Int):Int:=if x<=0 then x else x - 10 ^ 60
def wqc(own k:Int):Int:=own+(if k=own then 1 else 0)
noncomputable def Cs(cj:List Int)(b:Int)(c:D):Prop:=c=.non\/∃(to:Int) (fs:List Int),c=.tup [.int to,.tup (fs.map D.int)]/\0<=to/\to<cj.length/\(∀f∈fs,0<=f/\f<b)/\fs.Nodup/\(fs.length:Int)=cj.getD to.toNat 0
noncomputable def Pr(cj:List Int)(n:Nat)(own:Int)(d:D):Prop:=∃(gd:Bool) (st:List D),d=.tup [.int own,.bl gd,.lst st]/\st.length=n/\∀c∈st,∃cs:List D,c=.lst cs/\(cs.length:Int)=own+1/\∀k:Nat,k<cs.length->∃z,cs[k]?=some z/\Cs cj (wqc own k) z
theorem wku{a b:List D}(hl:a.length+b.length<=10000):jq (.no,.tup a) (.no,.tup b)=some (.no,.tup (a++b)):=by
 show(if a.length+b.length<=big/\qQ (.no,.tup a)/\qQ (.no,.tup b)then _ else _)=_;rw[Xf ⟨by unfold big;omega,rfl,rfl⟩]
abbrev iT(ks:List Int):D:=.tup (ks.map D.int)
def wjg(ks:List Int)(p:Int)(f:Int):Int:=(ks++[p]).getD f.toNat 0
noncomputable def ww9(ks:List Int)(p:Int)(c:D):D:=match c with
 |.tup [to,.tup fs]=>.tup [to,.tup (fs.map λf=>match f with|.int i=>.int (wjg ks p i)|_=>.non)]
 |_=>.non
noncomputable def wko(ss:List Str)(st:List D)(ks:List Int)(z:Str)(p:Int):D:=match st[ss.findIdx λw=>w==z]? with
 |some (.lst cs)=>cs.getD (ks.findIdx λw=>w==p) .non
 |_=>.non
noncomputable def vz0(ss:List Str)(st:List D)(ks:List Int)(z:Str)(p:Int):D:=if(ss.any λw=>w==z)=true then ww9 ks p (wko ss st ks z p)else .non
noncomputable def Cas(cj:List Int)(n:Nat)(own:Int)(st:List D):Prop:=st.length=n/\∀c∈st,∃cs:List D,c=.lst cs/\(cs.length:Int)=own+1/\∀k:Nat,k<cs.length->∃z,cs[k]?=some z/\Cs cj (wqc own k) z
inductive DR1 (ns:List Int)(k:Int):En->List D->Prop
 |mk (x:Int) (f:Int) (j:Int) {o3:Own} {o4:Own} {l5:Option Sd} {j9:List D} (h0:0<=x) (h1:x<10000000000) (h2:0<=j) (h3:j<=8) (h4:j9=kK j 8):DR1 ns k [some (.no,iL ns),some (.no,.int k),some (.dp,.int most),some (o3,.int x),some (o4,.int f),l5] j9
noncomputable def Go(rs:List D)(s:D)(w:Str×Int)(k:Nat)(s':D):Prop:=∃(b7:Int) (ks st:List D) (gd:D),s=.tup [.int b7,.tup ks]/\0<=b7/\rs[b7.toNat]?=some (.tup [.int ks.length,gd,.lst st])/\(∀s∈st,St ks.length s)/\(∀k∈ks,At k)/\∃h:k<st.length,D.int k∈qxj (ww7 w.1 ks (.int w.2)) 0 st/\s'=qz1 ks (.int w.2) st[k]
abbrev Lg:=List ((Str×Int)×Nat)
def wq3(rs:List D):D->Lg->D->Prop
 |s,[],s'=>s=s'
 |s,x::r,s'=>∃m,Go rs s x.1 x.2 m/\wq3 rs m r s'
abbrev wwi(L:Lg):List D:=L.map λx=>.int x.2
end C
namespace C
open Q PySem
noncomputable def Rd(cj:List Int)(ss:List Str)(rs:List D)(s:D)(w:Str×Int)(s':D):Prop:=(s=.non/\s'=.non)\/∃(b7:Int) (ks:List Int) (st:List D) (kp gd:D),s=.tup [.int b7,iT ks]/\0<=b7/\rs[b7.toNat]?=some (.tup [kp,gd,.lst st])/\Cas cj ss.length ks.length st/\ks.length<=3/\s'=vz0 ss st ks w.1 w.2
abbrev st0:D:=.tup [.int 0,iT []]
noncomputable def wk7(rs:List D)(s:D):Bool:=match s with
 |.tup [.int b7,_]=>(match rs[b7.toNat]? with
  |some (.tup [_,.bl b,_])=>b
  |_=>false)
 |_=>false
end C
namespace C
open Q PySem
noncomputable section
def QY(K:List D)(d:D):List D:=if d∈K then K else K++[d]
def YV:D->List D
 |.tup [_,.tup ks]=>ks
 |_=>[]
noncomputable def wwl(rs:List D):D->List D
 |.tup [.int r,_]=>(match rs.getD r.toNat .non with
  |.tup [_,_,.lst st]=>st
  |_=>[])
 |_=>[]
noncomputable def wvv(rs:List D):D->Bool
 |.tup [.int r,_]=>(match rs.getD r.toNat .non with
  |.tup [_,.bl b,_]=>b
  |_=>false)
 |_=>false
def bh(ks st:List D)(p:Int):D->D
 |.int k=>qz1 ks (.int p) (st.getD k.toNat .non)
 |_=>.non
noncomputable def vjd(rs:List D)(w:Str×Int)(s:D):List D:=(qxj (ww7 w.1 (YV s) (.int w.2)) 0 (wwl rs s)).map (bh (YV s) (wwl rs s) w.2)
def wqm(rs:List D)(w:Str×Int)(K:List D):List D:=(K.flatMap (vjd rs w)).foldl QY []
def wwm(rs:List D):List (Str×Int)->List D->List D
 |[],K=>K
 |w::ws,K=>wwm rs ws (wqm rs w K)
end
noncomputable def SokV(cj:List Int)(V:List D)(s:D):Prop:=∃(b7:Int) (ks:List D),s=.tup [.int b7,.tup ks]/\0<=b7/\b7<cj.length/\(ks.length:Int)=cj.getD b7.toNat 0/\(∀k∈ks,At k)/\∀k∈ks,k∈V
def Kin(cj:List Int)(V K:List D):Prop:=K.Nodup/\∀s∈K,SokV cj V s
abbrev Kvs:=List (D×D)
abbrev Lws:=List (Str×Int)
noncomputable def Wd(rs:List D)(s0:D)(pre:List (Str×Int))(ao:List (D×D)):Prop:=∀e∈ao,∃L:Lg,e.2=.lst (wwi L)/\L.map (·.1)=pre/\wq3 rs s0 L e.1
inductive WO1 (ss:List Str)(rs V:List D)(cj:List Int)(s0:D)(pre:Lws)(ao:Kvs)(z:Str)(p:Int):En->List D->Prop
 |mk (mw:Kvs) (rg:Kvs) (kv:Kvs) {l5:Option Sd} {l6:Option Sd} {l7:Option Sd} {l8:Option Sd} {j9:List D} (h0:j9=rg.map (λe=>D.tup [e.1,e.2])) (h1:ao=mw++rg) (h2:kv.map (·.1)=((mw.map (·.1)).flatMap (vjd rs (z,p))).foldl QY []) (h3:Kin cj V (kv.map (·.1))) (h4:Wd rs s0 (pre++[(z,p)]) kv):WO1 ss rs V cj s0 pre ao z p [some (.no,qX ss rs),some (.no,.dct ao),some (.no,.str z),some (.no,.int p),some (.rt,.dct kv),l5,l6,l7,l8] j9
inductive WO2 (ss:List Str)(rs V:List D)(cj:List Int)(s0:D)(pre:Lws)(ao:Kvs)(z:Str)(p:Int)(b7:Int)(ks st:List D)(L:Lg)(mw:Kvs):En->List D->Prop
 |mk (f1:List D) (kv:Kvs) {l7:Option Sd} {l8:Option Sd} {j9:List D} (h0:qxj (ww7 z ks (.int p)) 0 st=f1++j9) (h1:kv.map (·.1)=(f1.map (bh ks st p)).foldl QY (((mw.map (·.1)).flatMap (vjd rs (z,p))).foldl QY [])) (h2:Kin cj V (kv.map (·.1))) (h3:Wd rs s0 (pre++[(z,p)]) kv):WO2 ss rs V cj s0 pre ao z p b7 ks st L mw [some (.no,qX ss rs),some (.no,.dct ao),some (.no,.str z),some (.no,.int p),some (.rt,.dct kv),some (.no,.tup [.int b7,.tup ks]),some (.no,.lst (wwi L)),l7,l8] j9
abbrev rwD(ws:List (Str×Int)):List D:=ws.map λw=>.tup [.str w.1,.int w.2]
inductive WB1 (ss:List Str)(rs:List D)(s0:D)(ws:Lws):En->List D->Prop
 |mk (w1:Lws) (w2:Lws) (kv:Kvs) {l3:Option Sd} {l4:Option Sd} {j9:List D} (h0:j9=rwD w2) (h1:ws=w1++w2) (h2:kv.map (·.1)=wwm rs w1 [s0]) (h3:Wd rs s0 w1 kv):WB1 ss rs s0 ws [some (.no,qX ss rs),some (.no,.lst (rwD ws)),some (.rt,.dct kv),l3,l4,none,none] j9
inductive WB2 (ss:List Str)(rs:List D)(ws:Lws)(kv:Kvs):En->List D->Prop
 |mk (mw:Kvs) (rg:Kvs) {o2:Own} {l3:Option Sd} {l4:Option Sd} {l5:Option Sd} {l6:Option Sd} {j9:List D} (h0:j9=rg.map (λe=>D.tup [e.1,e.2])) (h1:kv=mw++rg) (h2:(mw.map (·.1)).any (wvv rs)=false):WB2 ss rs ws kv [some (.no,qX ss rs),some (.no,.lst (rwD ws)),some (o2,.dct kv),l3,l4,l5,l6] j9
noncomputable section
end
end C
namespace B
open Q PySem C
abbrev Sn:=Option (Int×List Int)
def nms:Sn->List Int
 |none=>[]
 |some p=>p.2
def rmO:Sn->Int
 |none=>-1
 |some p=>p.1
def wx8(o t:List Int):List Int:=o++t.filter λn=>!(o.any λw=>w==n)
noncomputable def wqq(t:List Int):Nat->List Int->List (Int×Int)
 |_,[]=>[]
 |k,n::o=>if(t.any λw=>w==n)=true then((k:Int),((t.findIdx λw=>w==n:Nat):Int))::wqq t (k+1) o else wqq t (k+1) o
abbrev prs(l:List (Int×Int)):List D:=l.map λp=>.tup [.int p.1,.int p.2]
def vvo(a b:Sn):D:=.tup [.int (rmO a),.int (rmO b),.tup (prs (wqq (nms b) 0 (nms a)))]
theorem eqi{a b:Int}{k:Bool}(h:(a==b)=k):fEq (.int a) (.int b)=some (.bl k):=by rw[<-h];rfl
def vxn(b7:Int)(ks:List Int):Sn:=if b7=-1 then none else some (b7,ks)
noncomputable def nmF(own:Int)(kv:List (Int×Int)):Nat->List Int
 |0=>[]
 |n+1=>nmF own kv n++[match valI kv n with
  |some i=>i
  |none=>own+((nmF own kv n).filter λx=>decide (own<=x)).length]
def kvS(sh:List (Int×Int)):List (Int×Int):=(sh.map λp=>(p.2,p.1)).foldl (λkv p=>putI kv p.1 p.2) []
abbrev rngL(k:Int):List Int:=(List.range k.toNat).map λ(i:Nat)=>(i:Int)
def fst1(p k:Int):Sn:=vxn p (rngL k)
def fst2(q k k':Int)(sh:List (Int×Int)):Sn:=vxn q (nmF k (kvS sh) k'.toNat)
end B
namespace B
open PySem Q
noncomputable def m__law_cell_at:Fn:=fn 2
  (j6 (sIf (tE (cF2 (pu2 fLt) (vV 1) (vE (cF1 (pu1 kX) (vV 0))))) (jw (cH (j7 (vV 0) (vV 1)))) kW)
  (jw (cC (.int 0))))
noncomputable def m__law_whole:Fn:=fn 1
  (jw (x6 (vE (cF1 (pu1 (k5 "int")) (vV 0))) (Z9 (vE (cF1 (pu1 (k5 "bool")) (vV 0))))))
noncomputable def kw4:Fn:=fn 5
  (j6 (jK 2 (qk .rt []))
  (j6 (sIf (tE (cF2 (pu2 fEq) (vE (cF2 (pu2 jW) (vV 0) (C9 2))) (C9 1))) (j6 (jK 0 (cF2 (pu2 qK) (vV 0) (C9 2)))
  (j6 (vK (qV (vV 1)) (.n 3) (j6 (wQ wJ 2 (cF2 (pu2 jW) (vV 0) (C9 2147483647)))
  (jK 0 (cF2 (pu2 qK) (vV 0) (C9 2147483647)))))
  (jw (cMv 2)))) kW)
  (j6 (jK 4 (cF2 jq (vE (cF2 (pu2 jW) (vE (cF2 (pu2 qK) (vV 0) (C9 2))) (C9 2147483647))) (C9 48271)))
  (j6 (vK (qV (vE (cF2 jq (vV 1) (C9 1)))) (.n 3) (j6 (jK 4 (cF2 (pu2 jW) (vE (cF2 jq (vE (cF2 jq (vE (cF2 v6 (vV 4) (vV 4))) (vE (cF2 v6 (C9 48271) (vV 4))))) (vV 3))) (C9 2147483647)))
  (wQ wJ 2 (cF2 (pu2 jW) (vE (cF2 jq (vE (cF2 v6 (vV 4) (C9 40692))) (vE (cF2 v6 (C9 7) (vV 3))))) (C9 2147483399)))))
  (jw (cSl (vV 2) (some (C9 1)) none))))))
noncomputable def Qw:Fn:=fn 7
  (j6 (jK 1 (cC (.str "abcdefghijklmnopqrstuvwxyz")))
  (j6 (jK 2 (jx kw4 [(cV 0),(cC (.int 9))]))
  (j6 (jK 3 (K0 "" (vE (cLC .rt 1 [1] (itS (cSl (vV 2) none (some (vE (cF2 jq (C9 1) (vE (cF2 (pu2 jW) (vV 0) (C9 8)))))))) (.n 0) tYes (cH (j7 (vV 1) (vE (cF2 (pu2 jW) (vV 0) (C9 26)))))))))
  (j6 (jK 4 (cF2 (pu2 jW) (vE (cF2 (pu2 qK) (vV 0) (C9 8))) (vE (cF1 (pu1 kX) (vV 3)))))
  (j6 (jK 5 (qk .rt []))
  (j6 (vK (qV (j7 (vE (qk .rt [(cC (.int 1)),(cC (.int 2)),(cC (.int 1)),(cC (.int 2)),(cC (.int 2)),(cC (.int 1)),(cC (.int 2)),(cC (.int 3))])) (vE (cF2 (pu2 jW) (vE (cF2 (pu2 qK) (vV 0) (C9 64))) (C9 8))))) (.n 6) (wQ wJ 5 (cF2 jq (vE (cF2 jq (vE (cSl (vV 3) none (some (vV 4)))) (j7 (vV 1) (vE (cF2 jq (vE (cF2 (pu2 jW) (j7 (vV 2) (C9 8)) (C9 24))) (vV 6)))))) (vE (cSl (vV 3) (some (vE (cF2 jq (vV 4) (C9 1)))) none)))))
  (jw (cMv 5))))))))
end B
namespace B
open Q PySem C
def kz5(ns:List Int)(k:Nat):Int:=ns.getD k 0
theorem cell_ok(ns:List Int)(k:Nat)(hn:ns.length<=10000):Oo m__law_cell_at [(.no,iL ns),(.no,.int k)] (λy=>∃o':Own,y=(o',.int (kz5 ns k))/\True) noX:=by
 unfold m__law_cell_at;refine kq ?_;simp![]
 by_cases h:(k:Int)<ns.length
 ·have hx:jz (iL ns) (.int k)=some (.int (kz5 ns k)):=by
   refine qY (by omega) ?_;unfold kz5;rw[Y1,Xp,X2 (by omega),X9,X2 (by omega)];rfl
  have hd:decide ((k:Int)<ns.length)=true:=Yc h;rw[Xf hd];simp![hx];exact⟨_,rfl,trivial⟩
 ·have hd:¬decide ((k:Int)<ns.length)=true:=by rw[Y8 h];decide
  rw[Xm hd];refine⟨.dp,?_,trivial⟩;rw[show kz5 ns k=0 by unfold kz5;rw[X9,Yp (by omega)];rfl]
def St(n:Int)(xs:List Int):Prop:=(xs.length:Int)=n/\∀x∈xs,0<=x/\x<2147483647
inductive PlC (c:Int)(ss:List Str)(xs:List Int)(size m:Int)(cj:List Int)(rs:List D)(r own:Int)(st:List D)(s:Int):En->List D->Prop
 |mk (k:Int) (fm:Int) (cs:List D) {o5:Own} {o7:Own} {lf:Option Sd} {j9:List D} (h0:sub o5=.no) (h1:0<=k) (h2:k<=own+1) (h3:j9=kK k (own+1)) (h4:(cs.length:Int)=k) (h5:8<=fm) (h6:fm<=8+(3*(m+1)+1)*r+(m+1)*s+k) (h7:∀k:Nat,k<cs.length->∃z,cs[k]?=some z/\Cs cj (wqc own k) z):PlC c ss xs size m cj rs r own st s [some (.no,.int c),some (.no,sL ss),some (.rt,iL xs),some (.no,.int size),some (.dp,.int m),some (o5,iL cj),some (.rt,.lst rs),some (o7,.int fm),some (.no,.int r),some (.rt,.lst st),some (.no,.int s),some (.rt,.lst cs),lf] j9
inductive PlB (c:Int)(ss:List Str)(xs:List Int)(size m:Int)(cj:List Int)(rs:List D)(r own:Int):En->List D->Prop
 |mk (s:Int) (fm:Int) (st:List D) {o5:Own} {o7:Own} {fv:Option Sd} {ly:Option Sd} {lf:Option Sd} {j9:List D} (h0:sub o5=.no) (h1:0<=s) (h2:s<=ss.length) (h3:j9=kK s ss.length) (h4:(st.length:Int)=s) (h5:8<=fm) (h6:fm<=8+(3*(m+1)+1)*r+(m+1)*s) (h7:∀c∈st,∃cs:List D,c=.lst cs/\(cs.length:Int)=own+1/\∀k:Nat,k<cs.length->∃z,cs[k]?=some z/\Cs cj (wqc own k) z):PlB c ss xs size m cj rs r own [some (.no,.int c),some (.no,sL ss),some (.rt,iL xs),some (.no,.int size),some (.dp,.int m),some (o5,iL cj),some (.rt,.lst rs),some (o7,.int fm),some (.no,.int r),some (.rt,.lst st),fv,ly,lf] j9
inductive PlA (c:Int)(ss:List Str)(xs:List Int)(size m:Int)(cj:List Int):En->List D->Prop
 |mk (r:Int) (fm:Int) (rs:List D) {l8:Option Sd} {l9:Option Sd} {fv:Option Sd} {ly:Option Sd} {lf:Option Sd} {o5:Own} {o7:Own} {j9:List D} (h0:sub o5=.no) (h1:0<=r) (h2:r<=size) (h3:j9=kK r size) (h4:(rs.length:Int)=r) (h5:8<=fm) (h6:fm<=8+(3*(m+1)+1)*r) (h7:∀i:Nat,i<rs.length->∃d,rs[i]?=some d/\Pr cj ss.length (cj.getD i 0) d):PlA c ss xs size m cj [some (.no,.int c),some (.no,sL ss),some (.rt,iL xs),some (.no,.int size),some (.dp,.int m),some (o5,iL cj),some (.rt,.lst rs),some (o7,.int fm),l8,l9,fv,ly,lf] j9
theorem qjh:∀{ps:List Str},(∀p∈ps,p.length=1)->(ps.map (·.length)).sum=ps.length
 |[],_=>rfl
 |p::ps,h=>by rw[List.map_cons,List.sum_cons,h p X3,qjh λq hq=>h q (lc9 _ hq),Xb];omega
theorem sl_s{o:Own}{z:Str}{lo hi:Option Int}(h:z.cps.size<=100):fSl (o,.str z) lo hi=some (.dp,.str (Txt.slice z lo hi)):=by
 have hl:(Txt.slice z lo hi).length<=z.length:=Txt.slice_le z lo hi;have h:z.length<=100:=h;show(if(Txt.slice z lo hi).length<=big then _ else none)=_;rw[Xf (by unfold big;omega)]
def wk5(S:Sn)(c:Int):D:=if c∈nms S then .int ((nms S).findIdx λw=>w==c:Nat)else .non
end B
namespace A
open PySem Q
noncomputable def m__law_mixed:Fn:=fn 3
  (j6 (sIf (tE (cF2 (pu2 fEq) (vE (cF2 (pu2 jW) (vV 0) (C9 2))) (C9 0))) (jw (cF2 (pu2 qK) (vV 0) (vE (cF2 (pu2 wvy) (C9 2) (vE (cF2 v6 (C9 8) (vV 1))))))) kW)
  (j6 (jK 2 (cF2 (pu2 jW) (vE (cF2 v6 (vE (cF2 jq (vE (cF2 jq (vE (cF2 (pu2 jW) (vV 0) (C9 2147483647))) (vE (cF2 v6 (C9 69621) (vV 1))))) (C9 7919))) (C9 48271))) (C9 2147483647)))
  (j6 (jK 2 (cF2 (pu2 jW) (vE (cF2 v6 (vV 2) (vV 2))) (C9 2147483629)))
  (jw (cF2 (pu2 jW) (vE (cF2 jq (vE (cF2 v6 (vV 2) (vV 2))) (vE (cF2 v6 (C9 16807) (vV 1))))) (C9 2147483587))))))
noncomputable def m__law_words:Fn:=fn 9
  (j6 (jK 2 (cC (.str "abcdefghijklmnopqrstuvwxyz")))
  (j6 (jK 3 (K0 "" (vE (cLC .rt 1 [2,0] (qV (C9 8)) (.n 0) tYes (cH (j7 (vV 1) (vE (cF2 (pu2 jW) (vE (jx m__law_mixed [(cV 2),(cV 0)])) (C9 26)))))))))
  (j6 (sIf (tE (cF2 (pu2 fEq) (vE (cF2 (pu2 jW) (vV 0) (C9 3))) (C9 1))) (jw (cLC .rt 1 [3,0] (qV (vV 1)) (.n 0) tYes (cSl (vV 1) none (some (vE (cF2 jq (C9 1) (vE (cF2 (pu2 jW) (vE (cF2 jq (vV 0) (vE (cF2 (pu2 qK) (vV 2) (C9 3))))) (C9 8))))))))) kW)
  (j6 (jK 4 (cF2 jq (C9 1) (vE (cF2 (pu2 jW) (vE (cF2 (pu2 qK) (vV 0) (C9 3))) (C9 8)))))
  (j6 (jK 5 (cF2 (pu2 jW) (vE (cF2 (pu2 qK) (vV 0) (C9 24))) (vV 4)))
  (j6 (jK 6 (qk .rt []))
  (j6 (vK (qV (vV 1)) (.n 7) (j6 (jK 8 (cF2 (pu2 jW) (vE (cF2 jq (vE (vk3 (vV 2) (j7 (vV 3) (vV 5)))) (vE (cF2 v6 (vV 7) (vE (cF2 jq (C9 1) (vE (cF2 (pu2 jW) (vE (cF2 (pu2 qK) (vV 0) (C9 192))) (C9 5))))))))) (C9 26)))
  (wQ wJ 6 (cF2 jq (vE (cF2 jq (vE (cSl (vV 3) none (some (vV 5)))) (j7 (vV 2) (vV 8)))) (vE (cSl (vV 3) (some (vE (cF2 jq (vV 5) (C9 1)))) (some (vV 4))))))))
  (jw (cMv 6)))))))))
end A
namespace A
open Q PySem C B
theorem vzo{n:Nat}(h:n<=8000):((2:Int)*2 ^ n).natAbs.log2<9000:=by
 have e:((2:Int)*2 ^ n).natAbs=2 ^ (n+1):=by
  rw[Int.natAbs_mul,Int.natAbs_pow,Nat.pow_succ,Nat.mul_comm];rfl
 rw[e,Nat.log2_two_pow];omega
theorem wqr{n:Int}(h0:0<=n)(h1:n<=8000):wvy (.int 2) (.int n)=some (.int (2*2 ^ n.toNat)):=by
 show(if 0<=n/\n<=1000000/\(2:Int).natAbs<2 ^ 64 then some (2*2 ^ n.toNat)else none).map D.int=_;rw[Xf ⟨h0,by omega,by decide⟩];rfl
theorem ww4{c n:Int}(h1:n<=8000):qK (.int c) (.int (2*2 ^ n.toNat))=some (.int (c / (2*2 ^ n.toNat))):=by
 show(if 0<(2:Int)*2 ^ n.toNat/\((2:Int)*2 ^ n.toNat).natAbs.log2<9000 then some (c / (2*2 ^ n.toNat))else none).map D.int=_;rw[Xf ⟨Int.mul_pos (by decide) (Int.pow_pos (by decide)),vzo (by omega)⟩];rfl
theorem mixed_ok(c k:Int)(h0:0<=k)(h1:k<=100):Oo m__law_mixed [(.no,.int c),(.no,.int k)] (λy=>∃v:Int,y=(.dp,.int v)/\True) noX:=by
 unfold m__law_mixed;refine kq ?_
 by_cases h:c % 2=0
 ·have hd:(c % 2==0)=true:=by simp[h]
  simp![eqi hd,wqr (n:=8*k) (by omega) (by omega),ww4 (c:=c) (n:=8*k) (by omega)];exact⟨_,rfl,trivial⟩
 ·have hd:(c % 2==0)=false:=beq_false_of_ne h;have m0:=Xr c (show(2147483647:Int)≠0 by decide);have m1:=Xj c (show(0:Int)<2147483647 by decide);generalize hu:c % 2147483647=u at m0 m1;have e1:=mul_l (o1:=.no) (o2:=.no) (a:=u+69621*k+7919) (b:=48271) (by omega) (by omega);have n0:=Xr ((u+69621*k+7919)*48271) (show(2147483647:Int)≠0 by decide);have n1:=Xj ((u+69621*k+7919)*48271) (show(0:Int)<2147483647 by decide);simp![eqi hd,hu,e1];generalize (u+69621*k+7919)*48271 % 2147483647=w at n0 n1;have e2:=mul_l (o1:=.no) (o2:=.no) (a:=w) (b:=w) (by omega) (by omega);have e2':=mul_l (o1:=.dp) (o2:=.dp) (a:=w) (b:=w) (by omega) (by omega);have p0:=Xr (w*w) (show(2147483629:Int)≠0 by decide);have p1:=Xj (w*w) (show(0:Int)<2147483629 by decide);simp![e2,e2'];generalize w*w % 2147483629=t at p0 p1;have e3:=mul_l (o1:=.no) (o2:=.no) (a:=t) (b:=t) (by omega) (by omega);have e3':=mul_l (o1:=.dp) (o2:=.dp) (a:=t) (b:=t) (by omega) (by omega);simp![e3,e3'];exact⟨_,rfl,trivial⟩
abbrev AZ:Str:="abcdefghijklmnopqrstuvwxyz"
theorem az_found:∀ch∈AZ.cps.toList,∃i:Nat,qxl (.str AZ) (.str ⟨#[ch]⟩)=some (.int i):=by
 have h:∀ch∈AZ.cps.toList,(Builtin.Str.occurrences AZ ⟨#[ch]⟩ 0 AZ.length 1).isEmpty=false:=by decide +kernel
 intro ch hc;have:=h ch hc;unfold qxl;dsimp only;cases e:Builtin.Str.occurrences AZ ⟨#[ch]⟩ 0 AZ.length 1 with
 |nil=>rw[e]at this;cases this
 |cons i r=>exact⟨i,rfl⟩
theorem ix_strM(z:Str)(i:Int)(h0:0<=i)(h1:i<z.cps.size):∃c∈z.cps.toList,jz (.str z) (.int i)=some (.str ⟨#[c]⟩):=by
 have:i.toNat<z.cps.toList.length:=by rw[Xa];omega
 refine⟨z.cps.toList[i.toNat],Ye _,?_⟩;show((Q.ixN z.cps.size i).bind λj=>(z.cps.toList[j]?).map λc=>D.str ⟨#[c]⟩)=_;unfold Q.ixN;rw[Xf h0,Xf h1];show((z.cps.toList[i.toNat]?).map λc=>D.str ⟨#[c]⟩)=_;rw[X2 this];rfl
theorem list_app(a b:Str):(a++b).cps.toList=a.cps.toList++b.cps.toList:=by
 show(a.cps++b.cps).toList=_;exact Array.toList_append
theorem qkd{L:List Nat}:∀{ps:List Str},(∀p∈ps,∃c∈L,p=⟨#[c]⟩)->(Str.join "" ps).cps.toList.length=ps.length/\∀c∈(Str.join "" ps).cps.toList,c∈L
 | [],_=>⟨rfl,λc h=>by exact absurd h (by simp[Str.join,Str.empty])⟩
 | [x],h=>by
  obtain⟨c,hc,rfl⟩:=h x X3;refine⟨rfl,λd hd=>?_⟩;have:d=c:=by simpa [Str.join]using hd
  rw[this];exact hc
 | x::y::r,h=>by
  obtain⟨c,hc,rfl⟩:=h x X3;obtain⟨i1,i2⟩:=qkd (ps:=y::r) λp hp=>h p (lc9 _ hp)
  have e:(Str.join "" ((⟨#[c]⟩:Str)::y::r)).cps.toList=c::(Str.join "" (y::r)).cps.toList:=by
   show((⟨#[c]⟩:Str)++""++Str.join "" (y::r)).cps.toList=_;rw[list_app,list_app];rfl
  rw[e];refine⟨by rw[Xb,i1];rfl,λd hd=>?_⟩;rcases List.mem_cons.mp hd with rfl|hd
  ·exact hc
  ·exact i2 d hd
theorem each_one{L:List Nat}{G:D->Sd->Prop}(hG:∀d y,G d y->∃c∈L,y.2=.str ⟨#[c]⟩):∀{ds:List D} {ys:List Sd},Each G ds ys->∃ps:List Str,ys.map (·.2)=ps.map D.str/\ps.length=ds.length/\∀p∈ps,∃c∈L,p=⟨#[c]⟩
 |[],[],_=>⟨[],rfl,rfl,λ_ h=>nomatch h⟩
 |d::ds,y::ys,r=>by
  obtain⟨i,hi,e⟩:=hG d y r.1;obtain⟨ps,h1,h2,h3⟩:=each_one hG r.2;exact⟨⟨#[i]⟩::ps,by simp[e,h1],by simp[h2],λp hp=>(List.mem_cons.mp hp).elim (λz=>z▸⟨i,hi,rfl⟩) (h3 p)⟩
theorem join_az{ps:List Str}(h:∀p∈ps,∃c∈AZ.cps.toList,p=⟨#[c]⟩)(h1:ps.length<=100):∃z:Str,xW "" (.lst (ps.map D.str))=some (.str z)/\z.cps.size=ps.length/\∀c∈z.cps.toList,c∈AZ.cps.toList:=by
 have hz:("":Str).length=0:=rfl;have hs:=qjh (ps:=ps) λp hp=>by obtain⟨c,_,rfl⟩:=h p hp;rfl
 obtain⟨j1,j2⟩:=qkd h;refine⟨Txt.join "" ps,?_,?_,?_⟩
 ·unfold xW;dsimp only;rw[kk0];dsimp only;rw[Xf (by rw[hs,hz];omega)]
 ·unfold Txt.join;rw[StrLaws.glued_eq_join,<-j1,Xa]
 ·unfold Txt.join;rw[StrLaws.glued_eq_join];exact j2
end A
namespace F
open Q PySem C
def Q1(ah:List Int):D->List Int
 |.int i=>if i∈ah then ah else ah++[i]
 |_=>ah
def Wx(ks:List D):List Int:=ks.foldl Q1 []
def plc(ns:List Int):D->D
 |.int i=>.int (ns.findIdx λw=>w==i:Nat)
 |d=>d
def pr(ks:List D):List D:=ks.map (plc (Wx ks))
noncomputable def vws(K:List D)(s:D):List D×D:=match s with
 |.tup [b7,.tup ks]=>(QY K (.tup [b7,.tup (pr ks)]),.tup [.int ((QY K (.tup [b7,.tup (pr ks)])).idxOf (.tup [b7,.tup (pr ks)]):Nat),iT (Wx ks)])
 |_=>(K,.non)
end F
namespace F
open Q PySem C
def obD(rs:List D)(s:D)(z:Str)(p:Int):Option D:=match vjd rs (z,p) s with
 |[]=>some .non
 |[d]=>some d
 |_=>none
noncomputable def vq7(rs:List D)(s:D)(z:Str):List D->List D->Option (List D×List D)
 |[],K=>some (K,[])
 |.int p::ps,K=>match obD rs s z p with
  |none=>none
  |some d=>(vq7 rs s z ps (vws K d).1).map λr=>(r.1,(vws K d).2::r.2)
 |_::_,_=>none
end F
namespace F
open Q PySem C
def wkm(rs:List D)(s:D)(z:Str)(K:List D):Option (List D×List D):=vq7 rs s z (kK 0 ((Wx (YV s)).length+1)) K
noncomputable def vkd(rs:List D)(s:D):List Str->List D->Option (List D×List D)
 |[],K=>some (K,[])
 |z::zs,K=>match wkm rs s z K with
  |none=>none
  |some r=>(vkd rs s zs r.1).map λq=>(q.1,.lst r.2::q.2)
noncomputable def wk7(rs:List D)(s:D):D:=match s with
 |.tup [.int b7,_]=>(match rs[b7.toNat]? with
  |some (.tup [_,g,_])=>g
  |_=>.non)
 |_=>.non
def vxz(rs:List D)(s:D)(st:List D):D:=.tup [.int (Wx (YV s)).length,wk7 rs s,.lst st]
noncomputable def vxq(ss:List Str)(rs K ai:List D):Option (List D×List D):=(vkd rs (K.getD ai.length .non) ss K).map λr=>(r.1,ai++[vxz rs (K.getD ai.length .non) r.2])
inductive Run (ss:List Str)(rs:List D):List D->List D->Option (List D×List D)->Prop
 |stop {K ai:List D}:¬ai.length<K.length->Run ss rs K ai (some (K,ai))
 |fail {K ai:List D}:ai.length<K.length->vxq ss rs K ai=none->Run ss rs K ai none
 |go {K ai K' kg:List D} {r:Option (List D×List D)}:ai.length<K.length->vxq ss rs K ai=some (K',kg)->Run ss rs K' kg r->Run ss rs K ai r
end F
namespace F
open Q PySem C
def ltr:List Nat:=("abcdefghijklmnopqrstuvwxyz":Str).cps.toList
def Sg(z:Str):Prop:=z.cps.size<=8/\∀c∈z.cps.toList,c∈ltr
end F
namespace F
open Q PySem C
noncomputable def FA(g:D)(fs:List D):Prop:=(∀(i j:Nat) (f:D),f≠.non->fs[i]?=some f->fs[j]?=some f->i=j)/\(D.str "new"∈fs->g≠.str "any"/\g∉fs)
end F
namespace F
open Q PySem C
noncomputable def Cpt(ap:Bool)(g g':D):Prop:=(g=.str "fresh"/\∃i,g'=.int i)\/(g'=.str "fresh"/\∃i,g=.int i)\/(ap=true/\∃i j:Int,g=.int i/\g'=.int j/\i≠j)
noncomputable def wxd(ap:Bool)(st:List D):Prop:=(∀(i j:Nat) (z:Str) (g g' t t' f f':D),i<j->st[i]?=some (.tup [.str z,g,t,f])->st[j]?=some (.tup [.str z,g',t',f'])->Cpt ap g g')/\(ap=true->∀(z:Str) (g t:D) (fs:List D),D.tup [.str z,g,t,.tup fs]∈st->FA g fs)
end F
namespace F
open Q PySem C
def Asks(ap:Bool)(bw:Int)(as:List D):Prop:=as.Pairwise (Cpt ap)/\(∀a∈as,Gd bw a)/\as.length<=4
end F
namespace F
open Q PySem C
def FAb(ap:Bool)(g:D)(fs:List D):Prop:=ap=true->FA g fs
inductive FJ1 (zs:List Int)(g:D)(bw there:Int)(ap:Bool)(LL:List D):En->List D->Prop
 |mk (fs:List D) (ws:List Int) {l7:Option Sd} {l8:Option Sd} {j9:List D} (h0:j9=ws.map D.int) (h1:(fs.length+ws.length:Int)=there) (h2:(∀f∈fs,Fd bw f)) (h3:FAb ap g fs):FJ1 zs g bw there ap LL [some (.no,iL zs),some (.no,g),some (.no,.int bw),some (.no,.int there),some (.no,.bl ap),some (.rt,.lst LL),some (.rt,.lst fs),l7,l8] j9
def Ltr(b st:Int)(fm:Nat)(i:Nat)(z:Str):Prop:=z.cps.toList[fm]?=some (ltr.getD ((b+i*(st+1)) % 26).toNat 0)
inductive FJ2 (x n sz am st b:Int):En->List D->Prop
 |mk (k:Int) (ss:List Str) {l7:Option Sd} {l8:Option Sd} {l9:Option Sd} {fv:Option Sd} {j9:List D} (h0:0<=k) (h1:k<=n) (h2:j9=kK k n) (h3:(ss.length:Int)=k) (h4:∀i:Nat,i<ss.length->Ltr b st am.toNat i (ss.getD i "")):FJ2 x n sz am st b [some (.no,.int x),some (.no,.int n),some (.dp,.str "abcdefghijklmnopqrstuvwxyz"),some (.no,.int sz),some (.dp,.int am),some (.no,.int st),some (.rt,sL ss),l7,l8,l9,fv] j9
inductive FJ3 (x n sz am st b k:Int)(ss:List Str):En->List D->Prop
 |mk (j:Int) (z:Str) {l9:Option Sd} {fv:Option Sd} {o8:Own} {j9:List D} (h0:0<=j) (h1:j<=sz+1) (h2:j9=kK j (sz+1)) (h3:(z.cps.size:Int)=j) (h4:(am<j->Ltr b st am.toNat ss.length z)):FJ3 x n sz am st b k ss [some (.no,.int x),some (.no,.int n),some (.dp,.str "abcdefghijklmnopqrstuvwxyz"),some (.no,.int sz),some (.dp,.int am),some (.no,.int st),some (.rt,sL ss),some (.no,.int k),some (o8,.str z),l9,fv] j9
end F
namespace F
open Q PySem C
inductive SJ1 (ns:List Int)(a:Int)(ss:List Str)(hs ks:List Int)(v0:Int)(ap:Bool):En->List D->Prop
 |mk (r:Nat) (rs:List D) {l7 l8 l9 fv ly lf qp qu:Option Sd} {j9:List D} (h1:j9=kK r (1+v0)) (h2:(r:Int)<=1+v0) (h3:rs.length=r) (h4:∀i:Nat,i<r->∃(gd:Bool) (st:List D),rs[i]?=some (.tup [.int (ks.getD i 0),.bl gd,.lst st])/\(∀s∈st,St (ks.getD i 0) s/\Sx ss ks s)/\st.length<=12/\wxd ap st):SJ1 ns a ss hs ks v0 ap [some (.no,iL ns),some (.no,.int a),some (.no,sL ss),some (.rt,iL hs),some (.dp,.int (1+v0)),some (.rt,iL ks),some (.rt,.lst rs),l7,l8,l9,fv,ly,lf,qp,qu] j9
noncomputable def Sgn(ss:List Str)(j:Nat)(st:List D):Prop:=∀s∈st,∃i,i<j/\∃(hi:i<ss.length) (g t f:D),s=.tup [.str ss[i],g,t,f]
inductive SJ2 (ns:List Int)(a:Int)(ss:List Str)(hs ks:List Int)(v0:Int)(ap:Bool)(rs:List D)(r:Nat)(bw:Int):En->List D->Prop
 |mk (j:Nat) (st:List D) {l9 fv ly lf qp qu:Option Sd} {j9:List D} (h1:j9=kK j ss.length) (h2:j<=ss.length) (h3:∀s∈st,St bw s/\Sx ss ks s) (h4:st.length<=4*j) (h5:wxd ap st) (h6:Sgn ss j st):SJ2 ns a ss hs ks v0 ap rs r bw [some (.no,iL ns),some (.no,.int a),some (.no,sL ss),some (.rt,iL hs),some (.dp,.int (1+v0)),some (.rt,iL ks),some (.rt,.lst rs),some (.no,.int r),some (.rt,.lst st),l9,fv,ly,lf,qp,qu] j9
noncomputable def Ads(ss:List Str)(j:Nat)(hj:j<ss.length)(ap:Bool)(as add:List D):Prop:=∀(i:Nat) (d:D),add[i]?=some d->∃(g t:D) (fs:List D),as[i]?=some g/\d=.tup [.str ss[j],g,t,.tup fs]/\(ap=true->FA g fs)
inductive SJ3 (ns:List Int)(a:Int)(ss:List Str)(hs ks:List Int)(v0:Int)(ap:Bool)(rs:List D)(r:Nat)(bw:Int)(st:List D)(j:Nat)(hj:j<ss.length)(ys:List Int):En->List D->Prop
 |mk (k:Nat) (as add be:List D) {ly lf qp qu:Option Sd} {j9:List D} (h0:be=st++add) (h1:Asks ap bw as) (h2:k<=as.length) (h3:j9=wki k (as.drop k)) (h4:add.length=k) (h5:∀s∈add,St bw s/\Sx ss ks s) (h6:Ads ss j hj ap as add):SJ3 ns a ss hs ks v0 ap rs r bw st j hj ys [some (.no,iL ns),some (.no,.int a),some (.no,sL ss),some (.rt,iL hs),some (.dp,.int (1+v0)),some (.rt,iL ks),some (.rt,.lst rs),some (.no,.int r),some (.rt,.lst be),some (.no,.int j),some (.no,iL ys),ly,lf,qp,qu] j9
end F
namespace F
open Q PySem C
noncomputable def wkn(K:List D)(d:D):D:=match d with
 |.tup [b7,.tup ks]=>.tup [.int (K.idxOf (.tup [b7,.tup (pr ks)]):Nat),iT (Wx ks)]
 |_=>.non
noncomputable def ww8(rs:List D)(s:D)(z:Str)(L:List D)(d:D):D:=match d with
 |.int p=>(match obD rs s z p with
  |some d=>wkn L d
  |none=>.non)
 |_=>.non
def wwn(s:D):List D:=kK 0 ((Wx (YV s)).length+1)
def vxp(ss:List Str)(rs L:List D)(s:D):List D:=ss.map λz=>.lst ((wwn s).map (ww8 rs s z L))
def wwg(L:List D)(e:D):Prop:=∀b7 ks,e=.tup [b7,.tup ks]->D.tup [b7,.tup (pr ks)]∈L
def Clo(zs:List Str)(rs L:List D)(s:D):Prop:=∀z∈zs,∀p:Int,D.int p∈wwn s->∃e,obD rs s z p=some e/\wwg L e
def Nrm(t:D):Prop:=∃b7 ks,t=.tup [b7,.tup (pr ks)]
noncomputable def Inv(ss:List Str)(rs K ai:List D):Prop:=ai.length<=K.length/\(∀i,i<ai.length->Clo ss rs K (K.getD i .non)/\∀L,K <+: L->ai[i]?=some (vxz rs (K.getD i .non) (vxp ss rs L (K.getD i .non))))/\∀t∈K,Nrm t
end F
namespace G
open Q PySem C F
def fl(own:Int):D->D
 |.int f=>if f=own then .str "new" else .int f
 |d=>d
end G
namespace G
open Q PySem C F
def nN(t:D):Nat:=(Wx (YV t)).length
end G
namespace J
open Q PySem C B F
def wvr:D->Int
 |.int i=>i
 |_=>0
def snOf:D->Sn
 |.tup [.int r,.tup ks]=>some (r,ks.map wvr)
 |_=>none
noncomputable def rdF(ss:List Str)(rs:List D)(S:Sn)(z:Str)(c:Int):Sn:=match S with
 |none=>none
 |some (b7,ks)=>(match rs[b7.toNat]? with
  |some (.tup [_,_,.lst st])=>snOf (vz0 ss st ks z c)
  |_=>none)
def kpF(rs:List D)(p:Int):Int:=if p=-1 then 0 else(match rs[p.toNat]? with
 |some (.tup [.int k,_,_])=>k
 |_=>0)
noncomputable def gdF(rs:List D)(p:Int):Bool:=if p=-1 then false else(match rs[p.toNat]? with
 |some (.tup [_,.bl g,_])=>g
 |_=>false)
noncomputable def vwt(K:List D)(x:Sn×Sn):List D×D:=if rmO x.1=-1/\rmO x.2=-1 then(K,.non)else(QY K (vvo x.1 x.2),.tup [.int ((QY K (vvo x.1 x.2)).idxOf (vvo x.1 x.2):Nat),iT (wx8 (nms x.1) (nms x.2))])
end J
namespace J
open Q PySem C B F
noncomputable def kz6:List (Sn×Sn)->List D->List D×List D
 |[],K=>(K,[])
 |x::r,K=>((kz6 r (vwt K x).1).1,(vwt K x).2::(kz6 r (vwt K x).1).2)
noncomputable def qx2(ss:List Str)(rs ci:List D)(S T:Sn)(own:Nat)(z:Str):List (Sn×Sn):=(List.range (own+1)).map λ(c:Nat)=>(rdF ss rs S z c,rdF ss ci T z c)
noncomputable def qjp(ss:List Str)(rs ci:List D)(S T:Sn)(own:Nat):List Str->List D->List D×List D
 |[],K=>(K,[])
 |z::zs,K=>((qjp ss rs ci S T own zs (kz6 (qx2 ss rs ci S T own z) K).1).1,.lst (kz6 (qx2 ss rs ci S T own z) K).2::(qjp ss rs ci S T own zs (kz6 (qx2 ss rs ci S T own z) K).1).2)
noncomputable def byW(w:Str)(g g':Bool):Bool:=if w == "both" then g&&g' else if w == "either" then g||g' else if w == "first" then g && !g' else g != g'
section
variable {cj kps':List Int}{ss:List Str}{rs ci:List D}
def pS(rs:List D):D->Sn
 |.tup [.int p,_,_]=>fst1 p (kpF rs p)
 |_=>none
def wqs:List D->List (Int×Int)
 |[]=>[]
 |.tup [.int i,.int j]::r=>(i,j)::wqs r
 |_::r=>wqs r
def pT(rs ci:List D):D->Sn
 |.tup [.int p,.int q,.tup sh]=>fst2 q (kpF rs p) (kpF ci q) (wqs sh)
 |_=>none
def pO(rs ci:List D)(P:D):Nat:=(wx8 (nms (pS rs P)) (nms (pT rs ci P))).length
def gS(rs:List D):D->Bool
 |.tup [.int p,_,_]=>gdF rs p
 |_=>false
def gT(rs:List D):D->Bool
 |.tup [_,.int q,_]=>gdF rs q
 |_=>false
noncomputable def wqt(w:Str)(ss:List Str)(rs ci:List D)(P:D)(st:List D):D:=.tup [.int (pO rs ci P),.bl (byW w (gS rs P) (gT ci P)),.lst st]
noncomputable def vxr(w:Str)(ss:List Str)(rs ci K ai:List D):List D×List D:=
 ((qjp ss rs ci (pS rs (K.getD ai.length .non)) (pT rs ci (K.getD ai.length .non)) (pO rs ci (K.getD ai.length .non)) ss K).1,
  ai++[wqt w ss rs ci (K.getD ai.length .non) (qjp ss rs ci (pS rs (K.getD ai.length .non)) (pT rs ci (K.getD ai.length .non)) (pO rs ci (K.getD ai.length .non)) ss K).2])
inductive RunJ (w:Str)(ss:List Str)(rs ci:List D):List D->List D->Option (List D×List D)->Prop
 |stop {K ai:List D}:¬ai.length<K.length->RunJ w ss rs ci K ai (some (K,ai))
 |great {K ai:List D}:ai.length<K.length->40<K.length->RunJ w ss rs ci K ai none
 |go {K ai:List D} {r:Option (List D×List D)}:ai.length<K.length->K.length<=40->RunJ w ss rs ci (vxr w ss rs ci K ai).1 (vxr w ss rs ci K ai).2 r->RunJ w ss rs ci K ai r
end
end J
namespace Kp
open Q PySem C
def VW:Fn:=fn 1
  (jw (x6 (vE (cF1 (pu1 (k5 "int")) (vV 0))) (Z9 (vE (cF1 (pu1 (k5 "bool")) (vV 0))))))
noncomputable def m_is_sign:Fn:=fn 1
  (j6 (sIf (tOr (tNot (tEQ (vE (cF1 (pu1 (k5 "str")) (vV 0))))) (tNot (tE (zQ fLe fLe (C9 1) (vE (cF1 (pu1 kX) (vV 0))) (C9 8))))) (jw (cC (.bl false))) kW)
  (jw (cF1 (pu1 K3) (vE (cLC .rt 1 [] (itS (cV 0)) (.n 0) tYes (cF2 (pu2 wV) (vV 0) (vE (cC (.str "abcdefghijklmnopqrstuvwxyz")))))))))
noncomputable def m_is_tuple_of:Fn:=fn 2
  (jw (x6 (vE (cF1 (pu1 (k5 "tuple")) (vV 0))) (cF2 (pu2 fEq) (vE (cF1 (pu1 kX) (vV 0))) (vV 1))))
def KK:Fn:=fn 2
  (jw (x6 (vE (jx VW [(cV 0)])) (zQ fLe fLt (C9 0) (vV 0) (vV 1))))
noncomputable def m_are_signs:Fn:=fn 1
  (j6 (sIf (tOr (tNot (tEQ (vE (cF1 (pu1 (k5 "list")) (vV 0))))) (tNot (tE (zQ fLe fLe (C9 1) (vE (cF1 (pu1 kX) (vV 0))) (C9 3))))) (jw (cC (.bl false))) kW)
  (j6 (sIf (tNot (tEQ (vE (cF1 (pu1 K3) (vE (cLC .rt 1 [] (itS (cV 0)) (.n 0) tYes (jx m_is_sign [(cV 0)]))))))) (jw (cC (.bl false))) kW)
  (jw (cF2 (pu2 fEq) (vV 0) (vE (cF1 V7 (vV 0)))))))
end Kp
namespace Kp
open Q PySem C
abbrev Is(f:Fn)(xs:List Sd)(b:Bool):Prop:=Oo f xs (λy=>∃o':Own,y=(o',.bl b)/\True) noX
def wxc(d:D)(n:Int):Bool:=match d with
 |.int i=>decide (0<=i)&&decide (i<n)
 |_=>false
def Wj:D->Bool
 |.lst _=>true
 |_=>false
theorem bk(E:En):back [] [] (clr [] E)=E:=rfl
abbrev AZ:Str:="abcdefghijklmnopqrstuvwxyz"
def ivD:D->Int
 |.int i=>i
 |_=>0
noncomputable def wkc(e aj:Int)(d:D):Bool:=match d with
 |.tup fs=>decide ((fs.length:Int)=aj)&&(fs.all (λd=>wxc d e)&&decide (((ddI (fs.map ivD)).length:Int)=aj))
 |_=>false
noncomputable def vws(ks:List Int)(e:Int)(d:D):Bool:=isNon d||match d with
 |.tup [a,b]=>wxc a ks.length&&wkc e (ks.getD (ivD a).toNat 0) b
 |_=>false
end Kp
namespace Nk12
open PySem Q
def VW : Fn:= B.m__law_whole
def m_is_sign : Fn:= Kp.m_is_sign
def m_is_tuple_of : Fn:= Kp.m_is_tuple_of
def m_are_signs : Fn:= Kp.m_are_signs
def KQ:Fn:=fn 2
  (jw (x6 (vE (cF1 (pu1 (k5 "str")) (vV 0))) (cF2 (pu2 wV) (vV 0) (vV 1))))
def KK:Fn:=fn 2
  (jw (x6 (vE (jx VW [(cV 0)])) (zQ fLe fLt (C9 0) (vV 0) (vV 1))))
noncomputable def jww:Fn:=fn 2
  (jw (cOr (vE (cF2 (f2First fIsNon) (vV 0) (vE (cC .non)))) (cOr (vE (jx KQ [(cV 0),(qZ .no [(cC (.str "new"))])])) (jx KK [(cV 0),(cV 1)]))))
noncomputable def jv5:Fn:=fn 3
  (jw (x6 (vE (jx m_is_tuple_of [(cV 0),(cV 2)])) (cF1 (pu1 K3) (vE (cLC .rt 1 [1] (itS (cV 0)) (.n 0) tYes (jx jww [(cV 0),(cV 1)]))))))
noncomputable def jzc:Fn:=fn 2
  (jw (cOr (vE (jx KQ [(cV 0),(qZ .no [(cC (.str "fresh")),(cC (.str "any"))])])) (jx KK [(cV 0),(cV 1)])))
noncomputable def jwv:Fn:=fn 4
  (j6 (sIf (tNot (tEQ (vE (jx m_is_tuple_of [(cV 0),(cC (.int 4))])))) (jw (cC (.bl false))) kW)
  (j6 (sIf (tOr (tNot (tEQ (vE (jx KQ [(cH (j7 (vV 0) (C9 0))),(cV 2)])))) (tOr (tNot (tEQ (vE (jx jzc [(cH (j7 (vV 0) (C9 1))),(cV 1)])))) (tNot (tEQ (vE (jx KK [(cH (j7 (vV 0) (C9 2))),(cF1 (pu1 kX) (vV 3))])))))) (jw (cC (.bl false))) kW)
  (jw (jx jv5 [(cH (j7 (vV 0) (C9 3))),(cV 1),(cH (j7 (vV 3) (j7 (vV 0) (C9 2))))]))))
noncomputable def jv3:Fn:=fn 4
  (jw (cF1 (pu1 K3) (vE (cLC .rt 1 [1,2,3] (itS (cV 0)) (.n 0) tYes (jx jwv [(cV 0),(cV 1),(cV 2),(cV 3)])))))
noncomputable def jko:Fn:=fn 1
  (j6 (sIf (tNot (tEQ (vE (jx m_is_tuple_of [(cV 0),(cC (.int 3))])))) (jw (cC (.bl false))) kW)
  (jw (x6 (vE (jx KK [(cH (j7 (vV 0) (C9 0))),(cF2 jq (C9 3) (C9 1))])) (x6 (vE (cF1 (pu1 (k5 "bool")) (j7 (vV 0) (C9 1)))) (cF1 (pu1 (k5 "list")) (j7 (vV 0) (C9 2)))))))
noncomputable def jv4:Fn:=fn 3
  (j6 (sIf (tOr (tNot (tEQ (vE (cF1 (pu1 (k5 "list")) (vV 0))))) (tNot (tE (zQ fLe fLe (C9 1) (vE (cF1 (pu1 kX) (vV 0))) (C9 12))))) (jw (cC (.bl false))) kW)
  (j6 (sIf (tNot (tEQ (vE (cF1 (pu1 K3) (vE (cLC .rt 1 [] (itS (cV 0)) (.n 0) tYes (jx jko [(cV 0)]))))))) (jw (cC (.bl false))) kW)
  (j6 (sIf (tE (cF2 (pu2 fGt) (vE (cF1 (pu1 wkd) (vE (cLC .rt 1 [] (itS (cV 0)) (.n 0) tYes (cF1 (pu1 kX) (j7 (vV 0) (C9 2))))))) (C9 120))) (jw (cC (.bl false))) kW)
  (j6 (jK 2 (cLC .rt 1 [] (itS (cV 0)) (.n 0) tYes (cH (j7 (vV 0) (C9 0)))))
  (jw (cF1 (pu1 K3) (vE (cLC .rt 1 [1,2] (itS (cV 0)) (.n 0) tYes (jx jv3 [(cH (j7 (vV 0) (C9 2))),(cH (j7 (vV 0) (C9 0))),(cV 1),(cV 2)])))))))))
noncomputable def jqk:Fn:=fn 1
  (jw (x6 (vE (jx m_is_tuple_of [(cV 0),(cC (.int 2))])) (x6 (vE (jx m_are_signs [(cH (j7 (vV 0) (C9 0)))])) (jx jv4 [(cH (j7 (vV 0) (C9 1))),(cH (j7 (vV 0) (C9 0)))]))))
noncomputable def jkf:Fn:=fn 1
  (j6 (sIf (tOr (tE (cF2 (pu2 fEq) (vV 0) (vE (cC (.str ""))))) (tNot (tEQ (vE (cF1 (pu1 K3) (vE (cLC .rt 1 [] (itS (cV 0)) (.n 0) tYes (cF2 (pu2 wV) (vV 0) (vE (cC (.str "0123456789"))))))))))) (jw (cC (.bl false))) kW)
  (jw (cOr (vE (cF2 (pu2 fEq) (vV 0) (vE (cC (.str "0"))))) (Z9 (vE (cF1 (pu1 (kkv "0")) (vV 0)))))))
noncomputable def jv0:Fn:=fn 2
  (j6 (jK 1 (cH (j7 (vV 0) (C9 0))))
  (jw (cIf (tEQ (j7 (vV 0) (C9 1))) (cF1 (pu1 (fFm "room " " good")) (vV 1)) (cF1 (pu1 (wkg "room ")) (vV 1)))))
noncomputable def jv1:Fn:=fn 1
  (jw (cIf (tE (cF2 (f2First fIsNon) (vV 0) (vE (cC .non)))) (cC (.str "none")) (cF1 (pu1 z9) (vV 0))))
noncomputable def jqz:Fn:=fn 2
  (j6 (jK 1 (qk .rt [(cH (j7 (vV 0) (C9 0))),(cF1 (pu1 z9) (j7 (vV 0) (C9 1))),(cF1 (pu1 z9) (j7 (vV 0) (C9 2)))]))
  (jw (K0 " " (vE (cF2 jq (vV 1) (vE (cLC .rt 1 [] (itS (cH (j7 (vV 0) (C9 3)))) (.n 0) tYes (jx jv1 [(cV 0)]))))))))
noncomputable def jkt:Fn:=fn 3
  (j6 (jK 1 (qk .rt [(K0 " " (vE (cF2 jq (vE (qk .rt [(cC (.str "signs"))])) (j7 (vV 0) (C9 0)))))]))
  (j6 (vK (itS (cH (j7 (vV 0) (C9 1)))) (.n 2) (j6 (wQ wJ 1 (jx jv0 [(cV 2)]))
  (WY 1 (cLC .rt 1 [] (itS (cH (j7 (vV 2) (C9 2)))) (.n 0) tYes (jx jqz [(cV 0)])))))
  (jw (K0 "\n" (vV 1)))))
noncomputable def Q7:Fn:=fn 1
  (jw (x6 (vE (cF2 (pu2 fEq) (j7 (vV 0) (C9 0)) (vE (cC (.str "room"))))) (cOr (vE (cF2 (pu2 fEq) (vE (cF1 (pu1 kX) (vV 0))) (C9 2))) (cF2 (pu2 fEq) (vE (cSl (vV 0) (some (C9 2)) none)) (vE (qk .rt [(cC (.str "good"))]))))))
noncomputable def Qq:Fn:=fn 1
  (j6 (sIf (tOr (tNot (tEQ (vE (jx jkf [(cV 0)])))) (tE (cF2 (pu2 fGt) (vE (cF1 (pu1 kX) (vV 0))) (C9 2)))) VJ kW)
  (jw (cF1 (pu1 Q8) (vV 0))))
noncomputable def YQ:Fn:=fn 1
  (jw (qZ .dp [(Qx (jx Qq [(cH (j7 (vV 0) (C9 1)))])),(cF2 (pu2 fEq) (vE (cF1 (pu1 kX) (vV 0))) (C9 3)),(Qx (qk .rt []))]))
noncomputable def jvy:Fn:=fn 1
  (jw (cIf (tE (cF2 (pu2 wV) (vV 0) (vE (qZ .no [(cC (.str "fresh")),(cC (.str "any"))])))) (cV 0) (jx Qq [(cV 0)])))
noncomputable def jv2:Fn:=fn 1
  (j6 (sIf (tE (cF2 (pu2 fEq) (vV 0) (vE (cC (.str "none"))))) (jw (cC .non)) kW)
  (jw (cIf (tE (cF2 (pu2 fEq) (vV 0) (vE (cC (.str "new"))))) (cV 0) (jx Qq [(cV 0)]))))
noncomputable def WZ:Fn:=fn 1
  (j6 (sIf (tE (cF2 (pu2 fLt) (vE (cF1 (pu1 kX) (vV 0))) (C9 3))) VJ kW)
  (jw (qZ .no [(cH (j7 (vV 0) (C9 0))),(jx jvy [(cH (j7 (vV 0) (C9 1)))]),(jx Qq [(cH (j7 (vV 0) (C9 2)))]),(cF1 Wk (vE (cLC .rt 1 [] (itS (cSl (vV 0) (some (C9 3)) none)) (.n 0) tYes (jx jv2 [(cV 0)]))))])))
noncomputable def jqj:Fn:=fn 3
  (j6 (jK 1 (qk .dp []))
  (j6 (vK (itS (cV 0)) (.n 2) (sIf (tEQ (vE (jx Q7 [(cV 2)]))) (wQ wJ 1 (jx YQ [(cV 2)])) (sIf (tE (cF2 (pu2 fEq) (vE (cF1 (pu1 kX) (vV 1))) (C9 0))) VJ (Zj 1 [.inl (-1),.inl 2] (jx WZ [(cV 2)])))))
  (jw (cMv 1))))
noncomputable def YZ:Fn:=fn 3
  (j6 (jK 1 (cLC .rt 1 [] (itS (cF1 (W9 10) (vV 0))) (.n 0) tYes (cF1 (W9 32) (vV 0))))
  (j6 (sIf (tE (cF2 (pu2 fNe) (j7 (j7 (vV 1) (C9 0)) (C9 0)) (vE (cC (.str "signs"))))) VJ kW)
  (j6 (jK 2 (qZ .dp [(Qx (cSl (j7 (vV 1) (C9 0)) (some (C9 1)) none)),(Qx (jx jqj [(cSl (vV 1) (some (C9 1)) none)]))]))
  (j6 (sIf (tNot (tEQ (vE (YY jqk [(vV 2)])))) VJ kW)
  (jw (cMv 2))))))
def m__law_cell_at : Fn:= B.m__law_cell_at
def m__law_mixed : Fn:= A.m__law_mixed
def m__law_words : Fn:= A.m__law_words
def m__law_whole : Fn:= B.m__law_whole
noncomputable def Qw:Fn:=fn 2
  (j6 (sIf (tE (cF2 (pu2 fEq) (vE (cF2 (pu2 jW) (vV 0) (C9 4))) (C9 1))) (j6 (jK 1 (qk .rt [(cC (.str "any")),(cC (.str "fresh")),(cC (.str "good")),(cC (.str "new")),(cC (.str "none")),(cC (.str "room")),(cC (.str "signs"))]))
  (jw (cF1 V7 (vE (qk .rt [(cH (j7 (vV 1) (vE (cF2 (pu2 jW) (vE (cF2 (pu2 qK) (vV 0) (C9 4))) (C9 7))))),(cH (j7 (vV 1) (vE (cF2 (pu2 jW) (vE (cF2 (pu2 qK) (vV 0) (C9 28))) (C9 7))))),(cH (j7 (vV 1) (vE (cF2 (pu2 jW) (vE (cF2 (pu2 qK) (vV 0) (C9 196))) (C9 7)))))]))))) kW)
  (jw (cF1 ZJ (vE (jx m__law_words [(cF2 (pu2 qK) (vV 0) (C9 4)),(cF2 jq (C9 1) (vE (cF2 (pu2 jW) (vE (cF2 (pu2 qK) (vV 0) (C9 32))) (C9 3))))])))))
noncomputable def jv7:Fn:=fn 2
  (j6 (sIf (tOr (tE (cF2 (pu2 fEq) (vE (cF2 (pu2 jW) (vV 0) (C9 4))) (C9 0))) (tAnd (tE (cF2 (pu2 fEq) (vE (cF2 (pu2 jW) (vV 0) (C9 4))) (C9 1))) (tE (cF2 (pu2 fEq) (vV 1) (C9 0))))) (jw (cC .non)) kW)
  (j6 (sIf (tAnd (tE (cF2 (pu2 fLt) (vE (cF2 (pu2 jW) (vV 0) (C9 4))) (C9 3))) (tE (cF2 (pu2 fGt) (vV 1) (C9 0)))) (jw (cF2 (pu2 jW) (vE (cF2 (pu2 qK) (vV 0) (C9 4))) (vV 1))) kW)
  (jw (cC (.str "new")))))
noncomputable def XZ:Fn:=fn 8
  (j6 (jK 4 (jx m__law_mixed [(cV 0),(cC (.int 0))]))
  (j6 (jK 5 (cF2 (pu2 jW) (vE (cF2 (pu2 qK) (vV 4) (C9 3))) (vE (cF1 (pu1 kX) (vV 3)))))
  (j6 (jK 6 (cH (j7 (vE (cF2 jq (vE (qk .rt [(cC (.str "fresh")),(cC (.str "any")),(cC (.str "fresh"))])) (vE (cLC .rt 1 [] (qV (j7 (vV 3) (vV 2))) (.n 0) tYes (cV 0))))) (vE (cF2 (pu2 jW) (vE (cF2 (pu2 qK) (vV 4) (C9 60))) (vE (cF2 jq (C9 3) (j7 (vV 3) (vV 2)))))))))
  (j6 (jK 7 (cF1 Wk (vE (cLC .rt 1 [4,3,2] (qV (j7 (vV 3) (vV 5))) (.n 0) tYes (jx jv7 [(cF2 (pu2 qK) (vV 1) (j7 (vE (qk .rt [(cC (.int 720)),(cC (.int 46080)),(cC (.int 2949120))])) (vV 0))),(cH (j7 (vV 2) (vV 3)))])))))
  (jw (qZ .no [(cH (j7 (vV 1) (vE (cF2 (pu2 jW) (vV 4) (vE (cF1 (pu1 kX) (vV 1))))))),(cV 6),(cV 5),(cV 7)]))))))
noncomputable def Wq:Fn:=fn 10
  (j6 (jK 2 (jx m__law_mixed [(jx m__law_cell_at [(cV 0),(cC (.int 0))]),(cC (.int 0))]))
  (j6 (jK 3 (jx Qw [(jx m__law_cell_at [(cV 0),(cC (.int 1))])]))
  (j6 (jK 4 (cF2 jq (C9 1) (vE (cF2 (pu2 jW) (vV 2) (C9 4)))))
  (j6 (sIf (tE (cF2 (pu2 fEq) (vE (cF2 (pu2 jW) (vE (cF2 (pu2 qK) (vV 2) (C9 4))) (C9 6))) (C9 1))) (jK 4 (cF2 jq (C9 5) (vE (cF2 (pu2 jW) (vE (cF2 (pu2 qK) (vV 2) (C9 24))) (C9 8))))) kW)
  (j6 (jK 5 (cLC .rt 1 [0] (qV (vV 4)) (.n 0) tYes (cF2 (pu2 jW) (vE (jx m__law_mixed [(jx m__law_cell_at [(cV 1),(cC (.int 2))]),(cV 0)])) (C9 4))))
  (j6 (jK 6 (cLC .dp 1 [] (qV (vV 4)) (.n 0) tYes (qk .dp [])))
  (j6 (vK (itS (cSl (vV 0) (some (vV 1)) (some (vE (cF2 jq (vV 1) (C9 50)))))) (.n 7) (j6 (jK 8 (cF2 (pu2 jW) (vE (jx m__law_mixed [(cV 7),(cC (.int 12))])) (vV 4)))
  (j6 (Q3 6 (vV 8) (jx XZ [(cV 7),(cV 3),(cV 8),(cV 5)]))
  (sIf (tAnd (tE (cF2 (pu2 fEq) (vE (cF2 (pu2 jW) (vE (cF2 (pu2 qK) (vV 2) (C9 200))) (C9 4))) (C9 1))) (tE (cF2 (pu2 fEq) (vE (cF2 (pu2 jW) (vV 7) (C9 3))) (C9 1)))) (Q3 6 (vV 8) (cH (j7 (j7 (vV 6) (vV 8)) (C9 0)))) kW))))
  (j6 (jK 9 (cLC .rt 1 [0] (qV (vV 4)) (.n 0) tYes (cF2 (pu2 fEq) (vE (cF2 (pu2 jW) (vE (jx m__law_mixed [(jx m__law_cell_at [(cV 1),(cC (.int 3))]),(cV 0)])) (C9 2))) (C9 1))))
  (sFz 6 (jw (qZ .no [(cV 3),(cLC .rt 1 [5,9,6] (qV (vV 4)) (.n 0) tYes (qZ .no [(cH (j7 (vV 1) (vV 0))),(cH (j7 (vV 2) (vV 0))),(cH (j7 (vV 3) (vV 0)))]))])))))))))))
noncomputable def YX:Fn:=fn 1
  (jw (qZ .no [(cF1 V6 (j7 (vV 0) (C9 0))),(cLC .rt 3 [] (itS (cH (j7 (vV 0) (C9 1)))) (.t [0,1,2]) tYes (qZ .no [(cV 0),(cV 1),(cF1 V6 (vV 2))]))]))
noncomputable def jkg:Fn:=fn 4
  (j6 (sIf (tOr (tNot (tEQ (vE (cF1 (pu1 (k5 "tuple")) (vV 0))))) (tOr (tE (cF2 (pu2 fNe) (vV 0) (vV 1))) (tNot (tEQ (vE (cF1 (pu1 (k5 "tuple")) (j7 (vV 0) (C9 3)))))))) (jw (cC (.bl false))) kW)
  (j6 (vK (qkf (cF2 jq (vE (qZ .no [(cH (j7 (vV 0) (C9 1))),(cH (j7 (vV 0) (C9 2)))])) (j7 (vV 0) (C9 3))) (cF2 jq (vE (qZ .no [(cH (j7 (vV 1) (C9 1))),(cH (j7 (vV 1) (C9 2)))])) (j7 (vV 1) (C9 3)))) (.t [2,3]) (sIf (tOr (tEQ (vE (cF1 (pu1 (k5 "bool")) (vV 2)))) (tE (cF2 (pu2 fNe) (vE (cF1 (pu1 (k5 "str")) (vV 2))) (vE (cF1 (pu1 (k5 "str")) (vV 3)))))) (jw (cC (.bl false))) kW))
  (jw (cC (.bl true)))))
noncomputable def XY:Fn:=fn 6
  (j6 (sIf (tOr (tNot (tEQ (vE (cF1 (pu1 (k5 "tuple")) (vV 0))))) (tOr (tE (cF2 (pu2 fNe) (vE (cF1 (pu1 kX) (vV 0))) (C9 2))) (tOr (tNot (tEQ (vE (cF1 (pu1 (k5 "list")) (j7 (vV 0) (C9 0)))))) (tE (cF2 (pu2 fNe) (j7 (vV 0) (C9 0)) (j7 (vV 1) (C9 0))))))) (jw (cC (.bl false))) kW)
  (j6 (sIf (tOr (tNot (tEQ (vE (cF1 (pu1 (k5 "list")) (j7 (vV 0) (C9 1)))))) (tE (cF2 (pu2 fNe) (vE (cF1 (pu1 kX) (j7 (vV 0) (C9 1)))) (vE (cF1 (pu1 kX) (j7 (vV 1) (C9 1))))))) (jw (cC (.bl false))) kW)
  (j6 (vK (ZV (cH (j7 (vV 0) (C9 1))) (cH (j7 (vV 1) (C9 1)))) (.t [2,3]) (j6 (sIf (tOr (tNot (tEQ (vE (cF1 (pu1 (k5 "tuple")) (vV 2))))) (tOr (tE (cF2 (pu2 fNe) (vE (cF1 (pu1 kX) (vV 2))) (C9 3))) (tOr (tNot (tEQ (vE (jx m__law_whole [(cH (j7 (vV 2) (C9 0)))])))) (tE (cF2 (pu2 fNe) (j7 (vV 2) (C9 0)) (j7 (vV 3) (C9 0))))))) (jw (cC (.bl false))) kW)
  (j6 (sIf (tOr (tNot (tEQ (vE (cF1 (pu1 (k5 "bool")) (j7 (vV 2) (C9 1)))))) (tOr (tE (cF2 (pu2 fNe) (j7 (vV 2) (C9 1)) (j7 (vV 3) (C9 1)))) (tNot (tEQ (vE (cF1 (pu1 (k5 "list")) (j7 (vV 2) (C9 2)))))))) (jw (cC (.bl false))) kW)
  (j6 (sIf (tE (cF2 (pu2 fNe) (vE (cF1 (pu1 kX) (j7 (vV 2) (C9 2)))) (vE (cF1 (pu1 kX) (j7 (vV 3) (C9 2)))))) (jw (cC (.bl false))) kW)
  (vK (ZV (cH (j7 (vV 2) (C9 2))) (cH (j7 (vV 3) (C9 2)))) (.t [4,5]) (sIf (tNot (tEQ (vE (jx jkg [(cV 4),(cV 5)])))) (jw (cC (.bl false))) kW))))))
  (jw (cC (.bl true))))))
noncomputable def jv6:Fn:=fn 11
  (j6 (jK 1 (qk .rt [(cF2 jq (vE (cC (.str "signs "))) (vE (K0 " " (j7 (vV 0) (C9 0)))))]))
  (j6 (vK (itS (cH (j7 (vV 0) (C9 1)))) (.t [2,3,4]) (j6 (wQ wJ 1 (cF2 jq (vE (cF2 jq (vE (cC (.str "room "))) (vE (cF1 (pu1 z9) (vV 2))))) (j7 (vE (qk .rt [(cC (.str "")),(cC (.str " good"))])) (vE (cF1 (pu1 Q8) (vV 3))))))
  (vK (itS (cV 4)) (.t [5,6,7,8]) (j6 (jK 9 (cF2 jq (vE (cF2 jq (vE (cF2 jq (vE (cF2 jq (vV 5) (vE (cC (.str " "))))) (vE (cF1 (pu1 z9) (vV 6))))) (vE (cC (.str " "))))) (vE (cF1 (pu1 z9) (vV 7)))))
  (j6 (vK (itS (cV 8)) (.n 10) (sIf (tE (cF2 (f2First fIsNon) (vV 10) (vE (cC .non)))) (jK 9 (cF2 jq (vV 9) (vE (cC (.str " none"))))) (jK 9 (cF2 jq (vE (cF2 jq (vV 9) (vE (cC (.str " "))))) (vE (cF1 (pu1 z9) (vV 10)))))))
  (wQ wJ 1 (cV 9)))))))
  (jw (K0 "\n" (vV 1)))))
noncomputable def m_law:Fn:=fn 9
  (j6 (jK 1 (jx Wq [(cV 0),(cC (.int 5))]))
  (j6 (jK 2 (jx jv6 [(cV 1)]))
  (j6 (jK 3 (jx YX [(cV 1)]))
  (j6 (jK 4 (jx jkt [(cV 3)]))
  (j6 (sIf (tOr (tNot (tEQ (vE (cF1 (pu1 (k5 "str")) (vV 4))))) (tOr (tE (cF2 (pu2 fNe) (vV 4) (vV 2))) (tE (cF2 (pu2 fNe) (vV 3) (vV 1))))) (jw (cC (.bl false))) kW)
  (j6 (jK 5 (jx YZ [(cV 2)]))
  (j6 (sIf (tNot (tEQ (vE (YY XY [(vV 5),(vV 1)])))) (jw (cC (.bl false))) kW)
  (j6 (kx2 5 6 7 8 [1])
  (j6 (sPC 5 [0])
  (jw (jx XY [(jx YZ [(cV 2)]),(cV 1)])))))))))))
end Nk12
namespace Nk12
open Q PySem C
abbrev Yes(f:Fn)(xs:List Sd):Prop:=Oo f xs (λy=>∃o':Own,y=(o',.bl true)/\True) noX
theorem qzh(i:Int):Yes VW [(.no,.int i)]:=by
 unfold VW;refine kq ?_;have i1:k5 "int" (.int i)=some (.bl true):=rfl;have i2:k5 "bool" (.int i)=some (.bl false):=rfl;simp![i1,i2];exact⟨_,rfl,trivial⟩
theorem kjy{i n:Int}(h0:0<=i)(h1:i<n):Yes KK [(.no,.int i),(.no,.int n)]:=by
 unfold KK;refine kq ?_;simp![];refine(qzh i).use ?_;intro _ _;have e1:fLe (.int 0) (.int i)=some (.bl true):=by rw[le_ii];simp[h0]
 have e2:fLt (.int i) (.int n)=some (.bl true):=by rw[lt_ii];simp[h1]
 simp![e1,e2];exact⟨_,rfl,trivial⟩
theorem kjr(ds:List D)(hl:ds.length<=10000):Yes m_is_tuple_of [(.no,.tup ds),(.no,.int ds.length)]:=by
 unfold m_is_tuple_of;refine kq ?_;have i1:k5 "tuple" (.tup ds)=some (.bl true):=rfl;have e:fEq (.int ds.length) (.int ds.length)=some (.bl true):=by rw[JY];simp
 simp![i1,e];exact⟨_,rfl,trivial⟩
theorem qk4{z:Str}{ds:List D}{q:D}(hq:q=.tup ds\/q=.lst ds)(h:wV (.str z) q=some (.bl true)):Yes KQ [(.no,.str z),(.no,q)]:=by
 unfold KQ;refine kq ?_;have i1:k5 "str" (.str z)=some (.bl true):=rfl;simp![i1,h];exact⟨_,rfl,trivial⟩
def Fil(own:Int)(d:D):Prop:=d=.non\/d=.str "new"\/∃i,d=.int i/\0<=i/\i<own
theorem none_of{i:Int}{ds:List D}:Oo KQ [(.no,.int i),(.no,.tup ds)] (λy=>∃o':Own,y=(o',.bl false)/\True) noX:=by
 unfold KQ;refine kq ?_;have i1:k5 "str" (.int i)=some (.bl false):=rfl;simp![i1];exact⟨_,rfl,trivial⟩
theorem vwi{own:Int}{d:D}(h:Fil own d):Yes jww [(.no,d),(.no,.int own)]:=by
 unfold jww;refine kq ?_;rcases h with rfl|rfl|⟨i,rfl,h0,h1⟩
 ·simp![];exact⟨_,rfl,trivial⟩
 ·simp![];refine(qk4 (.inl rfl) ?_).use ?_
  ·rfl
  intro _ _;simp![];exact⟨_,rfl,trivial⟩
 ·simp![];refine none_of.use ?_;intro _ _;simp![];refine(kjy h0 h1).use ?_;intro _ _;simp![];exact⟨_,rfl,trivial⟩
theorem wks{own:Int}{d:D}(h:d=.str "fresh"\/d=.str "any"\/∃i,d=.int i/\0<=i/\i<own):Yes jzc [(.no,d),(.no,.int own)]:=by
 unfold jzc;refine kq ?_;rcases h with rfl|rfl|⟨i,rfl,h0,h1⟩
 ·simp![];refine(qk4 (.inl rfl) ?_).use ?_
  ·rfl
  intro _ _;simp![];exact⟨_,rfl,trivial⟩
 ·simp![];refine(qk4 (.inl rfl) ?_).use ?_
  ·rfl
  intro _ _;simp![];exact⟨_,rfl,trivial⟩
 ·simp![];refine none_of.use ?_;intro _ _;simp![];refine(kjy h0 h1).use ?_;intro _ _;simp![];exact⟨_,rfl,trivial⟩
theorem Q6(n:Nat):K3 (.lst (List.replicate n (D.bl true)))=some (.bl true):=by
 have:∀n,bls (List.replicate n (D.bl true))=some (List.replicate n true):=λn=>by
  induction n with
  |zero=>rfl
  |succ n ih=>
   rw[List.replicate_succ];unfold bls;rw[ih];rfl
 show Option.map (λbs:List Bool=>D.bl (bs.all id)) (bls (List.replicate n (D.bl true)))=_;rw[this];simp
theorem Vw{G:D->Sd->Prop}(hG:∀d y,G d y->y.2=.bl true):∀{ds:List D} {ys:List Sd},Each G ds ys->ys.map (·.2)=List.replicate ds.length (.bl true)
 |[],[],_=>rfl
 |d::ds,y::ys,r=>by
  rw[List.map_cons,hG d y r.1,Vw hG r.2];rfl
theorem vjr{own:Int}{fs:List D}(hl:fs.length<=1000)(h:∀f∈fs,Fil own f):Yes jv5 [(.no,.tup fs),(.no,.int own),(.no,.int fs.length)]:=by
 unfold jv5;refine kq ?_;simp![];refine(kjr fs (by omega)).use ?_;intro _ _;simp![];refine vQ [some (.no,.int own)] (λ_ y=>y.2=.bl true) ?_;simp![];refine⟨rfl,λd hd=>?_,λys hy=>?_⟩
 ·simp![];refine(vwi (h d hd)).use ?_;intro _ _;exact⟨⟨_,rfl⟩,rfl⟩
 ·rw[v8,Vw (λ_ _ h=>h) hy];simp![Q6];exact⟨_,rfl,trivial⟩
def Ask(own:Int)(d:D):Prop:=d=.str "fresh"\/d=.str "any"\/∃i,d=.int i/\0<=i/\i<own
noncomputable def Stp(ss:List Str)(own:Int)(ks:List Int)(d:D):Prop:=∃(sg:Str) (bb:D) (to:Int) (fs:List D),d=.tup [.str sg,bb,.int to,.tup fs]/\sg∈ss/\Ask own bb/\0<=to/\to<ks.length/\(fs.length:Int)=ks.getD to.toNat 0/\∀f∈fs,Fil own f
theorem vqs{ss:List Str}{own:Int}{ks:List Int}{d:D}(hk:∀k∈ks,k<=3)(jn:ks.length<=100)(h:Stp ss own ks d):Yes jwv [(.no,d),(.no,.int own),(.no,sL ss),(.no,iL ks)]:=by
 obtain⟨sg,bb,to,fs,rfl,hs,ha,t0,t1,hf,gp⟩:=h;have j0:∀a b c d:D,jz (.tup [a,b,c,d]) (.int 0)=some a:=λ_ _ _ _=>rfl
 have j1:∀a b c d:D,jz (.tup [a,b,c,d]) (.int 1)=some b:=λ_ _ _ _=>rfl
 have j2:∀a b c d:D,jz (.tup [a,b,c,d]) (.int 2)=some c:=λ_ _ _ _=>rfl
 have j3:∀a b c d:D,jz (.tup [a,b,c,d]) (.int 3)=some d:=λ_ _ _ _=>rfl
 have hg:ks[to.toNat]?=some (ks.getD to.toNat 0):=by rw[X9,X2 (by omega)];rfl
 have hx:jz (iL ks) (.int to)=some (.int (ks.getD to.toNat 0)):=qY t0 (by rw[Xp,hg];rfl);have h3:ks.getD to.toNat 0<=3:=hk _ (Yi hg);unfold jwv;refine kq ?_;simp![];refine(kjr [.str sg,bb,.int to,.tup fs] (by simp)).use ?_;intro _ _;simp![j0];refine(qk4 (.inr rfl) ?_).use ?_
 ·show wV (.str sg) (sL ss)=_;rw[wx7,show(ss.any λw=>w==sg)=true from List.any_eq_true.mpr ⟨sg,hs,by simp⟩]
 intro _ _;simp![j1];refine(wks ha).use ?_;intro _ _;simp![j2];refine(kjy t0 t1).use ?_;intro _ _;simp![j2,j3,hx];rw[<-hf];refine(vjr (by omega) gp).use ?_;intro _ _;simp![];exact⟨_,rfl,trivial⟩
theorem qzl{ss:List Str}{own:Int}{ks:List Int}{st:List D}(hk:∀k∈ks,k<=3)(jn:ks.length<=100)(hl:st.length<=1000)(h:∀d∈st,Stp ss own ks d):Yes jv3 [(.no,.lst st),(.no,.int own),(.no,sL ss),(.no,iL ks)]:=by
 unfold jv3;refine kq ?_;simp![];refine vQ [some (.no,.int own),some (.no,sL ss),some (.no,iL ks)] (λ_ y=>y.2=.bl true) ?_;simp![];refine⟨rfl,λd hd=>?_,λys hy=>?_⟩
 ·simp![];refine(vqs hk jn (h d hd)).use ?_;intro _ _;exact⟨⟨_,rfl⟩,rfl⟩
 ·rw[v8,Vw (λ_ _ h=>h) hy];simp![Q6];exact⟨_,rfl,trivial⟩
noncomputable def Rm(ss:List Str)(ks:List Int)(r:D):Prop:=∃(k:Int) (gd:Bool) (st:List D),r=.tup [.int k,.bl gd,.lst st]/\0<=k/\k<=3/\st.length<=120/\∀d∈st,Stp ss k ks d
def Q5:D->D
 |.tup [k,_,_]=>k
 |d=>d
def Q2:D->Nat
 |.tup [_,_,.lst st]=>st.length
 |_=>0
def zY(rs:List D):Nat:=(rs.map Q2).sum
theorem vjq{ss:List Str}{ks:List Int}{r:D}(h:Rm ss ks r):Yes jko [(.no,r)]:=by
 obtain⟨k,gd,st,rfl,h0,h3,_⟩:=h;have j0:∀a b c:D,jz (.tup [a,b,c]) (.int 0)=some a:=λ_ _ _=>rfl
 have j1:∀a b c:D,jz (.tup [a,b,c]) (.int 1)=some b:=λ_ _ _=>rfl
 have j2:∀a b c:D,jz (.tup [a,b,c]) (.int 2)=some c:=λ_ _ _=>rfl
 have i1:k5 "bool" (.bl gd)=some (.bl true):=rfl;have i2:k5 "list" (.lst st)=some (.bl true):=rfl;unfold jko;refine kq ?_;simp![];refine(kjr [.int k,.bl gd,.lst st] (by simp)).use ?_;intro _ _;simp![j0];refine(kjy h0 (by omega)).use ?_;intro _ _;simp![j1,j2,i1,i2];exact⟨_,rfl,trivial⟩
theorem qkh:∀kd:List D,Jz (kd.map λd=>D.int (Q2 d))=some (kd.map λd=>(Q2 d:Int))
 |[]=>rfl
 |d::r=>by rw[List.map_cons,Jz,qkh r];rfl
theorem qjj:∀kd:List D,(kd.map λd=>(Q2 d:Int)).sum=(zY kd:Nat)
 |[]=>rfl
 |d::r=>by unfold zY;rw[List.map_cons,List.sum_cons,qjj r,List.map_cons,List.sum_cons];unfold zY;omega
theorem vqr{ss:List Str}{ks:List Int}{kd:List D}(h:∀m∈kd,Rm ss ks m)(hl:kd.length<=1000):wkd (.lst (kd.map λd=>D.int (Q2 d)))=some (.int (zY kd:Nat)):=by
 unfold wkd;dsimp only;rw[qkh];dsimp only;have hs:kwp (kd.map λd=>(Q2 d:Int))=true:=by
  unfold kwp;rw[Yv];intro i hi;obtain⟨d,hd,rfl⟩:=List.mem_map.mp hi;obtain⟨a,b,st,rfl,_,_,bm,_⟩:=h d hd;have:(Q2 (.tup [.int a,.bl b,.lst st]):Int)=st.length:=rfl;rw[Yc (by omega),Yc (by omega)];rfl
 rw[Xf ⟨hs,by rw[X4];omega⟩,qjj]
theorem qzu{ss:List Str}{ks:List Int}{rs:List D}(h1:1<=rs.length)(h12:rs.length<=12)(hk:rs.map Q5=ks.map D.int)(h:∀r∈rs,Rm ss ks r)(hs:zY rs<=120):Yes jv4 [(.no,.lst rs),(.no,sL ss)]:=by
 have jn:ks.length=rs.length:=by have:=congrArg List.length hk;rw[X4,X4]at this;exact this.symm
 have hk3:∀k∈ks,k<=3:=λk hm=>by
  have:D.int k∈rs.map Q5:=by rw[hk];exact List.mem_map.mpr ⟨k,hm,rfl⟩
  obtain⟨r,hr,e⟩:=List.mem_map.mp this;obtain⟨k',gd,st,rfl,_,k3,_⟩:=h r hr;have e:D.int k'=.int k:=e;injection e with e;omega
 have j0:∀a b c:D,jz (.tup [a,b,c]) (.int 0)=some a:=λ_ _ _=>rfl
 have j2:∀a b c:D,jz (.tup [a,b,c]) (.int 2)=some c:=λ_ _ _=>rfl
 have i1:k5 "list" (.lst rs)=some (.bl true):=rfl;have e1:fLe (.int 1) (.int rs.length)=some (.bl true):=by rw[le_ii];simp;omega
 have e2:fLe (.int rs.length) (.int 12)=some (.bl true):=by rw[le_ii];simp;omega
 have e3:fGt (.int (zY rs:Nat)) (.int 120)=some (.bl false):=by rw[gt_ii];simp;omega
 have bk:∀E:En,back [] [] (clr [] E)=E:=λ_=>rfl
 unfold jv4;refine kq ?_;simp![i1,e1,e2];refine vQ [] (λ_ y=>y.2=.bl true) ?_;simp![];refine⟨λd hd=>?_,λys hy=>?_⟩
 ·simp![];refine(vjq (h d hd)).use ?_;intro _ _;exact⟨⟨_,rfl⟩,rfl⟩
 rw[v8,Vw (λ_ _ h=>h) hy,bk];simp![Q6];refine vQ [] (λd y=>y.2=.int (Q2 d)) ?_;simp![];refine⟨λd hd=>?_,λys hy=>?_⟩
 ·obtain⟨k,gd,st,rfl,_,_,bm,_⟩:=h d hd;simp![j2];exact⟨⟨_,rfl⟩,rfl⟩
 rw[v8,J4 (h:=λd=>D.int (Q2 d)) (λ_ _ h=>h) hy,bk];simp![vqr h (by omega),e3];refine vQ [] (λd y=>y.2=Q5 d) ?_;simp![];refine⟨λd hd=>?_,λys hy=>?_⟩
 ·obtain⟨k,gd,st,rfl,_,_,bm,_⟩:=h d hd;simp![j0];exact⟨⟨_,rfl⟩,rfl⟩
 rw[v8,J4 (h:=Q5) (λ_ _ h=>h) hy,hk,bk];simp![];refine vjt (λE1 B ds ah=>∃(o:Own) (q:Option Sd),(o=.rt\/o=.no)/\B=[q,some (.no,sL ss),some (o,iL ks)]/\(∀d∈ds,d∈rs)/\∃n,ah.map (·.2)=List.replicate n (.bl true)) ?_ ?_ ?_
 ·simp![];exact⟨.rt,_,.inl rfl,rfl,λ_ h=>h,0,rfl⟩
 ·rintro E1 B d ds ah ⟨o,q,ho,rfl,gi,n,hn⟩;obtain⟨k,gd,st,rfl,_,_,bm,hstp⟩:=h d (gi d X3);rcases ho with rfl|rfl
  all_goals
   simp![j0,j2];refine(qzl hk3 (by omega) (by omega) hstp).use ?_;intro _ _;exact⟨.no,_,.inr rfl,rfl,λd hd=>gi d (lc9 _ hd),n+1,by rw[Y0,hn,List.replicate_succ'];rfl⟩
 ·rintro E1 B ah ⟨o,q,ho,rfl,gi,n,hn⟩;rw[v8,hn];simp![Q6];exact⟨_,rfl,trivial⟩
abbrev AZ:Str:="abcdefghijklmnopqrstuvwxyz"
def Sg(z:Str):Prop:=1<=z.cps.size/\z.cps.size<=8/\∀c∈z.cps.toList,c∈AZ.cps.toList
theorem wwd:∀c∈AZ.cps.toList,VZ ⟨#[c]⟩ AZ=true:=by decide +kernel
theorem vqx{z:Str}(h:Sg z):Yes m_is_sign [(.no,.str z)]:=by
 obtain⟨h1,h8,hz⟩:=h;have i1:k5 "str" (.str z)=some (.bl true):=rfl;have l:kX (.str z)=some (.int z.cps.size):=rfl;have e1:fLe (.int 1) (.int z.cps.size)=some (.bl true):=by rw[le_ii];simp;omega
 have e2:fLe (.int z.cps.size) (.int 8)=some (.bl true):=by rw[le_ii];simp;omega
 have hb:z.cps.size<=big:=by unfold big;omega
 unfold m_is_sign;refine kq ?_;simp![i1,l,e1,e2];refine vQ [] (λ_ y=>y.2=.bl true) ?_;simp![hb];refine⟨λd hd=>?_,λys hy=>?_⟩
 ·obtain⟨c,hc,rfl⟩:=List.mem_map.mp hd;have e:wV (.str ⟨#[c]⟩) (.str "abcdefghijklmnopqrstuvwxyz")=some (.bl true):=by
   show some (D.bl (VZ ⟨#[c]⟩ AZ))=_;rw[wwd c (hz c hc)]
  simp![e];exact⟨⟨_,rfl⟩,trivial⟩
 ·rw[v8,Vw (λ_ _ h=>h) hy];simp![Q6];exact⟨_,rfl,trivial⟩
theorem kkt(ss:List Str):(sL ss).flat 40=true:=by
 show D.flats 39 (ss.map D.str)=true;exact K4 λd hd=>by obtain⟨w,_,rfl⟩:=List.mem_map.mp hd;rfl
theorem qzp{ss:List Str}(h1:1<=ss.length)(h3:ss.length<=3)(h:∀z∈ss,Sg z)(hs:qW (ddS ss)=ss):Yes m_are_signs [(.no,sL ss)]:=by
 have i1:k5 "list" (sL ss)=some (.bl true):=rfl;have e1:fLe (.int 1) (.int ss.length)=some (.bl true):=by rw[le_ii];simp;omega
 have e2:fLe (.int ss.length) (.int 3)=some (.bl true):=by rw[le_ii];simp;omega
 have e3:V7 (.no,sL ss)=some (.rt,sL ss):=by
  unfold V7;dsimp only;rw[kk0];dsimp only;rw[Xf (by omega),hs]
 have bk:∀E:En,back [] [] (clr [] E)=E:=λ_=>rfl
 unfold m_are_signs;refine kq ?_;simp![i1,e1,e2];refine vQ [] (λ_ y=>y.2=.bl true) ?_;simp![];refine⟨λd hd=>?_,λys hy=>?_⟩
 ·obtain⟨z,hz,rfl⟩:=List.mem_map.mp hd;simp![];refine(vqx (h z hz)).use ?_;intro _ _;exact⟨⟨_,rfl⟩,rfl⟩
 rw[v8,Vw (λ_ _ h=>h) hy,bk];simp![Q6,e3,C.eq_self (kkt ss)];exact⟨_,rfl,trivial⟩
structure Mc (ss:List Str)(ks:List Int)(rs:List D):Prop where
 s1:1<=ss.length
 s3:ss.length<=3
 sg:∀z∈ss,Sg z
 so:qW (ddS ss)=ss
 r1:1<=rs.length
 r12:rs.length<=12
 ky:rs.map Q5=ks.map D.int
 rm:∀r∈rs,Rm ss ks r
 ln:zY rs<=120
theorem qqh{ss:List Str}{ks:List Int}{rs:List D}(h:Mc ss ks rs):Yes jqk [(.no,qX ss rs)]:=by
 have j0:∀a b:D,jz (.tup [a,b]) (.int 0)=some a:=λ_ _=>rfl
 have j1:∀a b:D,jz (.tup [a,b]) (.int 1)=some b:=λ_ _=>rfl
 unfold jqk;refine kq ?_;simp![];refine(kjr [sL ss,.lst rs] (by simp)).use ?_;intro _ _;simp![j0];refine(qzp h.s1 h.s3 h.sg h.so).use ?_;intro _ _;simp![j0,j1];refine(qzu h.r1 h.r12 h.ky h.rm h.ln).use ?_;intro _ _;simp![];exact⟨_,rfl,trivial⟩
end Nk12
namespace Nk12
open Q PySem C
theorem wj5{xs:List D}(h:D.pures xs=true):YJ (.rt,.lst xs)=true:=by
 unfold YJ;dsimp only;exact h
theorem vj1{xs:List D}(h:∀x∈xs,x.pure=true):D.pures xs=true:=by rw[D.pures_all,Yv];exact h
theorem Fil.pure{own:Int}{d:D}(h:Fil own d):d.pure=true:=by rcases h with rfl|rfl|⟨i,rfl,_⟩<;>rfl
theorem Stp.pure{ss:List Str}{own:Int}{ks:List Int}{d:D}(h:Stp ss own ks d):d.pure=true:=by
 obtain⟨sg,bb,to,fs,rfl,hs,ha,t0,t1,hf,gp⟩:=h;have h1:bb.pure=true:=by rcases ha with rfl|rfl|⟨i,rfl,_⟩<;>rfl
 have h2:D.pures fs=true:=vj1 λf hf=>(gp f hf).pure
 show(D.pure (.str sg)&&(bb.pure&&(D.pure (.int to)&&(D.pures fs&&true))))=true;rw[h1,h2];rfl
theorem vwq{ss:List Str}{ks:List Int}{rs:List D}(h:Mc ss ks rs):Oo YX [(.no,qX ss rs)] (λy=>∃o:Own,y=(o,qX ss rs)/\o=.no) noX:=by
 have j0:∀a b:D,jz (.tup [a,b]) (.int 0)=some a:=λ_ _=>rfl
 have j1:∀a b:D,jz (.tup [a,b]) (.int 1)=some b:=λ_ _=>rfl
 unfold YX;refine kq ?_;simp![j0,vku (o:=.no) (xs:=ss.map D.str) (by decide)];refine vjt (λE1 B ds ah=>E1=[some (.no,qX ss rs)]/\∃(l0 l1 l2:Option Sd) (pre:List D),B=[l0,l1,l2]/\rs=pre++ds/\ah.map (·.2)=pre) ?_ ?_ ?_
 ·simp![j1];exact⟨_,_,_,[],rfl,rfl,rfl⟩
 ·rintro E1 B d ds ah ⟨rfl,l0,l1,l2,pre,rfl,gi,hmap⟩;obtain⟨k,gd,st,rfl,h0,h3,hl,bm⟩:=h.rm d (by rw[gi];simp);simp![vku (o:=.no) (xs:=st) (by decide)];refine⟨_,_,_,pre++[.tup [.int k,.bl gd,.lst st]],rfl,by rw[gi];simp,?_⟩;rw[Y0,hmap];rfl
 ·rintro E1 B ah ⟨rfl,l0,l1,l2,pre,rfl,gi,hmap⟩;rw[Xv]at gi;subst gi;rw[v8,hmap];simp only[Q0,back,clr,at',List.drop,List.map_cons,List.map_nil,List.set_cons_zero,List.set_cons_succ];simp![];exact⟨_,rfl,rfl⟩
end Nk12
namespace Nk12
open Q PySem C
theorem vxd{c d:Ex}{e:Option Sd}{E:En}{P:En->List D->Prop}{X:XP}:Eo (qkf c d (e::E)) P X=Eo (c (e::E)) (λE x=>Eo (d E) (λE y=>Wo (vjs x.2 y.2) E P) X) X:=by
 unfold qkf;rw[k8];congr 1;funext E x;rw[k8];congr 1;funext E y;exact xY
theorem Fil.flat{own:Int}{n:Nat}{d:D}(h:Fil own d):d.flat (n+1)=true:=by rcases h with rfl|rfl|⟨i,rfl,_⟩<;>rfl
theorem Ask.flat{own:Int}{n:Nat}{d:D}(h:Ask own d):d.flat (n+1)=true:=by rcases h with rfl|rfl|⟨i,rfl,_⟩<;>rfl
theorem Stp.flat{ss:List Str}{own:Int}{ks:List Int}{d:D}{n:Nat}(h:Stp ss own ks d):d.flat (n+4)=true:=by
 obtain⟨sg,bb,to,fs,rfl,hs,ha,t0,t1,hf,gp⟩:=h;refine K4 λx hx=>?_
 simp only[Xh,Xg,or_false]at hx;rcases hx with rfl|rfl|rfl|rfl
 ·rfl
 ·exact ha.flat
 ·rfl
 ·exact K4 λf hf=>(gp f hf).flat
theorem qzm{ss:List Str}{own:Int}{ks:List Int}{d:D}(hk:∀k∈ks,k<=3)(h:Stp ss own ks d):Yes jkg [(.no,d),(.no,d)]:=by
 have ft:=ZW (h.flat (n:=36));obtain⟨sg,bb,to,fs,rfl,hs,ha,t0,t1,hf,gp⟩:=h;have hg:ks[to.toNat]?=some (ks.getD to.toNat 0):=by rw[X9,X2 (by omega)];rfl
 have h3:ks.getD to.toNat 0<=3:=hk _ (Yi hg);have j1:∀a b c d:D,jz (.tup [a,b,c,d]) (.int 1)=some b:=λ_ _ _ _=>rfl
 have j2:∀a b c d:D,jz (.tup [a,b,c,d]) (.int 2)=some c:=λ_ _ _ _=>rfl
 have j3:∀a b c d:D,jz (.tup [a,b,c,d]) (.int 3)=some d:=λ_ _ _ _=>rfl
 have i1:∀xs,k5 "tuple" (.tup xs)=some (.bl true):=λ_=>rfl
 have ad:jq (.no,.tup [bb,.int to]) (.no,.tup fs)=some (.no,.tup ([bb,.int to]++fs)):=wku (by simp;omega);have hz:vjs (.tup (bb :: .int to::fs)) (.tup (bb :: .int to::fs))=some (v7 (bb :: .int to::fs) (bb :: .int to::fs)):=by
  unfold vjs;dsimp only;rw[Xf (by unfold big;simp;omega)]
 have hx:∀x∈[bb,.int to]++fs,k5 "bool" x=some (.bl false)/\∃b,k5 "str" x=some (.bl b):=λx hx=>by
  rcases List.mem_append.mp hx with hx|hx
  ·simp only[Xh,Xg,or_false]at hx;rcases hx with rfl|rfl
   ·rcases ha with rfl|rfl|⟨i,rfl,_⟩<;>exact⟨rfl,_,rfl⟩
   ·exact⟨rfl,_,rfl⟩
  ·rcases gp x hx with rfl|rfl|⟨i,rfl,_⟩<;>exact⟨rfl,_,rfl⟩
 have nb:∀b,fNe (.bl b) (.bl b)=some (.bl false):=λb=>by cases b<;>rfl
 unfold jkg;refine kq ?_;simp![i1,ft,j3];refine K2 (λE j9=>∃(l2 l3:Option Sd) (bq:List D),E=[some (.no,.tup [.str sg,bb,.int to,.tup fs]),some (.no,.tup [.str sg,bb,.int to,.tup fs]),l2,l3]/\j9=v7 bq bq/\∀d∈bq,d∈[bb,.int to]++fs) ?_ ?_ ?_
 ·simp![vxd,j1,j2,j3,ad,hz];exact⟨_,_,_,rfl,rfl,λd h=>h⟩
 ·rintro E d j9 ⟨l2,l3,bq,rfl,he,hm⟩;cases bq with
  |nil=>cases he
  |cons x bq=>
   have he:d::j9=.tup [x,x]::v7 bq bq:=he;injection he with e1 e2;subst e1 e2;obtain⟨b1,b,b2⟩:=hx x (hm x X3);simp![b1,b2,nb];exact⟨_,_,bq,rfl,rfl,λd h=>hm d (lc9 _ h)⟩
 ·rintro E ⟨l2,l3,bq,rfl,he,hm⟩;simp![];exact⟨_,rfl,trivial⟩
theorem Rm.flat{ss:List Str}{ks:List Int}{r:D}{n:Nat}(h:Rm ss ks r):r.flat (n+7)=true:=by
 obtain⟨k,gd,st,rfl,h0,h3,hl,bm⟩:=h;refine K4 λx hx=>?_
 simp only[Xh,Xg,or_false]at hx;rcases hx with rfl|rfl|rfl
 ·rfl
 ·rfl
 ·exact K4 λd hd=>(bm d hd).flat (n:=n+1)
theorem vxb(i:Int):Yes m__law_whole [(.no,.int i)]:=by
 unfold m__law_whole;refine kq ?_;have i1:k5 "int" (.int i)=some (.bl true):=rfl;have i2:k5 "bool" (.int i)=some (.bl false):=rfl;simp![i1,i2];exact⟨_,rfl,trivial⟩
theorem Mc.k3{ss:List Str}{ks:List Int}{rs:List D}(h:Mc ss ks rs):∀k∈ks,k<=3:=λk hm=>by
 have:D.int k∈rs.map Q5:=by rw[h.ky];exact List.mem_map.mpr ⟨k,hm,rfl⟩
 obtain⟨r,hr,e⟩:=List.mem_map.mp this;obtain⟨k',gd,st,rfl,_,k3,_⟩:=h.rm r hr;have e:D.int k'=.int k:=e;injection e with e;omega
theorem qvj{ss:List Str}{ks:List Int}{rs:List D}(h:Mc ss ks rs):Yes XY [(.no,qX ss rs),(.no,qX ss rs)]:=by
 have k3:=h.k3;have r12:=h.r12;have j0:∀a b:D,jz (.tup [a,b]) (.int 0)=some a:=λ_ _=>rfl
 have j1:∀a b:D,jz (.tup [a,b]) (.int 1)=some b:=λ_ _=>rfl
 have t0:∀a b c:D,jz (.tup [a,b,c]) (.int 0)=some a:=λ_ _ _=>rfl
 have t1:∀a b c:D,jz (.tup [a,b,c]) (.int 1)=some b:=λ_ _ _=>rfl
 have t2:∀a b c:D,jz (.tup [a,b,c]) (.int 2)=some c:=λ_ _ _=>rfl
 have i1:∀xs,k5 "tuple" (.tup xs)=some (.bl true):=λ_=>rfl
 have i2:∀xs,k5 "list" (.lst xs)=some (.bl true):=λ_=>rfl
 have i3:∀b,k5 "bool" (.bl b)=some (.bl true):=λ_=>rfl
 have ni:∀i:Int,fNe (.int i) (.int i)=some (.bl false):=λi=>ZW rfl
 have nb:∀b,fNe (.bl b) (.bl b)=some (.bl false):=λb=>by cases b<;>rfl
 have n2:fNe (.int ((2:Nat):Int)) (.int 2)=some (.bl false):=rfl;have n3:fNe (.int ((3:Nat):Int)) (.int 3)=some (.bl false):=rfl;have ns:fNe (sL ss) (sL ss)=some (.bl false):=ZW (kkt ss);have bg:rs.length<=big:=by unfold big;omega
 unfold XY;refine kq ?_;simp![i1,i2,ni,ns,j0,j1,n2];refine K2 (λE j9=>∃(l2 l3 l4 l5:Option Sd) (bq:List D),E=[some (.no,qX ss rs),some (.no,qX ss rs),l2,l3,l4,l5]/\j9=v7 bq bq/\∀d∈bq,d∈rs) ?_ ?_ ?_
 ·simp![j1,Option.bind_some,bg];exact⟨_,_,_,_,rs,rfl,rfl,λd h=>h⟩
 ·rintro E d j9 ⟨l2,l3,l4,l5,bq,rfl,he,hm⟩;cases bq with
  | nil=>cases he
  | cons x bq=>
   have he:d::j9=.tup [x,x]::v7 bq bq:=he;injection he with e1 e2;subst e1 e2;obtain⟨k,gd,st,rfl,h0,h3,hl,bm⟩:=h.rm x (hm x X3);have bg2:st.length<=big:=by unfold big;omega
   simp![i1,ni,t0,n3];refine(vxb k).use ?_;intro _ _;simp![i2,i3,ni,nb,t0,t1,t2];refine K2 (λE gb=>∃(l4 l5:Option Sd) (ij:List D),E=[some (.no,qX ss rs),some (.no,qX ss rs),some (.no,.tup [.int k,.bl gd,.lst st]),some (.no,.tup [.int k,.bl gd,.lst st]),l4,l5]/\gb=v7 ij ij/\∀d∈ij,d∈st) ?_ ?_ ?_
   ·simp![t2,Option.bind_some,bg2];exact⟨_,_,st,rfl,rfl,λd h=>h⟩
   ·rintro E d gb ⟨l4,l5,ij,rfl,he,pc⟩;cases ij with
    |nil=>cases he
    |cons x2 ij=>
     have he:d::gb=.tup [x2,x2]::v7 ij ij:=he;injection he with e1 e2;subst e1 e2;simp![];refine(qzm k3 (bm x2 (pc x2 X3))).use ?_;intro _ _;simp![];exact⟨_,_,ij,rfl,rfl,λd h=>pc d (lc9 _ h)⟩
   ·rintro E ⟨l4,l5,ij,rfl,_,_⟩;exact⟨_,_,_,_,bq,rfl,rfl,λd h=>hm d (lc9 _ h)⟩
 ·rintro E ⟨l2,l3,l4,l5,bq,rfl,he,hm⟩;simp![];exact⟨_,rfl,trivial⟩
end Nk12
namespace Nk12
open Q PySem C
theorem qxo:m__law_mixed=A.m__law_mixed:=rfl
theorem vwo:m__law_words=A.m__law_words:=rfl
theorem wkj:m__law_cell_at=B.m__law_cell_at:=rfl
theorem qq3(l:List Str):qW (qW l)=qW l:=List.Perm.eq_of_pairwise (λa b _ _ h1 h2=>qkb h1 h2) kjv kjv (J7 _)
theorem wkk:∀(l ah:List Str),ah.Nodup->(l.foldl (λl k=>if l.any (· == k)then l else l++[k]) ah).Nodup
 | [],ah,h=>h
 | k::l,ah,h=>by
  rw[List.foldl_cons];refine wkk l _ ?_
  split
  ·exact h
  ·rename_i hn;refine List.nodup_append.mpr ⟨h,by simp,λa ha b hb e=>hn (List.any_eq_true.mpr ⟨a,ha,?_⟩)⟩;rw[List.mem_singleton]at hb;rw[e,hb];exact beq_self_eq_true _
theorem vjx(l:List Str):(ddS l).Nodup:=wkk l [] Y9
theorem qxp:∀(l ah:List Str),(ah++l).Nodup->l.foldl (λl k=>if l.any (· == k)then l else l++[k]) ah=ah++l
 | [],ah,_=>by simp
 | k::l,ah,h=>by
  have hk:k∉ah:=λhm=>(List.nodup_append.mp h).2.2 k hm k X3 rfl
  rw[List.foldl_cons,Xm (λhh=>by
   obtain⟨y,hy,e⟩:=List.any_eq_true.mp hh;rw[eq_of_beq e]at hy;exact hk hy),qxp l (ah++[k]) (by rw[Xk];exact h),Xk]
  rfl
theorem ww5{l:List Str}(h:l.Nodup):ddS l=l:=qxp l [] h
theorem qvf{l:List Str}(h:l.Nodup):qW (ddS (qW l))=qW l:=by
 rw[ww5 ((J7 l).nodup_iff.mpr h),qq3]
theorem vwj(n own:Int)(h0:0<=own):Oo jv7 [(.no,.int n),(.no,.int own)] (λy=>Fil own y.2) noX:=by
 have e1:∀a b:Int,fEq (.int a) (.int b)=some (.bl (a==b)):=λa b=>JY
 unfold jv7;refine kq ?_;have q0:=Xr n (show(4:Int)≠0 by decide);have q1:=Xj n (show(0:Int)<4 by decide);have hm:jW (.int n) (.int 4)=some (.int (n % 4)):=mod_i (by decide);generalize n % 4=t at q0 q1 hm
 by_cases hz:own=0
 ·subst hz;rcases(show t=0\/t=1\/t=2\/t=3 by omega)with rfl|rfl|rfl|rfl
  all_goals
   simp![hm,e1]
   first|exact .inl rfl|exact .inr (.inl rfl)
 ·have hp:0<own:=by omega
  have w0:=Xr (n / 4) (show own≠0 by omega);have w1:=Xj (n / 4) hp;have ez:(own==0)=false:=beq_false_of_ne hz;have eg:decide (own>0)=true:=Yc hp;rcases(show t=0\/t=1\/t=2\/t=3 by omega)with rfl|rfl|rfl|rfl
  all_goals
   simp![hm,e1,ez,eg,mod_i (a:=n / 4) (b:=own) hp]
   first|exact .inl rfl|exact .inr (.inl rfl)|exact .inr (.inr ⟨_,rfl,w0,w1⟩)
theorem vw1{xs:List D}{t:Int}(h0:0<=t)(h1:t<xs.length):∃a∈xs,jz (.lst xs) (.int t)=some a:=
 ⟨xs[t.toNat]'(by omega),Ye _,qY h0 (X2 (by omega))⟩
theorem qkm{G:D->Sd->Prop}:∀{ds:List D} {ys:List Sd},Each G ds ys->ys.length=ds.length
 |[],[],_=>rfl
 |d::ds,y::ys,r=>congrArg (· + 1) (qkm r.2)
theorem vqt{ss:List Str}{ks:List Int}(c bw:Int)(hs:1<=ss.length)(p7:ss.length<=3)(hk:∀k∈ks,0<=k/\k<=3)(jn:ks.length<=12)(h0:0<=bw)(h1:bw<ks.length):
  Oo XZ [(.no,.int c),(.no,sL ss),(.no,.int bw),(.no,iL ks)] (λy=>∃d,y=(.no,d)/\Stp ss (ks.getD bw.toNat 0) ks d) noX:=by
 obtain⟨own,ho,⟨o0,o3⟩,eo⟩:=ixI ks (λk=>0<=k/\k<=3) hk bw h0 h1;have eo':ks.getD bw.toNat 0=own:=by rw[X9,eo];rfl
 rw[eo'];unfold XZ;rw[qxo];refine kq ?_;simp![];refine(A.mixed_ok c 0 (by decide) (by decide)).use ?_;intro m _;have t0:=Xr (m / 3) (show(ks.length:Int)≠0 by omega);have t1:=Xj (m / 3) (show(0:Int)<ks.length by omega);have a0:=Xr (m / 60) (show 3+own≠0 by omega);have a1:=Xj (m / 60) (show 0<3+own by omega);have g0:=Xr m (show(ss.length:Int)≠0 by omega);have g1:=Xj m (show(0:Int)<ss.length by omega);obtain⟨kt,ht,⟨k0,k3⟩,et⟩:=ixI ks (λk=>0<=k/\k<=3) hk (m / 3 % ks.length) t0 t1;have et':ks.getD (m / 3 % ks.length).toNat 0=kt:=by rw[X9,et];rfl
 simp![mod_i (a:=m / 3) (b:=(ks.length:Int)) (by omega),ho];refine vQ [] (λd y=>y.2=d) ?_;refine Kw ?_;simp![ho];refine⟨own,rfl,by omega,by omega,λd hd=>⟨⟨_,rfl⟩,trivial⟩,λys hy=>?_⟩;have bk:∀E:En,back [] [] (clr [] E)=E:=λ_=>rfl
 have hlr:=kkm (k:=0) (n:=own) (by omega);have ad:jq (.no,.lst [D.str "fresh",.str "any",.str "fresh"]) (.no,.lst (kK 0 own))=some (.rt,.lst (D.str "fresh" :: .str "any" :: .str "fresh" :: kK 0 own)):=qz5 (by decide) (by decide) (by simp only[Xb,Yt];omega);obtain⟨bb,hmem,hask⟩:=vw1 (xs:=D.str "fresh" :: .str "any" :: .str "fresh" :: kK 0 own) a0 (by simp only[Xb];omega);have hA:Ask own bb:=by
  simp only[Xh]at hmem;rcases hmem with rfl|rfl|rfl|hm
  ·exact .inl rfl
  ·exact .inr (.inl rfl)
  ·exact .inl rfl
  ·obtain⟨i,i0,i1,rfl⟩:=K6 hm;exact .inr (.inr ⟨i,rfl,i0,i1⟩)
 rw[v8,vwn (λ_ _ h=>h) hy,bk];simp![ad,mod_i (a:=m / 60) (b:=3+own) (by omega),hask,ho];refine vQ [some (.dp,.int m),some (.no,iL ks),some (.no,.int bw)] (λ_ y=>Fil own y.2) ?_;refine Kw ?_;simp![ht];refine⟨kt,rfl,by omega,by omega,rfl,λd hd=>?_,λys hy=>?_⟩
 ·obtain⟨i,i0,i1,rfl⟩:=K6 hd;have hdv:∃dv:Int,jz (.lst [.int 720,.int 46080,.int 2949120]) (.int i)=some (.int dv)/\0<dv/\dv<10 ^ 70:=by
   rcases(show i=0\/i=1\/i=2 by omega)with rfl|rfl|rfl
   ·exact⟨720,rfl,by decide,by decide⟩
   ·exact⟨46080,rfl,by decide,by decide⟩
   ·exact⟨2949120,rfl,by decide,by decide⟩
  obtain⟨dv,hdv,d0,d1⟩:=hdv;simp![hdv,div_i (a:=m) (b:=dv) d0 d1,ho];refine(vwj (m / dv) own o0).via ?_;rintro ⟨o,y⟩ hy;exact⟨⟨_,rfl⟩,hy⟩
 have gp:∀z∈ys.map (·.2),Fil own z:=qko (S:=Fil own) (λ_ _ h=>h) hy;have hfl:((ys.map (·.2)).length:Int)=kt:=by rw[X4,qkm hy,kkm (by omega)];omega
 rw[v8];generalize ys.map (·.2)=fs at gp hfl;have esg:jz (sL ss) (.int (m % ss.length))=some (.str (ss[(m % ss.length).toNat]'(by omega))):=qY g0 (by rw[Xp,X2 (by omega)];rfl);have hsgm:ss[(m % ss.length).toNat]'(by omega)∈ss:=Ye _;simp only[back,clr,at',List.map_cons,List.map_nil,List.set_cons_zero,List.set_cons_succ];simp![vxg (o:=.no) (xs:=fs) (by decide),mod_i (a:=m) (b:=(ss.length:Int)) (by omega),esg];exact⟨_,rfl,_,bb,_,fs,rfl,hsgm,hA,t0,t1,by rw[et',hfl],gp⟩
end Nk12
namespace Nk12
open Q PySem C
def V1:D->Nat
 |.lst st=>st.length
 |_=>0
def x9(ls:List D):Nat:=(ls.map V1).sum
theorem qv8:∀(ls:List D) (n:Nat) (st:List D) (d:D),ls[n]?=some (.lst st)->x9 (ls.set n (.lst (st++[d])))=x9 ls+1
 |[],n,st,d,h=>nomatch h
 |a::ls,0,st,d,h=>by
  cases oq9 h;show(st++[d]).length+x9 ls=st.length+x9 ls+1;rw[Xn];simp only[Xb,Yt];omega
 |a::ls,n+1,st,d,h=>by
  have h:ls[n]?=some (.lst st):=h;show V1 a+x9 (ls.set n (.lst (st++[d])))=V1 a+x9 ls+1;rw[qv8 ls n st d h];omega
theorem kzi:∀(ls:List D) (n:Nat) (x:D),ls[n]?=some x->V1 x<=x9 ls
 |[],n,x,h=>nomatch h
 |a::ls,0,x,h=>by
  cases oq9 h;show V1 a<=V1 a+x9 ls;omega
 |a::ls,n+1,x,h=>by
  have:=kzi ls n x h;show V1 x<=V1 a+x9 ls;omega
structure Bs (ss:List Str)(ks:List Int)(ls:List D)(b:Nat):Prop where
 ln:ls.length=ks.length
 ok:∀j:Nat,j<ks.length->∃st:List D,ls[j]?=some (.lst st)/\∀d∈st,Stp ss (ks.getD j 0) ks d
 sm:x9 ls<=b
theorem Bs.put{ss:List Str}{ks:List Int}{ls:List D}{b n:Nat}{st:List D}{d:D}(h:Bs ss ks ls b)(hn:n<ks.length)(e:ls[n]?=some (.lst st))(hd:Stp ss (ks.getD n 0) ks d):Bs ss ks (ls.set n (.lst (st++[d]))) (b+1):=by
 refine⟨by rw[Ys];exact h.ln,λj hj=>?_,by rw[qv8 ls n st d e];have:=h.sm;omega⟩
 by_cases hjn:j=n
 ·subst hjn;obtain⟨ff,e',ir⟩:=h.ok j hj;rw[e]at e';cases oq9 e';refine⟨st++[d],by rw[Y5 (by rw[h.ln];exact hj)],λx hx=>?_⟩;rcases List.mem_append.mp hx with hx|hx
  ·exact ir x hx
  ·rw[List.mem_singleton.mp hx];exact hd
 ·obtain⟨ff,e',ir⟩:=h.ok j hj;exact⟨ff,by rw[Xu (Ne.symm hjn)];exact e',ir⟩
theorem Bs.first{ss:List Str}{ks:List Int}{n:Nat}:Bs ss ks (List.replicate ks.length (.lst [])) 0:=by
 refine⟨Yf,λj hj=>⟨[],by rw[List.getElem?_replicate,Xf hj],λd h=>nomatch h⟩,?_⟩;unfold x9;rw[List.map_replicate];show(List.replicate ks.length 0).sum<=0;simp
noncomputable def xz(ks:List Int)(gs:List Bool)(ls:List D):List D:=(List.range ks.length).map λj=>.tup [.int (ks.getD j 0),.bl (gs.getD j false),ls.getD j .non]
theorem wvo{ss:List Str}{ks:List Int}{gs:List Bool}{ls:List D}(s1:1<=ss.length)(s3:ss.length<=3)(sg:∀z∈ss,Sg z)(so:qW (ddS ss)=ss)(k1:1<=ks.length)(k12:ks.length<=12)(hk:∀k∈ks,0<=k/\k<=3)(h:Bs ss ks ls 100):Mc ss ks (xz ks gs ls):=by
 have gl:∀j,j<ks.length->∃st,ls.getD j .non=.lst st/\st.length<=100/\∀d∈st,Stp ss (ks.getD j 0) ks d:=λj hj=>by
  obtain⟨st,e,bm⟩:=h.ok j hj;refine⟨st,by rw[X9,e];rfl,?_,bm⟩;exact Xw (kzi ls j _ e) h.sm
 refine⟨s1,s3,sg,so,?_,?_,?_,λr hr=>?_,?_⟩
 ·unfold xz;rw[X4,Yb];exact k1
 ·unfold xz;rw[X4,Yb];exact k12
 ·unfold xz;rw[Xx];apply List.ext_getElem
  ·simp
  ·intro j h1 h2;have hj:j<ks.length:=by simpa using h2
   simp only[List.getElem_map,List.getElem_range,Function.comp];show D.int (ks.getD j 0)=D.int ks[j];rw[X9,X2 hj];rfl
 ·unfold xz at hr;obtain⟨j,hj,rfl⟩:=List.mem_map.mp hr;have hj:=List.mem_range.mp hj;obtain⟨st,e,hl,bm⟩:=gl j hj;have hm:ks.getD j 0∈ks:=by rw[X9,X2 hj];exact Ye _
  exact⟨_,_,st,by rw[e],(hk _ hm).1,(hk _ hm).2,by omega,bm⟩
 ·have:zY (xz ks gs ls)=x9 ls:=by
   unfold zY x9 xz;rw[Xx]
   congr 1
   apply List.ext_getElem
   ·simp[h.ln]
   ·intro j h1 h2;have hj:j<ks.length:=by simpa using h1
    obtain⟨st,e,_⟩:=h.ok j hj;obtain⟨em,e2⟩:=List.getElem?_eq_some_iff.mp e;simp only[List.getElem_map,List.getElem_range,Function.comp];have e3:ls.getD j .non=.lst st:=by rw[X9,e];rfl
    rw[e2,e3];rfl
  rw[this];have:=h.sm;omega
def wq1(ss:List Str):Prop:=1<=ss.length/\ss.length<=3/\(∀z∈ss,Sg z)/\qW (ddS ss)=ss
theorem qkl{G:D->Sd->Prop}{v:Sd}(hG:∀d y,G d y->y=v):∀{ds:List D} {ys:List Sd},Each G ds ys->ys=List.replicate ds.length v
 |[],[],_=>rfl
 |d::ds,y::ys,r=>by
  rw[hG d y r.1,qkl hG r.2];rfl
theorem kwn{ss:List Str}{own:Int}{ks:List Int}{d:D}{o:Own}(h:Stp ss own ks d):v9 (o,d)=true:=by
 unfold v9;rw[h.pure,Bool.or_true]
theorem qkn{G:D->Sd->Prop}(hG:∀d y,G d y->∃b,y.2=.bl b):∀{ds:List D} {ys:List Sd},Each G ds ys->∃gs:List Bool,ys.map (·.2)=gs.map D.bl/\gs.length=ds.length
 |[],[],_=>⟨[],rfl,rfl⟩
 |d::ds,y::ys,r=>by
  obtain⟨b,e⟩:=hG d y r.1;obtain⟨gs,h1,h2⟩:=qkn hG r.2;exact⟨b::gs,by rw[List.map_cons,e,h1];rfl,by simp[h2]⟩
noncomputable def hD(ks:List Int)(gs:List Bool)(ls:List D):D->D
 |.int i=>.tup [.int (ks.getD i.toNat 0),.bl (gs.getD i.toNat false),ls.getD i.toNat .non]
 |d=>d
theorem qvm{ns:List Int}{ss:List Str}{head aj:Int}(ph:ns.length<=63)(hs:wq1 ss)(m1:1<=aj)(m12:aj<=12):
Eo
  (cLC Own.rt 1 [0] (qV (vV 4)) (Tg.n 0) tYes
   (cF2 (pu2 jW) (vE (jx A.m__law_mixed [jx B.m__law_cell_at [cV 1,cC (D.int 2)],cV 0]))
    (vE (cC (D.int 4))))
   [some (Own.no,iL ns),some (Own.no,D.int 5),some (Own.dp,D.int head),some (Own.rt,sL ss),
    some (Own.dp,D.int aj),none,none,none,none,none])
  (fun E x =>
   Po
    (j6 (jK 6 (cLC Own.dp 1 [] (qV (vV 4)) (Tg.n 0) tYes (qk Own.dp [])))
     (j6
      (vK (itS (cSl (vV 0) (some (vV 1)) (some (vE (cF2 jq (vV 1) (vE (cC (D.int 50)))))))) (Tg.n 7)
       (j6 (jK 8 (cF2 (pu2 jW) (vE (jx A.m__law_mixed [cV 7,cC (D.int 12)])) (vV 4)))
        (j6 (Q3 6 (vV 8) (jx XZ [cV 7,cV 3,cV 8,cV 5]))
         (sIf
          (tAnd
           (tE
            (cF2 (pu2 fEq)
             (vE (cF2 (pu2 jW) (vE (cF2 (pu2 qK) (vV 2) (vE (cC (D.int 200))))) (vE (cC (D.int 4)))))
             (vE (cC (D.int 1)))))
           (tE (cF2 (pu2 fEq) (vE (cF2 (pu2 jW) (vV 7) (vE (cC (D.int 3))))) (vE (cC (D.int 1))))))
          (Q3 6 (vV 8) (cH (j7 (j7 (vV 6) (vV 8)) (vE (cC (D.int 0)))))) kW))))
      (j6
       (jK 9
        (cLC Own.rt 1 [0] (qV (vV 4)) (Tg.n 0) tYes
         (cF2 (pu2 fEq)
          (vE
           (cF2 (pu2 jW) (vE (jx A.m__law_mixed [jx B.m__law_cell_at [cV 1,cC (D.int 3)],cV 0]))
            (vE (cC (D.int 2)))))
          (vE (cC (D.int 1))))))
       (sFz 6
        (jw
         (qZ Own.no
          [cV 3,
           cLC Own.rt 1 [5,9,6] (qV (vV 4)) (Tg.n 0) tYes
            (qZ Own.no [cH (j7 (vV 1) (vV 0)),cH (j7 (vV 2) (vV 0)),cH (j7 (vV 3) (vV 0))])])))))
     (List.set E 5 (some x)))
    (λx=>∃z:List Str×List Int×List D,(Own.dp,D.non)=(Own.no,qX z.1 z.2.2)/\Mc z.1 z.2.1 z.2.2) (λx=>False)
    (λy=>∃z:List Str×List Int×List D,y=(Own.no,qX z.1 z.2.2)/\Mc z.1 z.2.1 z.2.2) noX)
  noX:=by
 have bk:∀E:En,back [] [] (clr [] E)=E:=λ_=>rfl
 obtain⟨s1,s3,sg,so⟩:=hs;refine vQ [some (.no,iL ns)] (λ_ y=>∃i,y.2=.int i/\0<=i/\i<=3) ?_;refine Kw ?_;simp![];refine⟨aj,rfl,by omega,by omega,rfl,λd hd=>?_,λys hy=>?_⟩
 ·obtain⟨i,i0,i1,rfl⟩:=K6 hd;simp![];refine(B.cell_ok ns 2 (by omega)).use ?_;intro _ _;simp![];refine(A.mixed_ok _ i i0 (by omega)).use ?_;intro v _;have t0:=Xr v (show(4:Int)≠0 by decide);have t1:=Xj v (show(0:Int)<4 by decide);simp![];exact⟨⟨_,rfl⟩,_,rfl,t0,by omega⟩
 obtain⟨ks,e1,e2,hk⟩:=kz2 (S:=λi=>0<=i/\i<=3) (λd y ⟨i,h,s⟩=>⟨i,h,s⟩) hy;have jn:(ks.length:Int)=aj:=by rw[e2,kkm (by omega)];omega
 rw [v8,e1];simp only[back,clr,at',List.map_cons,List.map_nil,List.set_cons_zero,List.set_cons_succ];simp![];refine vQ [] (λ_ y=>y=(.dp,.lst [])) ?_;refine Kw ?_;simp![];refine⟨aj,rfl,by omega,by omega,λd hd=>?_,λys hy=>?_⟩
 ·exact⟨⟨_,rfl⟩,trivial⟩
 rw [qkl (λ_ _ h=>h) hy,wjh (List.all_eq_true.mpr λy hy=>by rw[List.eq_of_mem_replicate hy];rfl),List.map_replicate,bk];rw [show(kK 0 aj).length=ks.length by have:=kkm (k:=0) (n:=aj) (by omega);omega];simp![W8 (o:=.no) (xs:=ns.map D.int) (lo:=some 5) (hi:=some (5+50)) (by decide)];obtain⟨cells,hc1,hc3⟩:∃cells:List Int,K7 (ns.map D.int) (some 5) (some (5+50))=cells.map D.int/\cells.length<=50:=by
  refine⟨(ns.drop _).take _,by unfold K7;rw[List.map_take,List.map_drop],?_⟩;rw [Yh,Z4,X4];show min (min (55:Int).toNat ns.length - min (5:Int).toNat ns.length) (ns.length - min (5:Int).toNat ns.length)<=50;have h1:(55:Int).toNat=55:=rfl;have h2:(5:Int).toNat=5:=rfl;rw [h1,h2];omega
 refine K2 (λE j9=>∃(ls:List D) (n:Nat) (o3 o5:Own) (l7 l8:Option Sd) (cs:List Int),(o3=.rt\/o3=.no)/\(o5=.rt\/o5=.no)/\E=[some (.no,iL ns),some (.no,.int 5),some (.dp,.int head),some (o3,sL ss),some (.dp,.int aj),some (o5,iL ks),some (.dp,.lst ls),l7,l8,none]/\j9=cs.map D.int/\n+2*cs.length<=100/\Bs ss ks ls n) ?_ ?_ ?_
 ·simp![W8 (o:=.no) (xs:=ns.map D.int) (lo:=some 5) (hi:=some (5+50)) (by decide),hc1];exact⟨_,0,.rt,.rt,_,_,cells,.inl rfl,.inl rfl,rfl,rfl,by omega,Bs.first (n:=0)⟩
 ·rintro E d j9 ⟨ls,n,o3,o5,l7,l8,cs,ho3,ho5,rfl,he,hn,hb⟩;cases cs with
  | nil=>cases he
  | cons c cs=>
   have he:d::j9=.int c::cs.map D.int:=he;injection he with e1 e2;subst e1 e2;have w0:=λv=>Xr v (show aj≠0 by omega)
   have w1:=λv=>Xj v (show 0<aj by omega)
   have pw:∀(v:Int),0<=v % aj->v % aj<aj->∃st,ls[(v % aj).toNat]?=some (.lst st)/\∀d∈st,Stp ss (ks.getD (v % aj).toNat 0) ks d:=λv a b=>hb.ok _ (by omega)
   have r1:fEq (.int (head / 200 % 4)) (.int 1)=some (.bl (head / 200 % 4==1)):=JY;have r2:fEq (.int (c % 3)) (.int 1)=some (.bl (c % 3==1)):=JY;simp![];refine(A.mixed_ok c 12 (by decide) (by decide)).use ?_;intro v _;obtain⟨st,est,bm⟩:=pw v (w0 v) (w1 v);have hsm:=hb.sm;have af:=kzi ls _ _ est;have af:st.length<=x9 ls:=af;simp![mod_i (a:=v) (b:=aj) (by omega)];refine qwh rfl ?_;simp![];refine⟨_,st,rfl,w0 v,est,by omega,?_⟩;rcases ho3 with rfl|rfl<;>rcases ho5 with rfl|rfl
   all_goals
    simp![];refine(vqt c (v % aj) s1 s3 hk (by omega) (w0 v) (by have:=w1 v;omega)).use ?_;intro d hd;have oj:=hb.put (n:=(v % aj).toNat) (by have:=w1 v;have:=w0 v;omega) est hd;have hfst:∃x,(st++[d])[0]?=some x/\Stp ss (ks.getD (v % aj).toNat 0) ks x:=by
     cases st with
     |nil=>exact⟨d,rfl,hd⟩
     |cons a st=>exact⟨a,rfl,bm a X3⟩
    obtain⟨x,ex,hx⟩:=hfst;refine⟨rfl,kwn hd,?_⟩;have ne:∀o:Own,∃l7 l8:Option Sd,True:=λ_=>⟨none,none,trivial⟩
    cases hq1:(head / 200 % 4==1)with
    | false=>
     rw[hq1]at r1;simp![r1];exact⟨_,n+1,.no,.no,_,_,cs,.inr rfl,.inr rfl,rfl,rfl,by simp only[Xb]at hn;omega,oj⟩
    | true=>
     rw[hq1]at r1;cases hq2:(c % 3==1)with
     |false=>
      rw[hq2]at r2;simp![r1,r2];exact⟨_,n+1,.no,.no,_,_,cs,.inr rfl,.inr rfl,rfl,rfl,by simp only[Xb]at hn;omega,oj⟩
     |true=>
      rw[hq2]at r2;have om:(ls.set (v % aj).toNat (.lst (st++[d])))[(v % aj).toNat]?=some (.lst (st++[d])):=Y5 (List.getElem?_eq_some_iff.mp est).1;have ix1:jz (.lst (ls.set (v % aj).toNat (.lst (st++[d])))) (.int (v % aj))=some (.lst (st++[d])):=qY (w0 v) om;have ix2:jz (.lst (st++[d])) (.int 0)=some x:=qY (by decide) ex;have hb3:=oj.put (n:=(v % aj).toNat) (by have:=w1 v;have:=w0 v;omega) om hx;simp![r1,r2];refine qwh rfl ?_;simp![];refine⟨_,_,rfl,w0 v,om,by rw[Xn];simp only[Xb,Yt];omega,?_⟩;simp![ix1,ix2];rw[Xf hx.pure];exact⟨kwn hx,_,n+2,.no,.no,_,_,cs,.inr rfl,.inr rfl,rfl,rfl,by simp only[Xb]at hn;omega,hb3⟩
 ·rintro E ⟨ls,n,o3,o5,l7,l8,cs,ho3,ho5,rfl,he,hn,hb⟩;simp![];refine vQ [some (.no,iL ns)] (λ_ y=>∃b,y.2=.bl b) ?_;refine Kw ?_;simp![];refine⟨aj,rfl,by omega,by omega,rfl,λd hd=>?_,λys hy=>?_⟩
  ·obtain⟨i,i0,i1,rfl⟩:=K6 hd;simp![];refine(B.cell_ok ns 3 (by omega)).use ?_;intro _ _;simp![];refine(A.mixed_ok _ i i0 (by omega)).use ?_;intro v _;have r1:fEq (.int (v % 2)) (.int 1)=some (.bl (v % 2==1)):=JY;simp![r1];exact⟨⟨_,rfl⟩,_,rfl⟩
  obtain⟨gs,f1,f2⟩:=qkn (λ_ _ h=>h) hy;have hgl:gs.length=ks.length:=by rw[f2];have:=kkm (k:=0) (n:=aj) (by omega);omega
  rw[v8,f1];simp only[back,clr,at',List.map_cons,List.map_nil,List.set_cons_zero,List.set_cons_succ];simp![];rw[w_fz,wvw rfl];have hM:Mc ss ks (xz ks gs ls):=wvo s1 s3 sg so (by omega) (by omega) hk ⟨hb.ln,hb.ok,Xw hb.sm (by omega)⟩;have hR:(kK 0 aj).map (hD ks gs ls)=xz ks gs ls:=by
   unfold kK xz;rw[Xx,show(aj - 0).toNat=ks.length by omega]
   congr 1
   funext k;show D.tup [.int (ks.getD (0+(k:Int)).toNat 0),.bl (gs.getD (0+(k:Int)).toNat false),ls.getD (0+(k:Int)).toNat .non]=_;rw[show(0+(k:Int)).toNat=k by omega]
  rcases ho5 with rfl|rfl<;>rcases ho3 with rfl|rfl
  rotate_left 2
  ·simp![];refine vQ [some (.no,iL ks),some (.rt,.lst (gs.map D.bl)),some (.no,.lst ls)] (λd y=>y.2=hD ks gs ls d) ?_;refine Kw ?_;simp![];refine⟨aj,rfl,by omega,by omega,rfl,λd hd=>?_,λys hy=>?_⟩
   ·obtain⟨i,i0,i1,rfl⟩:=K6 hd;have hi:i.toNat<ks.length:=by omega
    have x1:jz (iL ks) (.int i)=some (.int (ks.getD i.toNat 0)):=qY i0 (by rw[Xp,X9,X2 hi];rfl);have x2:jz (.lst (gs.map D.bl)) (.int i)=some (.bl (gs.getD i.toNat false)):=qY i0 (by rw[Xp,X9,X2 (by omega)];rfl);have x3:jz (.lst ls) (.int i)=some (ls.getD i.toNat .non):=qY i0 (by rw[X9,X2 (by rw[hb.ln];exact hi)];rfl);simp![x1,x2,x3];exact⟨⟨_,rfl⟩,rfl⟩
   rw[v8,J4 (h:=hD ks gs ls) (λ_ _ h=>h) hy,hR];simp only[back,clr,at',List.map_cons,List.map_nil,List.set_cons_zero,List.set_cons_succ];simp![];exact⟨(ss,ks,xz ks gs ls),rfl,hM⟩
  ·simp![];refine vQ [some (.no,iL ks),some (.rt,.lst (gs.map D.bl)),some (.no,.lst ls)] (λd y=>y.2=hD ks gs ls d) ?_;refine Kw ?_;simp![];refine⟨aj,rfl,by omega,by omega,rfl,λd hd=>?_,λys hy=>?_⟩
   ·obtain⟨i,i0,i1,rfl⟩:=K6 hd;have hi:i.toNat<ks.length:=by omega
    have x1:jz (iL ks) (.int i)=some (.int (ks.getD i.toNat 0)):=qY i0 (by rw[Xp,X9,X2 hi];rfl);have x2:jz (.lst (gs.map D.bl)) (.int i)=some (.bl (gs.getD i.toNat false)):=qY i0 (by rw[Xp,X9,X2 (by omega)];rfl);have x3:jz (.lst ls) (.int i)=some (ls.getD i.toNat .non):=qY i0 (by rw[X9,X2 (by rw[hb.ln];exact hi)];rfl);simp![x1,x2,x3];exact⟨⟨_,rfl⟩,rfl⟩
   rw[v8,J4 (h:=hD ks gs ls) (λ_ _ h=>h) hy,hR];simp only[back,clr,at',List.map_cons,List.map_nil,List.set_cons_zero,List.set_cons_succ];simp![];exact⟨(ss,ks,xz ks gs ls),rfl,hM⟩
  ·simp![];refine vQ [some (.rt,iL ks),some (.rt,.lst (gs.map D.bl)),some (.no,.lst ls)] (λd y=>y.2=hD ks gs ls d) ?_;refine Kw ?_;simp![];refine⟨aj,rfl,by omega,by omega,rfl,λd hd=>?_,λys hy=>?_⟩
   ·obtain⟨i,i0,i1,rfl⟩:=K6 hd;have hi:i.toNat<ks.length:=by omega
    have x1:jz (iL ks) (.int i)=some (.int (ks.getD i.toNat 0)):=qY i0 (by rw[Xp,X9,X2 hi];rfl);have x2:jz (.lst (gs.map D.bl)) (.int i)=some (.bl (gs.getD i.toNat false)):=qY i0 (by rw[Xp,X9,X2 (by omega)];rfl);have x3:jz (.lst ls) (.int i)=some (ls.getD i.toNat .non):=qY i0 (by rw[X9,X2 (by rw[hb.ln];exact hi)];rfl);simp![x1,x2,x3];exact⟨⟨_,rfl⟩,rfl⟩
   rw[v8,J4 (h:=hD ks gs ls) (λ_ _ h=>h) hy,hR];simp only[back,clr,at',List.map_cons,List.map_nil,List.set_cons_zero,List.set_cons_succ];simp![];exact⟨(ss,ks,xz ks gs ls),rfl,hM⟩
  ·simp![];refine vQ [some (.rt,iL ks),some (.rt,.lst (gs.map D.bl)),some (.no,.lst ls)] (λd y=>y.2=hD ks gs ls d) ?_;refine Kw ?_;simp![];refine⟨aj,rfl,by omega,by omega,rfl,λd hd=>?_,λys hy=>?_⟩
   ·obtain⟨i,i0,i1,rfl⟩:=K6 hd;have hi:i.toNat<ks.length:=by omega
    have x1:jz (iL ks) (.int i)=some (.int (ks.getD i.toNat 0)):=qY i0 (by rw[Xp,X9,X2 hi];rfl);have x2:jz (.lst (gs.map D.bl)) (.int i)=some (.bl (gs.getD i.toNat false)):=qY i0 (by rw[Xp,X9,X2 (by omega)];rfl);have x3:jz (.lst ls) (.int i)=some (ls.getD i.toNat .non):=qY i0 (by rw[X9,X2 (by rw[hb.ln];exact hi)];rfl);simp![x1,x2,x3];exact⟨⟨_,rfl⟩,rfl⟩
   rw[v8,J4 (h:=hD ks gs ls) (λ_ _ h=>h) hy,hR];simp only[back,clr,at',List.map_cons,List.map_nil,List.set_cons_zero,List.set_cons_succ];simp![];exact⟨(ss,ks,xz ks gs ls),rfl,hM⟩
theorem qqi(ns:List Int)(ph:ns.length<=63)(hS:∀c:Int,Oo Qw [(.no,.int c)] (λy=>∃ss,y=(.rt,sL ss)/\wq1 ss) noX):
  Oo Wq [(.no,iL ns),(.no,.int 5)] (λy=>∃(z:List Str×List Int×List D),y=(.no,qX z.1 z.2.2)/\Mc z.1 z.2.1 z.2.2) noX:=by
 unfold Wq;rw[qxo,wkj];refine kq ?_;simp![];refine(B.cell_ok ns 0 (by omega)).use ?_;intro _ _;simp![];refine(A.mixed_ok _ 0 (by decide) (by decide)).use ?_;intro head _;simp![];refine(B.cell_ok ns 1 (by omega)).use ?_;intro _ _;simp![];refine(hS _).use ?_;rintro ss ⟨s1,s3,sg,so⟩;have q0:=Xr head (show(4:Int)≠0 by decide);have q1:=Xj head (show(0:Int)<4 by decide);have u0:=Xr (head / 24) (show(8:Int)≠0 by decide);have u1:=Xj (head / 24) (show(0:Int)<8 by decide);have hbr:∃aj:Int,1<=aj/\aj<=12/\((head / 4 % 6=1/\aj=5+head / 24 % 8)\/(head / 4 % 6≠1/\aj=1+head % 4)):=by
  by_cases hc:head / 4 % 6=1
  ·exact⟨_,by omega,by omega,.inl ⟨hc,rfl⟩⟩
  ·exact⟨_,by omega,by omega,.inr ⟨hc,rfl⟩⟩
 obtain⟨aj,m1,m12,mr⟩:=hbr;have hj:∀P:Int->Prop,P aj->(head / 4 % 6=1->P (5+head / 24 % 8))/\(head / 4 % 6≠1->P (1+head % 4)):=λP h=>by
  rcases mr with⟨hc,e⟩|⟨hc,e⟩
  ·exact⟨λ_=>e▸h,λz=>absurd hc z⟩
  ·exact⟨λz=>absurd z hc,λ_=>e▸h⟩
 have hq:∀(b:Bool),b=(head / 4 % 6==1)->fEq (.int (head / 4 % 6)) (.int 1)=some (.bl b):=λb e=>by rw[JY,e]
 rcases mr with⟨hc,hmv⟩|⟨hc,hmv⟩
 ·simp![hq true (by simp[hc])];rw[<-hmv];exact qvm ph ⟨s1,s3,sg,so⟩ m1 m12
 ·simp![hq false (by simp[hc])];rw[<-hmv];exact qvm ph ⟨s1,s3,sg,so⟩ m1 m12
end Nk12
namespace Nk12
open Q PySem C
theorem kq0:∀z∈(["any","fresh","good","new","none","room","signs"]:List Str),Sg z:=by
 intro z hz;simp only[Xh,Xg,or_false]at hz;have h:∀z:Str,(decide (1<=z.cps.size)&&decide (z.cps.size<=8)&&z.cps.toList.all λc=>AZ.cps.toList.any (· == c))=true->Sg z:=λz h=>by
  rw[Bool.and_eq_true,Bool.and_eq_true]at h;refine⟨Ya h.1.1,Ya h.1.2,λc hc=>?_⟩;obtain⟨x,hx,e⟩:=List.any_eq_true.mp (List.all_eq_true.mp h.2 c hc);rw[<-eq_of_beq e];exact hx
 rcases hz with rfl|rfl|rfl|rfl|rfl|rfl|rfl<;>exact h _ (by decide +kernel)
theorem kv0{l:List Str}(h1:1<=l.length)(h3:l.length<=3)(hn:l.Nodup)(hs:∀z∈l,Sg z):wq1 (qW l):=
 ⟨by rw[(J7 l).length_eq];exact h1,by rw[(J7 l).length_eq];exact h3,λz hz=>hs z ((J7 l).mem_iff.mp hz),qvf hn⟩
theorem qzq(c:Int)(hw:∀(c aj:Int),1<=aj->aj<=3->Oo m__law_words [(.no,.int c),(.no,.int aj)] (λy=>∃l,y=(.rt,sL l)/\(l.length:Int)=aj/\l.Nodup/\∀z∈l,Sg z) noX):
  Oo Qw [(.no,.int c)] (λy=>∃ss,y=(.rt,sL ss)/\wq1 ss) noX:=by
 unfold Qw;refine kq ?_;have q0:=Xr (c / 32) (show(3:Int)≠0 by decide);have q1:=Xj (c / 32) (show(0:Int)<3 by decide)
 by_cases h:c % 4=1
 ·have e:fEq (.int (c % 4)) (.int 1)=some (.bl true):=by rw[h];rfl
  have ix:∀v:Int,∃z∈(["any","fresh","good","new","none","room","signs"]:List Str),jz (.lst [.str "any",.str "fresh",.str "good",.str "new",.str "none",.str "room",.str "signs"]) (.int (v % 7))=some (.str z):=λv=>by
   have t0:=Xr v (show(7:Int)≠0 by decide);have t1:=Xj v (show(0:Int)<7 by decide);generalize v % 7=t at t0 t1;rcases(show t=0\/t=1\/t=2\/t=3\/t=4\/t=5\/t=6 by omega)with rfl|rfl|rfl|rfl|rfl|rfl|rfl
   ·exact⟨"any",by simp,rfl⟩
   ·exact⟨"fresh",by simp,rfl⟩
   ·exact⟨"good",by simp,rfl⟩
   ·exact⟨"new",by simp,rfl⟩
   ·exact⟨"none",by simp,rfl⟩
   ·exact⟨"room",by simp,rfl⟩
   ·exact⟨"signs",by simp,rfl⟩
  obtain⟨z1,m1,x1⟩:=ix (c / 4);obtain⟨z2,m2,x2⟩:=ix (c / 28);obtain⟨z3,m3,x3⟩:=ix (c / 196);have es:V7 (.no,.lst [.str z1,.str z2,.str z3])=some (.rt,sL (qW (ddS [z1,z2,z3]))):=rfl;have hd:wq1 (qW (ddS [z1,z2,z3])):=by
   refine kv0 ?_ (Sw.dd_le [z1,z2,z3]) (vjx _) λz hz=>?_
   ·rcases(PyProof.Rows.foldl_step_dedup_nil_zero_or_pos [z1,z2,z3])with h|h
    ·cases h
    ·exact h
   ·have:=vq5 hz;simp only[Xh,Xg,or_false]at this;rcases this with rfl|rfl|rfl
    ·exact kq0 _ m1
    ·exact kq0 _ m2
    ·exact kq0 _ m3
  simp![e,x1,x2,x3,es];exact⟨_,rfl,hd⟩
 ·have e:fEq (.int (c % 4)) (.int 1)=some (.bl false):=by rw[JY];simp[h]
  simp![e];refine(hw (c / 4) (1+c / 32 % 3) (by omega) (by omega)).use ?_;rintro l ⟨l1,l2,l3⟩;have es:ZJ (.no,sL l)=some (.rt,sL (qW l)):=by
   unfold ZJ;dsimp only;rw[kk0];dsimp only;rw[Xf (by omega)]
  simp![es];exact⟨_,rfl,kv0 (by omega) (by omega) l2 l3⟩
end Nk12
namespace Nk12
open Q PySem C
theorem kxr{n:Nat}{f:Nat->Str}(h:∀i j,i<j->j<n->f i≠f j):((List.range n).map f).Nodup:=by
 unfold List.Nodup;rw[List.pairwise_map];exact List.pairwise_lt_range.imp_of_mem λ_ hj em=>h _ _ em (List.mem_range.mp hj)
theorem vxu{z:Str}{j:Int}(h0:0<=j)(h1:j<=z.cps.size):(Txt.slice z none (some j)).cps.toList=z.cps.toList.take j.toNat:=by
 have:=StrLaws.sliceText_to (x:=z) (j:=j) ⟨h0,by rw[Xa];exact h1⟩;rw[show Txt.slice z none (some j)=StrLaws.sliceText z none (some j)from rfl,this];simp
theorem vxw{z:Str}{i j:Int}(h0:0<=i)(hij:i<=j)(h1:j<=z.cps.size):(Txt.slice z (some i) (some j)).cps.toList=(z.cps.toList.drop i.toNat).take (j - i).toNat:=by
 have:=StrLaws.sliceText_plain (x:=z) (i:=i) (j:=j) ⟨h0,hij,by rw[Xa];exact h1⟩;rw[show Txt.slice z (some i) (some j)=StrLaws.sliceText z (some i) (some j)from rfl,this]
def chr(t:Int):Nat:=AZ.cps.toList.getD t.toNat 0
theorem wjx{t:Int}(h0:0<=t)(h1:t<26):jz (.str AZ) (.int t)=some (.str ⟨#[chr t]⟩)/\chr t∈AZ.cps.toList:=by
 have hl:AZ.cps.toList.length=26:=by decide +kernel
 have hs:AZ.cps.size=26:=by decide +kernel
 have e:AZ.cps.toList[t.toNat]?=some (chr t):=by
  unfold chr;rw[X9,X2 (by omega)];rfl
 refine⟨?_,Yi e⟩;show((Q.ixN AZ.cps.size t).bind λj=>(AZ.cps.toList[j]?).map λc=>D.str ⟨#[c]⟩)=_;unfold Q.ixN;rw[Xf h0,Xf (by omega)];show((AZ.cps.toList[t.toNat]?).map λc=>D.str ⟨#[c]⟩)=_;rw[e];rfl
theorem vwr{t u:Int}(h0:0<=t)(h1:t<26)(g0:0<=u)(g1:u<26)(e:chr t=chr u):t=u:=by
 have h:∀i:Fin 26,∀j:Fin 26,AZ.cps.toList.getD i 0=AZ.cps.toList.getD j 0->i=j:=by decide +kernel
 have:=h ⟨t.toNat,by omega⟩ ⟨u.toNat,by omega⟩ e;have:=congrArg Fin.val this;have:t.toNat=u.toNat:=this;omega
def wdA(z:Str)(c:Int)(k:Nat):Str:=Txt.slice z none (some (1+((k:Int)+c / 3) % 8))
theorem qqz{z:Str}{c:Int}(hz:z.cps.size=8)(hl:∀x∈z.cps.toList,x∈AZ.cps.toList)(k:Nat):Sg (wdA z c k)/\((wdA z c k).cps.size:Int)=1+((k:Int)+c / 3) % 8:=by
 have t0:=Xr ((k:Int)+c / 3) (show(8:Int)≠0 by decide);have t1:=Xj ((k:Int)+c / 3) (show(0:Int)<8 by decide);have e:=vxu (z:=z) (j:=1+((k:Int)+c / 3) % 8) (by omega) (by omega);have hs:((wdA z c k).cps.size:Int)=1+((k:Int)+c / 3) % 8:=by
  unfold wdA;rw[<-Xa,e,Yh,Xa];omega
 refine⟨⟨by omega,by omega,λx hx=>hl x ?_⟩,hs⟩;unfold wdA at hx;rw[e]at hx;exact List.mem_of_mem_take hx
theorem qv0{z:Str}{c:Int}(hz:z.cps.size=8)(hl:∀x∈z.cps.toList,x∈AZ.cps.toList){n:Nat}(hn:n<=3):((List.range n).map (wdA z c)).Nodup:=kxr λi j hij hj e=>by
 have h1:=(qqz (c:=c) hz hl i).2;have h2:=(qqz (c:=c) hz hl j).2;rw[e]at h1;omega
def wdB(w1 w2:Str)(ii s:Int)(k:Nat):Str:=w1++⟨#[chr ((ii+(k:Int)*s) % 26)]⟩++w2
theorem kjq(w1 w2:Str)(ii s:Int)(k:Nat):(wdB w1 w2 ii s k).cps.toList=w1.cps.toList++(chr ((ii+(k:Int)*s) % 26)::w2.cps.toList):=by
 unfold wdB;rw[A.list_app,A.list_app,Xk];rfl
theorem vxc{w1 w2:Str}{ii s:Int}(hs:w1.cps.size+w2.cps.size<=7)(h1:∀x∈w1.cps.toList,x∈AZ.cps.toList)(h2:∀x∈w2.cps.toList,x∈AZ.cps.toList)(k:Nat):Sg (wdB w1 w2 ii s k):=by
 have t0:=Xr (ii+(k:Int)*s) (show(26:Int)≠0 by decide);have t1:=Xj (ii+(k:Int)*s) (show(0:Int)<26 by decide);have hz:(wdB w1 w2 ii s k).cps.size=w1.cps.size+w2.cps.size+1:=by
  rw[<-Xa,kjq,Xn,Xb,Xa,Xa];omega
 refine⟨by omega,by omega,λx hx=>?_⟩;rw[kjq]at hx;rcases List.mem_append.mp hx with hx|hx
 ·exact h1 x hx
 ·rcases List.mem_cons.mp hx with rfl|hx
  ·exact(wjx t0 t1).2
  ·exact h2 x hx
theorem qqy{w1 w2:Str}{ii s:Int}(s1:1<=s)(s5:s<=5){n:Nat}(hn:n<=3):((List.range n).map (wdB w1 w2 ii s)).Nodup:=kxr λi j hij hj e=>by
 have e:(wdB w1 w2 ii s i).cps.toList=(wdB w1 w2 ii s j).cps.toList:=by rw[e]
 rw[kjq,kjq]at e;have e:=List.append_cancel_left e;injection e with e _;have b:=λk:Nat=>Xr (ii+(k:Int)*s) (show(26:Int)≠0 by decide)
 have d:=λk:Nat=>Xj (ii+(k:Int)*s) (show(0:Int)<26 by decide)
 have e:=vwr (b i) (d i) (b j) (d j) e;have hi:i=0\/i=1:=by omega
 have hj:j=1\/j=2:=by omega
 rcases hi with rfl|rfl<;>rcases hj with rfl|rfl<;>omega
def hW(f:Nat->Str):D->D
 |.int k=>.str (f k.toNat)
 |d=>d
theorem qqp{G:D->Sd->Prop}{f:Nat->Str}{n:Int}{ys:List Sd}(hG:∀d y,G d y->y.2=hW f d)(h:Each G (kK 0 n) ys):ys.map (·.2)=((List.range n.toNat).map f).map D.str:=by
 rw[J4 (h:=hW f) hG h];unfold kK;rw[Xx,Xx,Int.sub_zero]
 congr 1
 funext k;show D.str (f (0+(k:Int)).toNat)=_;rw[show(0+(k:Int)).toNat=k by omega];rfl
theorem vxa(c aj:Int)(h0:1<=aj)(h1:aj<=3):Oo m__law_words [(.no,.int c),(.no,.int aj)] (λy=>∃l,y=(.rt,sL l)/\(l.length:Int)=aj/\l.Nodup/\∀z∈l,Sg z) noX:=by
 rw [vwo];unfold A.m__law_words;refine kq ?_;simp![↓XV];refine vQ [some (.dp,.str AZ),some (.no,.int c)] (λ_ y=>∃ch∈AZ.cps.toList,y.2=.str ⟨#[ch]⟩) ?_;simp![];refine⟨rfl,λd hd=>?_,λys hys=>?_⟩
 ·obtain⟨j,j0,j1,rfl⟩:=K6 hd;simp![];refine(A.mixed_ok c j j0 (by omega)).use ?_;intro v _;have t0:=Xr v (show(26:Int)≠0 by decide);have t1:=Xj v (show(0:Int)<26 by decide);obtain⟨ch,fy,hc⟩:=A.ix_strM AZ (v % 26) t0 t1;simp![hc];exact⟨⟨_,rfl⟩,ch,fy,rfl⟩
 obtain⟨ps,g1,g2,g3⟩:=A.each_one (λd y h=>h) hys;have bt:ps.length=8:=by rw[g2];rfl
 obtain⟨z,hz,z0,z1⟩:=A.join_az g3 (by omega);rw [v8,g1];simp only[back,clr,at',List.map_cons,List.map_nil,List.set_cons_zero,List.set_cons_succ];have zs:z.cps.size<=100:=by omega
 have z8:z.cps.size=8:=by omega
 by_cases h3:c % 3=1
 ·have hd:fEq (.int (c % 3)) (.int 1)=some (.bl true):=by rw[h3];rfl
  simp![hz,hd];refine vQ [some (.dp,.str z),some (.no,.int c)] (λd y=>y.2=hW (wdA z c) d) ?_;simp![];refine⟨rfl,λd hd=>?_,λys hys=>?_⟩
  ·obtain⟨j,j0,j1,rfl⟩:=K6 hd;have s1:=B.sl_s (o:=.no) (z:=z) (lo:=none) (hi:=some (1+(j+c / 3) % 8)) zs;have s1':=B.sl_s (o:=.dp) (z:=z) (lo:=none) (hi:=some (1+(j+c / 3) % 8)) zs;simp![s1,s1'];refine⟨⟨_,rfl⟩,?_⟩;show _=D.str (wdA z c j.toNat);unfold wdA;rw[show((j.toNat:Nat):Int)=j by omega]
  ·rw[v8,qqp (λ_ _ h=>h) hys];exact⟨_,rfl,by rw[X4,Yb];omega,qv0 z8 z1 (by omega),λw hw=>by
    obtain⟨k,_,rfl⟩:=List.mem_map.mp hw;exact(qqz z8 z1 k).1⟩
 ·have hd:fEq (.int (c % 3)) (.int 1)=some (.bl false):=by rw[JY];simp[h3]
  have a0:=Xr (c / 3) (show(8:Int)≠0 by decide);have a1:=Xj (c / 3) (show(0:Int)<8 by decide);have b0:=Xr (c / 24) (show 1+c / 3 % 8≠0 by omega);have b1:=Xj (c / 24) (show 0<1+c / 3 % 8 by omega);simp![hz,hd,mod_i (a:=c / 24) (b:=1+c / 3 % 8) (by omega)];generalize c / 24 % (1+c / 3 % 8)=fm at b0 b1;obtain⟨lg,hlg⟩:∃lg,lg=1+c / 3 % 8:=⟨_,rfl⟩;rw[<-hlg]at b1 ⊢;have c0:=Xr (c / 192) (show(5:Int)≠0 by decide);have c1:=Xj (c / 192) (show(0:Int)<5 by decide);obtain⟨ch,fy,hix⟩:=A.ix_strM z fm b0 (by omega);obtain⟨ii,hii⟩:=A.az_found ch (z1 ch fy);have e1:=vxu (z:=z) (j:=fm) b0 (by omega);have e2:=vxw (z:=z) (i:=fm+1) (j:=lg) (by omega) (by omega) (by omega);have s1:=λo=>B.sl_s (o:=o) (z:=z) (lo:=none) (hi:=some fm) zs
  have s2:=λo=>B.sl_s (o:=o) (z:=z) (lo:=some (fm+1)) (hi:=some lg) zs
  generalize Txt.slice z none (some fm)=w1 at e1 s1;generalize Txt.slice z (some (fm+1)) (some lg)=w2 at e2 s2;have n1:(w1.cps.size:Int)=fm:=by rw[<-Xa,e1,Yh,Xa];omega
  have n2:(w2.cps.size:Int)=lg - (fm+1):=by rw[<-Xa,e2,Yh,Z4,Xa];omega
  have v1:∀x∈w1.cps.toList,x∈AZ.cps.toList:=λx hx=>z1 x (by rw[e1]at hx;exact List.mem_of_mem_take hx)
  have v2:∀x∈w2.cps.toList,x∈AZ.cps.toList:=λx hx=>z1 x (by rw[e2]at hx;exact List.mem_of_mem_drop (List.mem_of_mem_take hx))
  refine K2 (λE j9=>∃(j:Nat) (l7 l8:Option Sd) (o2 o3 o4 o5:Own),E=[some (.no,.int c),some (.no,.int aj),some (o2,.str AZ),some (o3,.str z),some (o4,.int lg),some (o5,.int fm),some (.rt,sL ((List.range j).map (wdB w1 w2 ii (1+c / 192 % 5)))),l7,l8]/\(j:Int)<=aj/\j9=kK j aj) ?_ ?_ ?_
  ·simp![];exact⟨0,_,_,_,_,_,_,rfl,by omega,rfl⟩
  ·rintro E d ds ⟨j,l7,l8,o2,o3,o4,o5,rfl,j1,hr⟩;obtain⟨hj,rfl,rfl⟩:=qvq j1 hr;have m1:=mul_l (o1:=.no) (o2:=.no) (a:=(j:Int)) (b:=1+c / 192 % 5) (by omega) (by omega);have t0:=Xr ((ii:Int)+j*(1+c / 192 % 5)) (show(26:Int)≠0 by decide);have t1:=Xj ((ii:Int)+j*(1+c / 192 % 5)) (show(0:Int)<26 by decide);simp![↓vxe,hix,hii,m1,show qkg (.str AZ)=true from rfl];have hx:=(wjx t0 t1).1;have ja:((⟨#[chr (((ii:Int)+j*(1+c / 192 % 5)) % 26)]⟩:Str).cps.size)=1:=rfl;have a1:=Qk (o1:=.no) (o2:=.no) (a:=w1) (b:=⟨#[chr (((ii:Int)+j*(1+c / 192 % 5)) % 26)]⟩) (by rw[ja];omega);have a2:=Qk (o1:=.no) (o2:=.no) (a:=w1++⟨#[chr (((ii:Int)+j*(1+c / 192 % 5)) % 26)]⟩) (b:=w2) (by rw[jz4,ja];omega);have a1':=Qk (o1:=.no) (o2:=sub o2) (a:=w1) (b:=⟨#[chr (((ii:Int)+j*(1+c / 192 % 5)) % 26)]⟩) (by rw[ja];omega);refine qku rfl ?_;simp![s1,s2,hx,a1,a2,a1'];refine⟨_,rfl,by rw[X4,X4,Yb];omega,?_⟩;rw[show((List.range j).map (wdB w1 w2 ii (1+c / 192 % 5))).map D.str++[D.str (w1++⟨#[chr (((ii:Int)+j*(1+c / 192 % 5)) % 26)]⟩++w2)]=((List.range (j+1)).map (wdB w1 w2 ii (1+c / 192 % 5))).map D.str by rw[List.range_succ,Y0,Y0];rfl];exact⟨j+1,_,_,_,_,_,_,rfl,by omega,by rw[show((j:Int)+1)=((j+1:Nat):Int)by omega]⟩
  ·rintro E ⟨j,l7,l8,o2,o3,o4,o5,rfl,j1,hr⟩;have:=qvs j1 hr;simp![];exact⟨_,rfl,by rw[X4,Yb];omega,qqy (by omega) (by omega) (by omega),λw hw=>by
    obtain⟨k,_,rfl⟩:=List.mem_map.mp hw;exact vxc (by omega) v1 v2 k⟩
end Nk12
namespace Nk12
open Q PySem C
abbrev ls(z:Str):List Nat:=z.cps.toList
def nmS(i:Int):Str:=Str.ofString (toString i)
def wT:D->Str
 |.int i=>nmS i
 |.str z=>z
 |_=>"none"
def stS:D->List Str
 |.tup [.str sg,a,to,.tup fs]=>sg::wT a::wT to::fs.map wT
 |_=>[]
def JW:D->List D
 |.tup [_,_,.lst st]=>st
 |_=>[]
def gdS:Bool->List Str
 |true=>["good"]
 |false=>[]
def rmS:D->List Str
 |.tup [k,.bl gd,_]=>"room" :: wT k::gdS gd
 |_=>[]
def lnS:List D->List (List Str)
 |[]=>[]
 |r::rs=>rmS r::((JW r).map stS++lnS rs)
def JB(ws:List Str):Str:=Txt.join " " ws
def mtS(ss:List Str)(rs:List D):List (List Str):=("signs" :: ss)::lnS rs
def mtT(ss:List Str)(rs:List D):Str:=Txt.join "\n" ((mtS ss rs).map JB)
theorem Qj(ws:List Str):ls (JB ws)=L3.joinL 32 (ws.map ls):=L3.joinS_cps 32 ws
structure Num (i:Int):Prop where
 n:L3.numL (ls (nmS i))=true
 l:(nmS i).cps.size<=2
 v:PySem.intText? (nmS i)=some i
 c:∀c∈ls (nmS i),48<=c/\c<=57
theorem J9{i:Int}(h0:0<=i)(h1:i<12):Num i:=by
 have h:∀m:Fin 12,(L3.numL (ls (nmS (m.val:Int)))&&decide ((nmS (m.val:Int)).cps.size<=2)&&decide (PySem.intText? (nmS (m.val:Int))=some (m.val:Int))&&(ls (nmS (m.val:Int))).all λc=>decide (48<=c)&&decide (c<=57))=true:=by decide +kernel
 have h:=h ⟨i.toNat,by omega⟩;have e:((⟨i.toNat,by omega⟩:Fin 12).val:Int)=i:=by show((i.toNat:Nat):Int)=i;omega
 rw[e,Bool.and_eq_true,Bool.and_eq_true,Bool.and_eq_true]at h;refine⟨h.1.1.1,Ya h.1.1.2,Ya h.1.2,λc hc=>?_⟩;have:=List.all_eq_true.mp h.2 c hc;rw[Bool.and_eq_true]at this;exact⟨Ya this.1,Ya this.2⟩
theorem qws{i:Int}(h0:0<=i)(h1:i<12):i.natAbs.log2<1920:=by
 rcases Nat.eq_zero_or_pos i.natAbs with z|z
 ·rw[z];decide
 ·exact(Nat.log2_lt (by omega)).mpr (Xi (show i.natAbs<2 ^ 4 by omega) (Nat.pow_le_pow_right (by decide) (by decide)))
theorem WV{i:Int}(h0:0<=i)(h1:i<12):z9 (.int i)=some (.str (nmS i)):=by
 have hl:=(J9 h0 h1).l;show(if i.natAbs.log2<1920/\(nmS i).length<=sizeLine then _ else _)=_;exact Xf ⟨qws h0 h1,Xw (show(nmS i).length<=2 from hl) (by decide)⟩
theorem qzk{z:Str}(h:z.cps.size<=8):z9 (.str z)=some (.str z):=Xf (Xw (show z.length<=8 from h) (by decide))
structure Wrd (w:Str):Prop where
 l:w.cps.size<=8
 b:32∉ls w
 n:10∉ls w
theorem WJ{w:Str}(h:(decide (w.cps.size<=8) && !decide (32∈ls w) && !decide (10∈ls w))=true):Wrd w:=by
 rw[Bool.and_eq_true,Bool.and_eq_true]at h;exact⟨Ya h.1.1,by simpa using h.1.2,by simpa using h.2⟩
theorem Sg.w{z:Str}(h:Sg z):Wrd z:=⟨h.2.1,λhm=>by have:=L3.let_range _ (h.2.2 _ hm);omega,λhm=>by have:=L3.let_range _ (h.2.2 _ hm);omega⟩
theorem Num.w{i:Int}(h:Num i):Wrd (nmS i):=⟨by have:=h.l;omega,λhm=>by have:=h.c _ hm;omega,λhm=>by have:=h.c _ hm;omega⟩
theorem Fil.w{own:Int}{d:D}(ho:own<=3)(h:Fil own d):Wrd (wT d):=by
 rcases h with rfl|rfl|⟨i,rfl,h0,h1⟩
 ·exact WJ (by decide +kernel)
 ·exact WJ (by decide +kernel)
 ·exact(J9 h0 (by omega)).w
theorem Ask.w{own:Int}{d:D}(ho:own<=3)(h:Ask own d):Wrd (wT d):=by
 rcases h with rfl|rfl|⟨i,rfl,h0,h1⟩
 ·exact WJ (by decide +kernel)
 ·exact WJ (by decide +kernel)
 ·exact(J9 h0 (by omega)).w
structure Ln (ws:List Str):Prop where
 w:∀w∈ws,Wrd w
 l:ws.length<=6
 e:ws≠[]
theorem Stp.ln{ss:List Str}{own:Int}{ks:List Int}{d:D}(hs:∀z∈ss,Sg z)(ho:own<=3)(hk:∀k∈ks,k<=3)(jn:ks.length<=12)(h:Stp ss own ks d):Ln (stS d):=by
 obtain⟨sg,bb,to,fs,rfl,p6,ha,t0,t1,hf,gp⟩:=h;have hg:ks[to.toNat]?=some (ks.getD to.toNat 0):=by rw[X9,X2 (by omega)];rfl
 have h3:ks.getD to.toNat 0<=3:=hk _ (Yi hg);refine⟨λw hw=>?_,?_,λe=>nomatch e⟩
 ·simp only[stS,Xh]at hw;rcases hw with rfl|rfl|rfl|hw
  ·exact(hs _ p6).w
  ·exact ha.w ho
  ·exact(J9 t0 (by omega)).w
  ·obtain⟨f,hf,rfl⟩:=List.mem_map.mp hw;exact(gp f hf).w ho
 ·simp only[stS,Xb,X4];omega
theorem Rm.ln{ss:List Str}{ks:List Int}{r:D}(h:Rm ss ks r):Ln (rmS r):=by
 obtain⟨k,gd,st,rfl,h0,h3,hl,bm⟩:=h;refine⟨λw hw=>?_,?_,λe=>nomatch e⟩
 ·simp only[rmS,Xh]at hw;rcases hw with rfl|rfl|hw
  ·exact WJ (by decide +kernel)
  ·exact(J9 h0 (by omega)).w
  ·cases gd with
   |false=>cases hw
   |true=>
    rw[List.mem_singleton.mp hw];exact WJ (by decide +kernel)
 ·cases gd<;>simp[rmS,gdS]
theorem vkt{ss:List Str}{ks:List Int}(hs:∀z∈ss,Sg z)(hk:∀k∈ks,k<=3)(jn:ks.length<=12):∀{rs:List D},(∀r∈rs,Rm ss ks r)->(∀ws∈lnS rs,Ln ws)/\(lnS rs).length=rs.length+zY rs
 | [],_=>⟨λ_ h=>(nomatch h),rfl⟩
 | r::rs,h=>by
  obtain⟨i1,i2⟩:=vkt hs hk jn λr hr=>h r (lc9 _ hr)
  have hr:=h r X3;have nq:=hr.ln;obtain⟨k,gd,st,rfl,h0,h3,hl,bm⟩:=hr;refine⟨λws hw=>?_,?_⟩
  ·simp only[lnS,Xh,List.mem_append]at hw;rcases hw with rfl|hw|hw
   ·exact nq
   ·obtain⟨d,hd,rfl⟩:=List.mem_map.mp hw;exact(bm d hd).ln hs h3 hk jn
   ·exact i1 ws hw
  ·simp only[lnS,Xb,Xn,X4,i2];show st.length+(rs.length+zY rs)+1=rs.length+1+(st.length+zY rs);omega
theorem Mc.kl{ss:List Str}{ks:List Int}{rs:List D}(h:Mc ss ks rs):ks.length<=12:=by
 have:=congrArg List.length h.ky;rw[X4,X4]at this;have:=h.r12;omega
theorem Mc.lines{ss:List Str}{ks:List Int}{rs:List D}(h:Mc ss ks rs):(∀ws∈mtS ss rs,Ln ws)/\(mtS ss rs).length<=133:=by
 obtain⟨h1,h2⟩:=vkt h.sg h.k3 h.kl h.rm;refine⟨λws hw=>?_,?_⟩
 ·rcases List.mem_cons.mp hw with rfl|hw
  ·refine⟨λw hw=>?_,?_,λe=>nomatch e⟩
   ·rcases List.mem_cons.mp hw with rfl|hw
    ·exact WJ (by decide +kernel)
    ·exact(h.sg w hw).w
   ·have:=h.s3;rw[Xb];omega
  ·exact h1 ws hw
 ·have:=h.r12;have:=h.ln;unfold mtS;rw[Xb];omega
theorem kxs{c x:Nat}:∀{ps:List (List Nat)},c∈L3.joinL x ps->c=x\/∃p∈ps,c∈p
 | [],h=>nomatch h
 | [p],h=>.inr ⟨p,X3,h⟩
 | p::q::r,h=>by
  have h:c∈p++x::L3.joinL x (q::r):=h;rcases List.mem_append.mp h with h|h
  ·exact .inr ⟨p,X3,h⟩
  ·rcases List.mem_cons.mp h with h|h
   ·exact .inl h
   ·rcases kxs h with h|⟨p',hp,h⟩
    ·exact .inl h
    ·exact .inr ⟨p',lc9 _ hp,h⟩
theorem kqx{c:Nat}{ps:List Str}(h0:ps≠[])(h:∀p∈ps,c∉ls p):Txt.split (Txt.join ⟨#[c]⟩ ps) ⟨#[c]⟩=ps:=by
 have q:=L3.split_list (Txt.join ⟨#[c]⟩ ps) c;rw[L3.joinS_cps,L3.splitL_join (λe=>h0 (List.map_eq_nil_iff.mp e)) (λp hp=>by
  obtain⟨z,hz,rfl⟩:=List.mem_map.mp hp;exact h z hz)]at q
 exact(List.map_inj_right λa b h=>L3.str_ext h).mp q
theorem qji{n:Nat}:∀{ps:List Str},(∀p∈ps,p.cps.size<=n)->(ps.map (·.length)).sum<=ps.length*n
 |[],_=>Z1 _
 |p::ps,h=>by
  have h1:p.length<=n:=h p X3;have h2:=qji (ps:=ps) λq hq=>h q (lc9 _ hq)
  rw[List.map_cons,List.sum_cons,Xb,Nat.add_one_mul];omega
theorem qx3{z:Str}{ps:List Str}{n:Nat}(hz:z.length=1)(h:∀p∈ps,p.cps.size<=n)(hb:ps.length*n+ps.length<=100000):xW z (sL ps)=some (.str (Txt.join z ps)):=by
 have hs:=qji h;unfold xW;dsimp only[sL];rw[kk0];dsimp only;rw[Xf (by rw[hz];omega)]
theorem qke{c:Nat}{ps:List Str}{n:Nat}(h:∀p∈ps,p.cps.size<=n):(Txt.join ⟨#[c]⟩ ps).cps.size<=ps.length*(n+1):=by
 have:=L3.joinL_len (c:=c) (k:=n) (ps:=ps.map ls) λp hp=>by
  obtain⟨y,hy,rfl⟩:=List.mem_map.mp hp;rw[Xa];exact h y hy
 rw[X4,<-L3.joinS_cps,Xa]at this;exact this
theorem Ln.jb{ws:List Str}(h:Ln ws):xW " " (sL ws)=some (.str (JB ws)):=qx3 (n:=8) rfl (λp hp=>(h.w p hp).l) (by have:=h.l;omega)
theorem Ln.len{ws:List Str}(h:Ln ws):(JB ws).cps.size<=54:=by
 have h1:(JB ws).cps.size<=ws.length*(8+1):=qke λp hp=>(h.w p hp).l
 have:=h.l;omega
theorem Ln.nl{ws:List Str}(h:Ln ws):10∉ls (JB ws):=by
 rw[Qj];intro hm;rcases kxs hm with e|⟨p,hp,hm⟩
 ·cases e
 ·obtain⟨w,hw,rfl⟩:=List.mem_map.mp hp;exact(h.w w hw).n hm
theorem Ln.back{ws:List Str}(h:Ln ws):Txt.split (JB ws) ⟨#[32]⟩=ws:=kqx h.e λp hp=>(h.w p hp).b
theorem Mc.text{ss:List Str}{ks:List Int}{rs:List D}(h:Mc ss ks rs):xW "\n" (sL ((mtS ss rs).map JB))=some (.str (mtT ss rs))/\(mtT ss rs).cps.size<=10000/\Txt.split (mtT ss rs) ⟨#[10]⟩=(mtS ss rs).map JB:=by
 obtain⟨h1,h2⟩:=h.lines;have hl:((mtS ss rs).map JB).length<=133:=by rw[X4];exact h2
 have hp:∀p∈(mtS ss rs).map JB,p.cps.size<=54:=λp hp=>by
  obtain⟨ws,hw,rfl⟩:=List.mem_map.mp hp;exact(h1 ws hw).len
 refine⟨qx3 (n:=54) rfl hp (by omega),?_,kqx (λe=>nomatch e) λp hp=>?_⟩
 ·have h3:(mtT ss rs).cps.size<=((mtS ss rs).map JB).length*(54+1):=qke hp;omega
 ·obtain⟨ws,hw,rfl⟩:=List.mem_map.mp hp;exact(h1 ws hw).nl
end Nk12
namespace Nk12
open Q PySem C
theorem wj(a b:Str):ls (a++b)=ls a++ls b:=A.list_app a b
theorem kv8{c:Nat}{p:List Nat}:∀{ps:List (List Nat)},ps≠[]->L3.joinL c (ps++[p])=L3.joinL c ps++c::p
 |[],h=>absurd rfl h
 |[_],_=>rfl
 |a::b::r,_=>by
  show a++c::L3.joinL c ((b::r)++[p])=(a++c::L3.joinL c (b::r))++c::p;rw[kv8 (ps:=b::r) (λe=>nomatch e),Xk];rfl
theorem kw6{ws:List Str}(w:Str)(h:ws≠[]):JB ws++" "++w=JB (ws++[w]):=L3.str_ext (by
 show ls (JB ws++" "++w)=ls (JB (ws++[w]));rw[wj,wj,Qj,Qj,Y0,List.map_cons,List.map_nil,kv8 (λe=>h (List.map_eq_nil_iff.mp e)),Xk];rfl)
theorem wjv(w:Str):JB [w]=w:=L3.str_ext (Qj [w])
theorem vwa{ws:List Str}(h:ws≠[]):JB ws++" none"=JB (ws++[("none":Str)]):=L3.str_ext (by
 rw[<-kw6 _ h];show ls (JB ws++" none")=ls (JB ws++" "++"none");rw[wj,wj,wj,Xk];have:ls " none"=ls " "++ls "none":=by decide
 rw[this])
theorem vjl{ss:List Str}(h:1<=ss.length):"signs "++JB ss=JB ("signs" :: ss):=L3.str_ext (by
 show ls ("signs "++JB ss)=ls (JB ("signs" :: ss));have e:ls "signs "=ls "signs"++[32]:=by decide
 cases ss with
 |nil=>simp at h
 |cons a r=>
  rw[wj,Qj,Qj,e,Xk];rfl)
theorem qvl(k:Int):Str.empty++"room "++nmS k++" good"=JB ["room",nmS k,"good"]:=L3.str_ext (by
 show ls (Str.empty++"room "++nmS k++" good")=ls (JB ["room",nmS k,"good"]);rw[wj,wj,wj,Qj];show ls Str.empty++ls "room "++ls (nmS k)++ls " good"=ls "room"++32::(ls (nmS k)++32::ls "good");have e0:ls Str.empty=[]:=rfl;have e1:ls "room "=ls "room"++[32]:=by decide
 have e2:ls " good"=32::ls "good":=by decide
 rw[e0,e1,e2];simp)
theorem vke(k:Int):Str.empty++"room "++nmS k=JB ["room",nmS k]:=L3.str_ext (by
 show ls (Str.empty++"room "++nmS k)=ls (JB ["room",nmS k]);rw[wj,wj,Qj];show ls Str.empty++ls "room "++ls (nmS k)=ls "room"++32::ls (nmS k);have e0:ls Str.empty=[]:=rfl;have e1:ls "room "=ls "room"++[32]:=by decide
 rw[e0,e1];simp)
theorem vw2(k:Int):"room "++nmS k++" good"=JB ["room",nmS k,"good"]:=by
 rw[<-qvl];refine L3.str_ext ?_;show ls ("room "++nmS k++" good")=ls (Str.empty++"room "++nmS k++" good");rw[wj,wj,wj,wj,wj];rfl
theorem wjj(k:Int):"room "++nmS k++""=JB ["room",nmS k]:=by
 rw[<-vke];refine L3.str_ext ?_;show ls ("room "++nmS k++"")=ls (Str.empty++"room "++nmS k);rw[wj,wj,wj,wj];show _++[]=_;rw[Xv];rfl
theorem kkl:∀a b:List D,lnS (a++b)=lnS a++lnS b
 |[],_=>rfl
 |r::a,b=>by
  show rmS r::((JW r).map stS++lnS (a++b))=rmS r::((JW r).map stS++lnS a)++lnS b;rw[kkl a b,List.cons_append,Xk]
theorem qzr{own:Int}{d:D}(ho:own<=3)(h:Fil own d):Oo jv1 [(.no,d)] (λy=>∃o':Own,y=(o',.str (wT d))/\True) noX:=by
 unfold jv1;refine kq ?_;rcases h with rfl|rfl|⟨i,rfl,h0,h1⟩
 ·simp![];exact⟨_,rfl,trivial⟩
 ·have e:=qzk (z:="new") (by decide);simp![e];exact⟨_,rfl,trivial⟩
 ·have e:=WV h0 (show i<12 by omega);simp![e];exact⟨_,rfl,trivial⟩
theorem Ask.s{own:Int}{d:D}(ho:own<=3)(h:Ask own d):z9 d=some (.str (wT d)):=by
 rcases h with rfl|rfl|⟨i,rfl,h0,h1⟩
 ·exact qzk (by decide)
 ·exact qzk (by decide)
 ·exact WV h0 (by omega)
theorem vqu{ss:List Str}{own:Int}{ks:List Int}{d:D}(hs:∀z∈ss,Sg z)(ho:own<=3)(hk:∀k∈ks,k<=3)(jn:ks.length<=12)(h:Stp ss own ks d):Oo jqz [(.no,d)] (λy=>∃o':Own,y=(o',.str (JB (stS d)))/\True) noX:=by
 have nq:=h.ln hs ho hk jn;obtain⟨sg,bb,to,fs,rfl,p6,ha,t0,t1,hf,gp⟩:=h;have j0:∀a b c d:D,jz (.tup [a,b,c,d]) (.int 0)=some a:=λ_ _ _ _=>rfl
 have j1:∀a b c d:D,jz (.tup [a,b,c,d]) (.int 1)=some b:=λ_ _ _ _=>rfl
 have j2:∀a b c d:D,jz (.tup [a,b,c,d]) (.int 2)=some c:=λ_ _ _ _=>rfl
 have j3:∀a b c d:D,jz (.tup [a,b,c,d]) (.int 3)=some d:=λ_ _ _ _=>rfl
 have ea:=ha.s ho;have et:z9 (.int to)=some (.str (nmS to)):=WV t0 (by omega);have hl6:fs.length<=3:=by have:=nq.l;simp only[stS,Xb,X4]at this;omega
 have ad:∀o1,o1≠Own.dp->jq (o1,.lst [.str sg,.str (wT bb),.str (nmS to)]) (.no,.lst (fs.map λd=>D.str (wT d)))=some (.rt,.lst ([.str sg,.str (wT bb),.str (nmS to)]++fs.map λd=>D.str (wT d))):=λo1 h1=>qz5 h1 (by decide) (by simp only[Xb,Yt,X4];omega)
 have ej:xW " " (.lst (.str sg :: .str (wT bb):: .str (nmS to)::fs.map λd=>D.str (wT d)))=some (.str (JB (stS (.tup [.str sg,bb,.int to,.tup fs])))):=by
  rw[<-nq.jb];simp only[stS,sL,List.map_cons,Xx];rfl
 have bk:∀E:En,back [] [] (clr [] E)=E:=λ_=>rfl
 unfold jqz;refine kq ?_;simp![j0,j1,j2,ea,et,↓XV];refine vQ [] (λd y=>y.2=.str (wT d)) ?_;simp![j3];refine⟨λd hd=>?_,λys hy=>?_⟩
 ·simp![];refine(qzr ho (gp d hd)).use ?_;intro _ _;exact⟨⟨_,rfl⟩,rfl⟩
 rw[v8,J4 (h:=λd=>.str (wT d)) (λ_ _ h=>h) hy,bk];simp![ad .no (by decide),ad .rt (by decide),ej];exact⟨_,rfl,trivial⟩
theorem vwh{k:Int}(h0:0<=k)(h1:k<12):fFm "room " " good" (.int k)=some (.str (JB ["room",nmS k,"good"])):=by
 rw[<-qvl];exact Xf ⟨qws h0 h1,Xw (J9 h0 h1).l (by decide),by decide⟩
theorem wka{k:Int}(h0:0<=k)(h1:k<12):wkg "room " (.int k)=some (.str (JB ["room",nmS k])):=by
 rw[<-vke];exact Xf ⟨qws h0 h1,Xw (J9 h0 h1).l (by decide)⟩
theorem vxt{ss:List Str}{ks:List Int}{r:D}(h:Rm ss ks r):Oo jv0 [(.no,r)] (λy=>∃o':Own,y=(o',.str (JB (rmS r)))/\True) noX:=by
 obtain⟨k,gd,st,rfl,h0,h3,hl,bm⟩:=h;have j0:∀a b c:D,jz (.tup [a,b,c]) (.int 0)=some a:=λ_ _ _=>rfl
 have j1:∀a b c:D,jz (.tup [a,b,c]) (.int 1)=some b:=λ_ _ _=>rfl
 have e1:=vwh h0 (show k<12 by omega);have e2:=wka h0 (show k<12 by omega);unfold jv0;refine kq ?_;cases gd with
 |true=>
  simp![j0,j1,e1];exact⟨_,rfl,trivial⟩
 |false=>
  simp![j0,j1,e2];exact⟨_,rfl,trivial⟩
theorem vjg(f:D->Str)(l:List D):l.map (λd=>D.str (f d))=(l.map f).map D.str:=by rw[Xx];rfl
theorem vqy{ss:List Str}{ks:List Int}{rs:List D}(h:Mc ss ks rs):Oo jkt [(.no,qX ss rs)] (λy=>∃o':Own,y=(o',.str (mtT ss rs))/\True) noX:=by
 obtain⟨m1,m2,m3⟩:=h.text;obtain⟨r6,ln2⟩:=h.lines;have j0:∀a b:D,jz (.tup [a,b]) (.int 0)=some a:=λ_ _=>rfl
 have j1:∀a b:D,jz (.tup [a,b]) (.int 1)=some b:=λ_ _=>rfl
 have t2:∀a b c:D,jz (.tup [a,b,c]) (.int 2)=some c:=λ_ _ _=>rfl
 have s3:=h.s3;have ad:∀o,o≠Own.dp->jq (o,.lst [.str "signs"]) (.no,sL ss)=some (.rt,sL ("signs" :: ss)):=λo ho=>qz5 ho (by decide) (by simp only[Xb,Yt,X4];omega)
 have ej:xW " " (sL ("signs" :: ss))=some (.str (JB ("signs" :: ss))):=(r6 _ X3).jb;have bk:∀E:En,back [] [] (clr [] E)=E:=λ_=>rfl
 unfold jkt;refine kq ?_;simp![j0,↓XV,ad .no (by decide),ad .rt (by decide),ej];refine K2 (λE j9=>∃(l2:Option Sd) (pre:List D),E=[some (.no,qX ss rs),some (.rt,sL (JB ("signs" :: ss)::(lnS pre).map JB)),l2]/\rs=pre++j9) ?_ ?_ ?_
 ·simp![j1];exact⟨_,[],rfl,rfl⟩
 ·rintro E r post ⟨l2,pre,rfl,gf⟩;have hr:=h.rm r (by rw[gf];simp);have af:(lnS rs).length=(lnS pre).length+(1+((JW r).length+(lnS post).length)):=by
   rw[gf,kkl];simp only[lnS,Xn,Xb,X4];omega
  have hln2:(lnS rs).length+1<=133:=ln2;simp![];refine qku rfl ?_;simp![];refine(vxt hr).use ?_;intro _ _;simp![];refine⟨_,rfl,by simp only[X4,Xb];omega,?_⟩;obtain⟨k,gd,st,rfl,h0,h3,hl,bm⟩:=hr;refine wkh (xs:=(JB ("signs" :: ss)::((lnS pre).map JB)).map D.str++[.str (JB (rmS (.tup [.int k,.bl gd,.lst st])))]) rfl ?_;refine vQ [] (λd y=>y.2=.str (JB (stS d))) ?_;simp![t2];refine⟨λd hd=>?_,λys hy=>?_⟩
  ·simp![];refine(vqu h.sg h3 h.k3 h.kl (bm d hd)).use ?_;intro _ _;exact⟨⟨_,rfl⟩,rfl⟩
  rw[v8,J4 (h:=λd=>.str (JB (stS d))) (λ_ _ h=>h) hy,bk];have ir:(JW (D.tup [.int k,.bl gd,.lst st])).length=st.length:=rfl;refine⟨_,_,rfl,rfl,(show Own.rt≠Own.no by decide),by simp only[Xn,X4,Xb,Yt];omega,some (.no,.tup [.int k,.bl gd,.lst st]),pre++[.tup [.int k,.bl gd,.lst st]],?_,by rw[gf];simp⟩;rw[kkl,vjg];simp only[lnS,JW,Xv,Y0,List.map_cons,Xx,List.cons_append,Xk,List.nil_append,sL,Function.comp_def];rfl
 ·rintro E ⟨l2,pre,rfl,gf⟩;rw[Xv]at gf;subst gf;have m1:xW "\n" (sL (JB ("signs" :: ss)::(lnS rs).map JB))=some (.str (mtT ss rs)):=m1;simp![↓XV,m1];exact⟨_,rfl,trivial⟩
end Nk12
namespace Nk12
open Q PySem C
theorem XX{o1 o2:Own}{a b c:Str}(e:a++b=c)(h:a.cps.size+b.cps.size<=10000):jq (o1,.str a) (o2,.str b)=some (.dp,.str c):=by rw[<-e];exact Qk h
theorem qxk{ws:List Str}(hw:Ln ws):(∀o1 o2,jq (o1,.str (JB ws)) (o2,.str " none")=some (.dp,.str (JB (ws++[("none":Str)]))))/\(∀o1 o2,jq (o1,.str (JB ws)) (o2,.str " ")=some (.dp,.str (JB ws++" ")))/\∀w:Str,w.cps.size<=8->∀o1 o2,jq (o1,.str (JB ws++" ")) (o2,.str w)=some (.dp,.str (JB (ws++[w]))):=by
 have hl:=hw.len;have s1:(" ":Str).cps.size=1:=by decide
 have s5:(" none":Str).cps.size=5:=by decide
 exact⟨λo1 o2=>XX (vwa hw.e) (by omega),λo1 o2=>Qk (by omega),λw hf o1 o2=>XX (kw6 _ hw.e) (by rw[jz4];omega)⟩
theorem vqp{ss:List Str}{ks:List Int}{rs:List D}(h:Mc ss ks rs):Oo jv6 [(.no,qX ss rs)] (λy=>∃o':Own,y=(o',.str (mtT ss rs))/\True) noX:=by
 obtain⟨m1,m2,m3⟩:=h.text;obtain⟨r6,ln2⟩:=h.lines;have j0:∀a b:D,jz (.tup [a,b]) (.int 0)=some a:=λ_ _=>rfl
 have j1:∀a b:D,jz (.tup [a,b]) (.int 1)=some b:=λ_ _=>rfl
 have s3:=h.s3;have s1:=h.s1;have hS:Ln ss:=⟨λw hw=>(h.sg w hw).w,by omega,λe=>by rw[e]at s1;simp at s1⟩;have hS1:=hS.len;have z6:("signs ":Str).cps.size=6:=by decide
 have as:∀o1 o2,jq (o1,.str "signs ") (o2,.str (JB ss))=some (.dp,.str (JB ("signs" :: ss))):=λo1 o2=>XX (vjl h.s1) (by omega)
 have hln2:(lnS rs).length+1<=133:=ln2;unfold jv6;refine kq ?_;simp![j0,↓XV,hS.jb,as];refine K2 (λE j9=>∃(l2 l3 l4 l5 l6 l7 l8 l9 fv:Option Sd) (pre:List D),E=[some (.no,qX ss rs),some (.rt,sL (JB ("signs" :: ss)::(lnS pre).map JB)),l2,l3,l4,l5,l6,l7,l8,l9,fv]/\rs=pre++j9) ?_ ?_ ?_
 ·simp![j1];exact⟨_,_,_,_,_,_,_,_,_,[],rfl,rfl⟩
 ·rintro E r post ⟨l2,l3,l4,l5,l6,l7,l8,l9,fv,pre,rfl,gf⟩;have hr:=h.rm r (by rw[gf];simp);have af:(lnS rs).length=(lnS pre).length+(1+((JW r).length+(lnS post).length)):=by
   rw [gf,kkl];simp only[lnS,Xn,Xb,X4];omega
  obtain⟨k,gd,st,rfl,h0,h3,hl,bm⟩:=hr;have ir:(JW (D.tup [.int k,.bl gd,.lst st])).length=st.length:=rfl;have ek:=WV h0 (show k<12 by omega);have nk:=(J9 h0 (show k<12 by omega)).l;have z5:("room ":Str).cps.size=5:=by decide
  have a1:∀o1 o2,jq (o1,.str "room ") (o2,.str (nmS k))=some (.dp,.str ("room "++nmS k)):=λo1 o2=>Qk (by omega)
  have hgd:∃t:Str,jz (.lst [.str "",.str " good"]) (.int (if gd then 1 else 0))=some (.str t)/\t.cps.size<=5/\"room "++nmS k++t=JB (rmS (.tup [.int k,.bl gd,.lst st])):=by
   cases gd with
   | true=>exact⟨" good",rfl,by decide,vw2 k⟩
   | false=>exact⟨"",rfl,by decide,wjj k⟩
  obtain⟨t,g1,g2,g3⟩:=hgd;have a2:∀o1 o2,jq (o1,.str ("room "++nmS k)) (o2,.str t)=some (.dp,.str (JB (rmS (.tup [.int k,.bl gd,.lst st])))):=λo1 o2=>XX g3 (by rw[jz4];omega)
  have ei:Q8 (.bl gd)=some (.int (if gd then 1 else 0)):=rfl;simp![];refine qku rfl ?_;simp![ek,a1,ei,g1,a2];refine⟨_,rfl,by simp only[X4,Xb];omega,?_⟩;refine K2 (λE gb=>∃(l5 l6 l7 l8 l9 fv:Option Sd) (o2 o3 o4:Own) (i9:List D),E=[some (.no,qX ss rs),some (.rt,sL (JB ("signs" :: ss)::((lnS pre).map JB++JB (rmS (.tup [.int k,.bl gd,.lst st]))::i9.map λd=>JB (stS d)))),some (o2,.int k),some (o3,.bl gd),some (o4,.lst st),l5,l6,l7,l8,l9,fv]/\st=i9++gb) ?_ ?_ ?_
  ·have e0:D.lst (D.str (JB ("signs" :: ss))::(((lnS pre).map JB).map D.str++[D.str (JB (rmS (.tup [.int k,.bl gd,.lst st])))]))=sL (JB ("signs" :: ss)::((lnS pre).map JB++JB (rmS (.tup [.int k,.bl gd,.lst st]))::([]:List D).map λd=>JB (stS d))):=by
    simp only[sL,List.map_cons,Y0,List.map_nil]
   simp![];rw [e0];exact⟨_,_,_,_,_,_,_,_,_,[],rfl,rfl⟩
  ·rintro E d gb ⟨l5,l6,l7,l8,l9,fv,o2,o3,o4,i9,rfl,hst2⟩;have hd:=bm d (by rw[hst2];simp);have nq:=hd.ln h.sg h3 h.k3 h.kl;have hstl:st.length=i9.length+(gb.length+1):=by rw[hst2];simp
   obtain⟨sg,bb,to,fs,rfl,p6,ha,t0,t1,hf,gp⟩:=hd;have kl:=h.kl;have ea:=ha.s h3;have et:=WV t0 (show to<12 by omega);have wa:=(ha.w h3).l;have wt:=(J9 t0 (show to<12 by omega)).l;have ws:=(h.sg _ p6).w.l;have z1:(" ":Str).cps.size=1:=by decide
   have b1:∀o1 o2,jq (o1,.str sg) (o2,.str " ")=some (.dp,.str (sg++" ")):=λo1 o2=>Qk (by omega)
   have b2:∀o1 o2,jq (o1,.str (sg++" ")) (o2,.str (wT bb))=some (.dp,.str (JB [sg,wT bb])):=λo1 o2=>XX (by have:=kw6 (ws:=[sg]) (wT bb) (λe=>nomatch e);rw[wjv]at this;exact this) (by rw[jz4];omega)
   have hw2:Ln [sg,wT bb]:=⟨λw hw=>nq.w w (by simp only[stS,Xh]at hw ⊢;rcases hw with rfl|rfl|hw;exact .inl rfl;exact .inr (.inl rfl);cases hw),by simp,λe=>nomatch e⟩;have l2:=hw2.len;have b3:∀o1 o2,jq (o1,.str (JB [sg,wT bb])) (o2,.str " ")=some (.dp,.str (JB [sg,wT bb]++" ")):=λo1 o2=>Qk (by omega)
   have b4:∀o1 o2,jq (o1,.str (JB [sg,wT bb]++" ")) (o2,.str (nmS to))=some (.dp,.str (JB [sg,wT bb,nmS to])):=λo1 o2=>XX (kw6 (nmS to) (λe=>nomatch e)) (by rw[jz4];omega)
   simp![ea,et,b1,b2,b3,b4];refine K2 (λE mv=>∃(fv:Option Sd) (o1 o2 o3 o4 o5 o6 o7 o8 o9:Own) (iu:List D),E=[some (.no,qX ss rs),some (.rt,sL (JB ("signs" :: ss)::((lnS pre).map JB++JB (rmS (.tup [.int k,.bl gd,.lst st]))::i9.map λd=>JB (stS d)))),some (o2,.int k),some (o3,.bl gd),some (o4,.lst st),some (o5,.str sg),some (o6,bb),some (o7,.int to),some (o8,.tup fs),some (o9,.str (JB (sg::wT bb::nmS to::iu.map wT))),fv]/\fs=iu++mv) ?_ ?_ ?_
   ·simp![];exact⟨_,.no,_,_,_,_,_,_,_,_,[],rfl,rfl⟩
   ·rintro E f mv ⟨fv,o1,o2,o3,o4,o5,o6,o7,o8,o9,iu,rfl,hfs3⟩;have hw3:Ln (sg::wT bb::nmS to::iu.map wT):=⟨λw hw=>nq.w w (by
     simp only[stS,Xh]at hw ⊢;rcases hw with e|e|e|hw
     ·exact .inl e
     ·exact .inr (.inl e)
     ·exact .inr (.inr (.inl e))
     ·rw[hfs3,Y0];exact .inr (.inr (.inr (ll9 _ hw)))),by
     have:=nq.l;rw[hfs3]at this;simp only[stS,Xb,X4,Xn]at this ⊢;omega,λe=>nomatch e⟩
    have en:∀w f,wT f=w->(sg::wT bb::nmS to::iu.map wT)++[w]=sg::wT bb::nmS to::(iu++[f]).map wT:=λw f e=>by rw[<-e];simp
    obtain⟨c1,c2,c3⟩:=qxk hw3;have hff:=gp f (by rw[hfs3];simp);have hf8:=(hff.w h3).l;rcases hff with rfl|rfl|⟨i,rfl,i0,i1⟩
    ·rw[en "none" .non rfl]at c1;simp![c1];exact⟨_,.no,_,_,_,_,_,_,_,_,_,rfl,by rw[hfs3];simp⟩
    ·have c3:=c3 "new" (by decide);rw[en "new" (.str "new") rfl]at c3;simp![qzk (z:="new") (by decide),c2,c3];exact⟨_,.no,_,_,_,_,_,_,_,_,_,rfl,by rw[hfs3];simp⟩
    ·have c3:=c3 (nmS i) hf8;rw[en (nmS i) (.int i) rfl]at c3;simp![WV i0 (show i<12 by omega),c2,c3];exact⟨_,.no,_,_,_,_,_,_,_,_,_,rfl,by rw[hfs3];simp⟩
   ·rintro E ⟨fv,o1,o2,o3,o4,o5,o6,o7,o8,o9,iu,rfl,hfs3⟩;rw[Xv]at hfs3;subst hfs3;refine qku rfl ?_;simp![];have e0:D.lst ((JB ("signs" :: ss)::((lnS pre).map JB++JB (rmS (.tup [.int k,.bl gd,.lst st]))::i9.map λd=>JB (stS d))).map D.str++[D.str (JB (sg::wT bb::nmS to::fs.map wT))])=sL (JB ("signs" :: ss)::((lnS pre).map JB++JB (rmS (.tup [.int k,.bl gd,.lst st]))::(i9++[D.tup [.str sg,bb,.int to,.tup fs]]).map λd=>JB (stS d))):=by
     simp only[sL,List.map_cons,Y0,List.cons_append,Xk,List.map_nil,stS];rfl
    refine⟨_,rfl,by simp only[X4,Xb,Xn];omega,?_⟩;rw[e0];exact⟨_,_,_,_,_,_,_,_,_,i9++[.tup [.str sg,bb,.int to,.tup fs]],rfl,by rw[hst2];simp⟩
  ·rintro E ⟨l5,l6,l7,l8,l9,fv,o2,o3,o4,i9,rfl,hst2⟩;rw[Xv]at hst2;subst hst2;have e0:(lnS pre).map JB++JB (rmS (.tup [.int k,.bl gd,.lst st]))::st.map (λd=>JB (stS d))=(lnS (pre++[.tup [.int k,.bl gd,.lst st]])).map JB:=by
    rw[kkl];simp only[lnS,JW,Xv,Y0,List.map_cons,Xx,Function.comp_def]
   rw[e0];exact⟨_,_,_,_,_,_,_,_,_,pre++[.tup [.int k,.bl gd,.lst st]],rfl,by rw[gf];simp⟩
 ·rintro E ⟨l2,l3,l4,l5,l6,l7,l8,l9,fv,pre,rfl,gf⟩;rw[Xv]at gf;subst gf;have m1:xW "\n" (sL (JB ("signs" :: ss)::(lnS rs).map JB))=some (.str (mtT ss rs)):=m1;simp![↓XV,m1];exact⟨_,rfl,trivial⟩
end Nk12
namespace Nk12
open Q PySem C
theorem eqT(a:Str):fEq (.str a) (.str a)=some (.bl true):=eq_self rfl
theorem eqF{a b:Str}(h:(a==b)=false):fEq (.str a) (.str b)=some (.bl false):=by rw[ZX,h]
theorem wk3(y:Str)(c:Nat):VZ ⟨#[c]⟩ y=decide (c∈ls y):=StrLaws.found_one y c
theorem kvo{i:Int}(h0:0<=i)(h1:i<12):Oo Qq [(.no,.str (nmS i))] (λy=>∃o':Own,y=(o',.int i)/\True) noX:=by
 have hN:=J9 h0 h1;have hn:=hN.n;have hl:=hN.l;have hv:=hN.v;have hi:Q8 (.str (nmS i))=some (.int i):=by
  show(if(nmS i).length<=640 then(PySem.intText? (nmS i)).map D.int else none)=_;rw [Xf (Xw (show(nmS i).length<=2 from hl) (by decide)),hv];rfl
 generalize nmS i=z at hn hl hv hi;have nt:Yes jkf [(.no,.str z)]:=by
  unfold L3.numL at hn;simp only[Bool.and_eq_true,Bool.not_eq_true',decide_eq_false_iff_not]at hn;obtain⟨⟨hn0,hna⟩,ma⟩:=hn;have hb:z.cps.size<=big:=by unfold big;omega
  have e0:fEq (.str z) (.str "")=some (.bl false):=by
   rw[ZX];have:(z == "")=false:=by
    have:z≠"":=λe=>hn0 (by rw[e];rfl)
    simpa using this
   rw[this]
  unfold jkf;refine kq ?_;simp![e0];refine vQ [] (λ_ y=>y.2=.bl true) ?_;simp![hb];refine⟨λd hd=>?_,λys hy=>?_⟩
  ·obtain⟨c,hc,rfl⟩:=List.mem_map.mp hd;have e:wV (.str ⟨#[c]⟩) (.str "0123456789")=some (.bl true):=by
    show some (D.bl (VZ ⟨#[c]⟩ "0123456789"))=_;rw[wk3];have:=List.all_eq_true.mp hna c hc;rw[show decide (c∈ls "0123456789")=L3.figC c from rfl,this]
   simp![e];exact⟨⟨_,rfl⟩,trivial⟩
  ·have bk:∀E:En,back [] [] (clr [] E)=E:=λ_=>rfl
   rw[v8,Vw (λ_ _ h=>h) hy,bk];have e1:fEq (.str z) (.str "0")=some (.bl (decide (ls z=[48]))):=by
    rw[ZX]
    by_cases hz:z="0"
    ·subst hz;have:decide (ls "0"=[48])=true:=by decide
     rw[this];rfl
    ·have h1:(z == "0")=false:=by simpa using hz
     rw[h1,Y8 λe=>hz (L3.str_ext (by rw[show z.cps.toList=[48]from e];decide))]
   have e2:kkv "0" (.str z)=some (.bl (decide ((ls z).head?=some 48))):=by
    show some (D.bl (Txt.startswith z ⟨#[48]⟩))=_;rw[L3.starts_list]
   rcases Bool.eq_false_or_eq_true (decide (ls z=[48]))with h48|h48
   ·rw[h48]at e1;simp![Q6,e1];exact⟨_,rfl,trivial⟩
   ·rw[h48]at e1 ma;rw[Bool.false_or]at ma;have h48':decide ((ls z).head?=some 48)=false:=by simpa using ma
    rw[h48']at e2;simp![Q6,e1,e2];exact⟨_,rfl,trivial⟩
 have l:kX (.str z)=some (.int z.cps.size):=rfl;have g:fGt (.int z.cps.size) (.int 2)=some (.bl false):=by rw[gt_ii];simp;omega
 unfold Qq;refine kq ?_;simp![];refine nt.use ?_;intro _ _;simp![l,g,hi];exact⟨_,rfl,trivial⟩
theorem vjc{i:Int}(h0:0<=i)(h1:i<12){w:Str}(hw:2<w.cps.size):nmS i≠w:=λe=>by
 have:=(J9 h0 h1).l;rw[e]at this;omega
theorem wjf{i:Int}(h0:0<=i)(h1:i<12){w:Str}(hw:2<w.cps.size):fEq (.str (nmS i)) (.str w)=some (.bl false):=by
 rw[ZX];have:(nmS i==w)=false:=by simpa using vjc h0 h1 hw
 rw[this]
theorem vwf{z:Str}{ss:List Str}:wV (.str z) (.tup (ss.map D.str))=some (.bl (ss.any λw=>w==z)):=by
 have:=@wx7 z ss;unfold wV at this ⊢;dsimp only[sL]at this ⊢;exact this
theorem vv0{own:Int}{d:D}(ho:own<=3)(h:Ask own d):Oo jvy [(.no,.str (wT d))] (λy=>∃o':Own,y=(o',d)/\True) noX:=by
 unfold jvy;refine kq ?_;rcases h with rfl|rfl|⟨i,rfl,h0,h1⟩
 ·have e:wV (.str "fresh") (.tup [.str "fresh",.str "any"])=some (.bl true):=by rw[show[D.str "fresh",.str "any"]=(["fresh","any"]:List Str).map D.str from rfl,vwf];exact congrArg (λb=>some (D.bl b)) (by decide +kernel)
  simp![wT,e];exact⟨_,rfl,trivial⟩
 ·have e:wV (.str "any") (.tup [.str "fresh",.str "any"])=some (.bl true):=by rw[show[D.str "fresh",.str "any"]=(["fresh","any"]:List Str).map D.str from rfl,vwf];exact congrArg (λb=>some (D.bl b)) (by decide +kernel)
  simp![wT,e];exact⟨_,rfl,trivial⟩
 ·have n1:=vjc h0 (show i<12 by omega) (w:="fresh") (by decide);have n2:=vjc h0 (show i<12 by omega) (w:="any") (by decide);have e:wV (.str (nmS i)) (.tup [.str "fresh",.str "any"])=some (.bl false):=by
   rw[show[D.str "fresh",.str "any"]=(["fresh","any"]:List Str).map D.str from rfl,vwf];have a1:(("fresh":Str)==nmS i)=false:=by simpa using λe=>n1 e.symm
   have a2:(("any":Str)==nmS i)=false:=by simpa using λe=>n2 e.symm
   simp only[List.any_cons,List.any_nil,a1,a2,Bool.or_false]
  simp![wT,e];refine(kvo h0 (by omega)).use ?_;intro _ _;simp![];exact⟨_,rfl,trivial⟩
theorem qzv{own:Int}{d:D}(ho:own<=3)(h:Fil own d):Oo jv2 [(.no,.str (wT d))] (λy=>∃o':Own,y=(o',d)/\True) noX:=by
 unfold jv2;refine kq ?_;rcases h with rfl|rfl|⟨i,rfl,h0,h1⟩
 ·have e:fEq (.str "none") (.str "none")=some (.bl true):=eqT _;simp![wT,e];exact⟨_,rfl,trivial⟩
 ·have e1:fEq (.str "new") (.str "none")=some (.bl false):=eqF (by decide +kernel);have e2:fEq (.str "new") (.str "new")=some (.bl true):=eqT _;simp![wT,e1,e2];exact⟨_,rfl,trivial⟩
 ·have e1:=wjf h0 (show i<12 by omega) (w:="none") (by decide);have e2:=wjf h0 (show i<12 by omega) (w:="new") (by decide);simp![wT,e1,e2];refine(kvo h0 (by omega)).use ?_;intro _ _;simp![];exact⟨_,rfl,trivial⟩
theorem qk0:∀a b:List Str,peqs (a.map D.str) (b.map D.str)=decide (a=b)
 | [],[]=>by simp[peqs]
 | [],_::_=>by simp[peqs]
 | _::_,[]=>by simp[peqs]
 | x::a,y::b=>by
  rw[List.map_cons,List.map_cons,peqs,qk0 a b,peq]
  by_cases h:x=y
  ·subst h;simp
  ·have:(x==y)=false:=by simpa using h
   rw[this];simp[h]
theorem wvz(a b:List Str):fEq (sL a) (sL b)=some (.bl (decide (a=b))):=by
 unfold fEq;rw[kkt,kkt];show some (D.bl (peqs (a.map D.str) (b.map D.str)))=_;rw[qk0]
theorem jzf{xs:List D}{c:Nat}(h:c<=xs.length):K7 xs (some (c:Int)) none=xs.drop c:=by
 unfold K7;have e1:zX xs.length 0 (some (c:Int))=c:=by
  unfold zX;dsimp only;rw[Xm (by omega)];omega
 have e2:zX xs.length xs.length none=xs.length:=rfl;rw[e1,e2,List.take_of_length_le (by rw[Z4];omega)]
theorem qx7{ss:List Str}{ks:List Int}{r:D}(h:Rm ss ks r):Yes Q7 [(.no,sL (rmS r))]:=by
 obtain⟨k,gd,st,rfl,h0,h3,hl,bm⟩:=h;have e:fEq (.str "room") (.str "room")=some (.bl true):=eqT _;unfold Q7;refine kq ?_;cases gd with
 | false=>
  have i0:jz (sL ["room",nmS k]) (.int 0)=some (.str "room"):=rfl;have l2:kX (sL ["room",nmS k])=some (.int 2):=rfl;have e2:fEq (.int 2) (.int 2)=some (.bl true):=rfl;show Po _ _ _ _ _;simp![rmS,gdS,wT,i0,e,l2,e2];exact⟨_,rfl,trivial⟩
 | true=>
  have i0:jz (sL ["room",nmS k,"good"]) (.int 0)=some (.str "room"):=rfl;have l2:kX (sL ["room",nmS k,"good"])=some (.int 3):=rfl;have e2:fEq (.int 3) (.int 2)=some (.bl false):=rfl;have s2:fSl (.no,sL ["room",nmS k,"good"]) (some 2) none=some (.rt,sL ["good"]):=by
   rw[sL,W8 (by decide)];exact congrArg (λx=>some (Own.rt,D.lst x)) (jzf (c:=2) (by simp))
  have e3:fEq (sL ["good"]) (.lst [.str "good"])=some (.bl true):=eq_self (kkt _);simp![rmS,gdS,wT,i0,e,l2,e2,s2,e3];exact⟨_,rfl,trivial⟩
theorem qx6{ss:List Str}{own:Int}{ks:List Int}{d:D}(jn:ks.length<=12)(h:Stp ss own ks d):Oo Q7 [(.no,sL (stS d))] (λy=>∃o':Own,y=(o',.bl false)/\True) noX:=by
 obtain⟨sg,bb,to,fs,rfl,p6,ha,t0,t1,hf,gp⟩:=h;have i0:∀x xs,jz (sL (x::xs)) (.int 0)=some (.str x):=λx xs=>by
  rw[sL];exact qY (by decide) rfl
 have l2:kX (sL (sg::wT bb::wT (.int to)::fs.map wT))=some (.int (fs.length+3:Nat)):=by
  show some (D.int _)=_;simp only[X4,Xb]
 have e2:fEq (.int (fs.length+3:Nat)) (.int 2)=some (.bl false):=by rw[JY];simp;omega
 have s2:fSl (.no,sL (sg::wT bb::wT (.int to)::fs.map wT)) (some 2) none=some (.rt,sL (wT (.int to)::fs.map wT)):=by
  rw[sL,W8 (by decide)];exact congrArg (λx=>some (Own.rt,D.lst x)) (jzf (c:=2) (by simp))
 have e3:fEq (sL (wT (.int to)::fs.map wT)) (.lst [.str "good"])=some (.bl false):=by
  show fEq _ (sL ["good"])=_;rw[wvz,Y8 λe=>by
   injection e with e _;exact vjc t0 (show to<12 by omega) (w:="good") (by decide) e]
 unfold Q7;refine kq ?_
 by_cases hr:sg="room"
 ·subst hr;have e:fEq (.str "room") (.str "room")=some (.bl true):=eqT _;simp![stS,i0,e,l2,e2,s2,e3];exact⟨_,rfl,trivial⟩
 ·have e:fEq (.str sg) (.str "room")=some (.bl false):=by
   rw[ZX];have:(sg == "room")=false:=by simpa using hr
   rw[this]
  simp![stS,i0,e];exact⟨_,rfl,trivial⟩
theorem qzt{k:Int}{gd:Bool}{st:List D}(h0:0<=k)(h3:k<=3):Oo YQ [(.no,sL (rmS (.tup [.int k,.bl gd,.lst st])))] (λy=>∃_:Unit,y=(.dp,.tup [.int k,.bl gd,.lst []])/\True) noX:=by
 have i1:∀x y xs,jz (sL (x::y::xs)) (.int 1)=some (.str y):=λx y xs=>by
  rw[sL];exact qY (by decide) rfl
 have l2:kX (sL (rmS (.tup [.int k,.bl gd,.lst st])))=some (.int (if gd then 3 else 2)):=by cases gd<;>rfl
 have e2:fEq (.int (if gd then 3 else 2)) (.int 3)=some (.bl gd):=by cases gd<;>rfl
 have i1:jz (sL (rmS (.tup [.int k,.bl gd,.lst st]))) (.int 1)=some (.str (nmS k)):=i1 _ _ _;generalize rmS (.tup [.int k,.bl gd,.lst st])=ws at l2 i1;unfold YQ;refine kq ?_;simp![i1,vk8,vql];refine(kvo h0 (by omega)).use ?_;intro o _;simp![l2,e2];refine⟨by cases o<;>rfl,?_⟩;simp![vql];exact⟨rfl,rfl,(),trivial⟩
theorem qzs{ss:List Str}{own:Int}{ks:List Int}{d:D}(ho:own<=3)(jn:ks.length<=12)(h:Stp ss own ks d):Oo WZ [(.no,sL (stS d))] (λy=>∃o':Own,y=(o',d)/\True) noX:=by
 obtain⟨sg,bb,to,fs,rfl,p6,ha,t0,t1,hf,gp⟩:=h;have i0:jz (sL (sg::wT bb::wT (.int to)::fs.map wT)) (.int 0)=some (.str sg):=qY (by decide) rfl;have i1:jz (sL (sg::wT bb::wT (.int to)::fs.map wT)) (.int 1)=some (.str (wT bb)):=qY (by decide) rfl;have i2:jz (sL (sg::wT bb::wT (.int to)::fs.map wT)) (.int 2)=some (.str (nmS to)):=qY (by decide) rfl;have l2:kX (sL (sg::wT bb::wT (.int to)::fs.map wT))=some (.int (fs.length+3:Nat)):=by
  show some (D.int _)=_;simp only[X4,Xb]
 have e2:fLt (.int (fs.length+3:Nat)) (.int 3)=some (.bl false):=by rw[lt_ii];simp;omega
 have s3:fSl (.no,sL (sg::wT bb::wT (.int to)::fs.map wT)) (some 3) none=some (.rt,.lst ((fs.map wT).map D.str)):=by
  rw[sL,W8 (by decide)];exact congrArg (λx=>some (Own.rt,D.lst x)) (jzf (c:=3) (by simp))
 have bk:∀E:En,back [] [] (clr [] E)=E:=λ_=>rfl
 unfold WZ;refine kq ?_;simp![stS,l2,e2,i0,i1];refine(vv0 ho ha).use ?_;intro _ _;simp![i2];refine(kvo t0 (by omega)).use ?_;intro _ _;simp![];refine vjt (λE1 B ds ah=>E1=[some (.no,sL (sg::wT bb::wT (.int to)::fs.map wT))]/\∃(l0:Option Sd) (pre post:List D),B=[l0]/\fs=pre++post/\ds=post.map (λf=>D.str (wT f))/\ah.map (·.2)=pre) ?_ ?_ ?_
 ·simp![s3];exact⟨_,[],fs,rfl,rfl,by rw[Xx];rfl,rfl⟩
 ·rintro E1 B d ds ah ⟨rfl,l0,pre,post,rfl,hp,hd,ha⟩;cases post with
  |nil=>cases hd
  |cons f post=>
   injection hd with d1 d2;subst d1 d2;simp![];refine(qzv ho (gp f (by rw[hp];simp))).use ?_;intro _ _;exact⟨_,pre++[f],post,rfl,by rw[hp];simp,rfl,by rw[Y0,ha];rfl⟩
 ·rintro E1 B ah ⟨rfl,l0,pre,post,rfl,hp,hd,ha⟩;have:post=[]:=by cases post with|nil=>rfl|cons _ _=>cases hd
  subst this;rw[Xv]at hp;subst hp;rw[v8,ha];simp only[Q0,back,clr,at',List.drop,List.map_cons,List.map_nil,List.set_cons_zero,List.set_cons_succ];simp![vxg (o:=.no) (xs:=fs) (by decide)];exact⟨_,rfl,trivial⟩
end Nk12
namespace Nk12
open Q PySem C
theorem wkt{i:Nat}{c:Ex}{E:En}{xs:List D}{N C:En->Prop}{R:Sd->Prop}{X:XP}(h0:E[i]?=some (some (.dp,.lst xs)))
  (h:Eo (c E) (λE1 x=>∃ys,E1[i]?=some (some (.dp,.lst ys))/\ys.length<10000/\x.1=.dp/\N (E1.set i (some (.dp,.lst (ys++[x.2]))))) X):Po (wQ wJ i c E) N C R X:=
 vqc h0 (h.mono λE1 x ⟨ys,h1,h2,h3,h4⟩=>⟨.dp,ys,h1,by decide,h2,by rw[Xf ⟨rfl,by unfold v9;rw[h3];rfl⟩];with_unfolding_all exact h4⟩)
theorem wj2{E:En}{i:Nat}{ps:List (Int ⊕ Nat)}{c:Ex}{d:D}{zs:List Int}{p:List Nat}{ds:List D}{N C:En->Prop}{R:Sd->Prop}{X:XP}(h0:E[i]?=some (some (.dp,d)))(hz:W2 E ps=some zs)(hn:KW zs d=some p)(gw:D.at p d=some (.lst ds))(hl:ds.length<10000)
  (h:Eo (c (E.set i none)) (λE1 x=>x.2.pure=true/\N (E1.set i (some (.dp,D.put (.lst (ds++[x.2])) p d)))) X):Po (Zj i ps c E) N C R X:=by
 unfold Zj;rw[h0,hz];dsimp only;rw[hn];exact wvi h0 gw hl h
theorem qwg{pre:List D}{a b:D}{st:List D}:KW [-1,2] (.lst (pre++[.tup [a,b,.lst st]]))=some [pre.length,2]/\D.at [pre.length,2] (.lst (pre++[.tup [a,b,.lst st]]))=some (.lst st)/\∀y,D.put y [pre.length,2] (.lst (pre++[.tup [a,b,.lst st]]))=.lst (pre++[.tup [a,b,y]]):=by
 have hg:(pre++[D.tup [a,b,.lst st]])[pre.length]?=some (.tup [a,b,.lst st]):=by simp
 have hi:Q.ixN (pre++[D.tup [a,b,.lst st]]).length (-1)=some pre.length:=by
  unfold Q.ixN;rw[Xm (by decide),Xn];simp;omega
 refine⟨?_,?_,λy=>?_⟩
 ·unfold KW;rw[hi];dsimp only;rw[hg];rfl
 ·show(match (pre++[D.tup [a,b,.lst st]])[pre.length]? with|some d=>D.at [2] d|none=>none)=_;rw[hg];rfl
 ·show(match (pre++[D.tup [a,b,.lst st]])[pre.length]? with|some d=>Q.D.lst ((pre++[D.tup [a,b,.lst st]]).set pre.length (D.put y [2] d))|none=>_)=_;rw[hg];show D.lst ((pre++[D.tup [a,b,.lst st]]).set pre.length (.tup [a,b,y]))=_;rw[List.set_append_right _ _ (Xe _),Nat.sub_self];rfl
noncomputable def ZZ(rs:List D)(E:En)(j9:List D):Prop:=∃(l2:Option Sd) (o0:Own) (iz:List D),E=[some (o0,.lst ((lnS rs).map sL)),some (.dp,.lst iz),l2]/\(iz=[]/\j9=(lnS rs).map sL\/∃(pre:List D) (k:Int) (gd:Bool) (jg be post:List D),iz=pre++[.tup [.int k,.bl gd,.lst jg]]/\rs=pre++.tup [.int k,.bl gd,.lst (jg++be)]::post/\j9=(be.map stS++lnS post).map sL)
noncomputable def vk4:Sm:=sIf (tEQ (vE (jx Q7 [cV 2]))) (wQ wJ 1 (jx YQ [cV 2])) (sIf (tE (cF2 (pu2 fEq) (vE (cF1 (pu1 kX) (vV 1))) (C9 0))) VJ (Zj 1 [.inl (-1),.inl 2] (jx WZ [cV 2])))
theorem qvk{ss:List Str}{ks:List Int}{rs:List D}(h:Mc ss ks rs):Oo jqj [(.no,.lst ((lnS rs).map sL))] (λy=>∃_:Unit,y=(.dp,.lst rs)/\True) noX:=by
 have r12:=h.r12;unfold jqj;refine kq ?_;simp![];refine K2 (ZZ rs) ?_ ?_ ?_
 ·simp![];exact⟨_,_,[],rfl,.inl ⟨rfl,rfl⟩⟩
 ·rintro E d j9 ⟨l2,o0,iz,rfl,hc⟩;have next:∀(post:List D) (r:D),rs=iz++r::post->d=sL (rmS r)->j9=((JW r).map stS++lnS post).map sL->Po (vk4 [some (o0,.lst ((lnS rs).map sL)),some (.dp,.lst iz),some (.no,d)]) (λE=>ZZ rs E j9) (λE=>ZZ rs E j9) (λy=>∃_:Unit,y=(.dp,.lst rs)/\True) noX:=by
   rintro post r gf rfl np;have hr:=h.rm r (by rw[gf];simp);have ph:iz.length<12:=by have:=congrArg List.length gf;rw[Xn,Xb]at this;omega
   unfold vk4;simp![];refine(qx7 hr).use ?_;intro _ _;obtain⟨k,gd,st,rfl,h0,h3,hl,bm⟩:=hr;simp![];refine wkt rfl ?_;simp![];refine(qzt h0 h3).use ?_;intro _ _;refine⟨_,rfl,by omega,rfl,_,_,_,rfl,.inr ⟨iz,k,gd,[],st,post,rfl,gf,np⟩⟩
  have main:Po (vk4 [some (o0,.lst ((lnS rs).map sL)),some (.dp,.lst iz),some (.no,d)]) (λE=>ZZ rs E j9) (λE=>ZZ rs E j9) (λy=>∃_:Unit,y=(.dp,.lst rs)/\True) noX:=by
   rcases hc with⟨hn,hd⟩|⟨pre,k,gd,jg,be,post,hn,gf,hd⟩
   ·cases rs with
    | nil=>cases hd
    | cons r post=>
     injection hd with d1 d2;exact next post r (by rw[hn];rfl) d1 d2
   ·cases be with
    | nil=>
     cases post with
     |nil=>cases hd
     |cons r post=>
      injection hd with d1 d2;exact next post r (by rw[hn,gf,Xv,Xk];rfl) d1 d2
    |cons s be=>
     injection hd with d1 d2;subst d1 d2;obtain⟨k',gd',ff,e,h0,h3,hl,bm⟩:=h.rm (.tup [.int k,.bl gd,.lst (jg++s::be)]) (by rw[gf];simp);injection e with e;injection e with e1 e;injection e with e2 e;injection e with e3 _;injection e1 with e1;injection e3 with e3;subst e1 e3;have hs:=bm s (by simp);have jf:jg.length<=120:=by rw[Xn]at hl;omega
     obtain⟨p1,p2,p3⟩:=qwg (pre:=pre) (a:=.int k) (b:=.bl gd) (st:=jg);rw[<-hn]at p1 p2 p3;have l1:kX (.lst iz)=some (.int iz.length):=rfl;have ez:fEq (.int iz.length) (.int 0)=some (.bl false):=by rw[JY,hn];simp;omega
     unfold vk4;simp![];refine(qx6 h.kl hs).use ?_;intro _ _;simp![l1,ez];refine wj2 rfl rfl p1 p2 (by omega) ?_;simp![];refine(qzs h3 h.kl hs).use ?_;intro _ _;refine⟨hs.pure,_,_,_,congrArg (λx=>[_,some (Own.dp,x),_]) (p3 _),.inr ⟨pre,k,gd,jg++[s],be,post,rfl,by rw[gf,Xk];rfl,rfl⟩⟩
  with_unfolding_all exact main
 ·rintro E ⟨l2,o0,iz,rfl,hc⟩;have e:iz=rs:=by
   rcases hc with⟨hn,hd⟩|⟨pre,k,gd,jg,be,post,hn,gf,hd⟩
   ·have:=h.r1;cases rs with
    |nil=>simp at this
    |cons r post=>cases hd
   ·cases be with
    |nil=>
     cases post with
     |nil=>rw[hn,gf,Xv]
     |cons r post=>cases hd
    |cons s be=>cases hd
  subst e;simp![];exact⟨(),trivial⟩
def wq9:D->D
 |.str z=>sL (Txt.split z ⟨#[32]⟩)
 |d=>d
theorem qjt{ss:List Str}{ks:List Int}{rs:List D}(h:Mc ss ks rs):Oo YZ [(.no,.str (mtT ss rs))] (λy=>∃_:Unit,y=(.dp,qX ss rs)/\True) noX:=by
 obtain⟨m1,m2,m3⟩:=h.text;obtain⟨r6,ln2⟩:=h.lines;have lq:∀o,W9 10 (o,.str (mtT ss rs))=some (.rt,.lst (((mtS ss rs).map JB).map D.str)):=λo=>by
  rw[<-m3];exact Xf (Nat.lt_of_le_of_lt (show(mtT ss rs).length<=10000 from m2) (by decide))
 have i00:jz (.lst ((mtS ss rs).map sL)) (.int 0)=some (sL ("signs" :: ss)):=qY (by decide) rfl;have i0:jz (sL ("signs" :: ss)) (.int 0)=some (.str "signs"):=qY (by decide) rfl;have ne:fNe (.str "signs") (.str "signs")=some (.bl false):=rfl;have sl1:∀o,o≠Own.dp->fSl (o,sL ("signs" :: ss)) (some 1) none=some (.rt,sL ss):=λo ho=>by
  rw[sL,W8 ho];exact congrArg (λx=>some (Own.rt,D.lst x)) (jzf (c:=1) (by simp))
 have m5:∀o,o≠Own.dp->fSl (o,.lst ((mtS ss rs).map sL)) (some 1) none=some (.rt,.lst ((lnS rs).map sL)):=λo ho=>by
  rw[W8 ho];exact congrArg (λx=>some (Own.rt,D.lst x)) (jzf (c:=1) (by simp[mtS]))
 have bk:∀E:En,back [] [] (clr [] E)=E:=λ_=>rfl
 unfold YZ;refine kq ?_;simp![];refine vQ [] (λd y=>y.2=wq9 d) ?_;simp![lq];refine⟨λd hd=>?_,λys hy=>?_⟩
 ·obtain⟨z,hz,rfl⟩:=List.mem_map.mp hd;obtain⟨ws,hw,rfl⟩:=List.mem_map.mp hz;have hl:=(r6 ws hw).len;have e:∀o,W9 32 (o,.str (JB ws))=some (.rt,wq9 (.str (JB ws))):=λo=>Xf (Nat.lt_of_le_of_lt (show(JB ws).length<=54 from hl) (by decide))
  simp![e];exact⟨⟨_,rfl⟩,trivial⟩
 have e:(((mtS ss rs).map JB).map D.str).map wq9=(mtS ss rs).map sL:=by
  rw[Xx,Xx];refine List.map_congr_left λws hw=>?_
  show sL (Txt.split (JB ws) ⟨#[32]⟩)=_;rw[(r6 ws hw).back]
 rw[v8,J4 (h:=wq9) (λ_ _ h=>h) hy,e,bk];simp![i00,i0,ne,sl1 .no (by decide),m5 .no (by decide),vk8,vql];refine⟨wj5 (D.pures_map _ _ λ_ _=>rfl),?_⟩;simp![m5 .rt (by decide)];refine(qvk h).use ?_;intro _ _;simp![];refine⟨rfl,rfl,?_⟩;simp![];refine(qqh h).use ?_;intro _ _;simp![];exact⟨(),trivial⟩
end Nk12
namespace Nk12
open Q PySem C
theorem kz3:∀(n k:Nat) (rs:List D),k+n=rs.length->(∀j,k<=j->j<rs.length->∃a b l,rs[j]?=some (.tup [a,b,.lst l]))->∃ci,Vj n k (.lst rs)=some (.lst ci)
 | 0,_,rs,_,_=>⟨rs,rfl⟩
 | n+1,k,rs,hk,hs=>by
  have em:k<rs.length:=by omega
  obtain⟨a,b,l,hg⟩:=hs k (Xe _) em;have gw:D.at [k] (.lst rs)=some (.tup [a,b,.lst l]):=by
   show(match rs[k]? with|some d=>D.at [] d|none=>none)=_;rw[hg];rfl
  have bf:D.put (.lst []) [k,2] (.lst rs)=.lst (rs.set k (.tup [a,b,.lst []])):=by
   show(match rs[k]? with|some d=>Q.D.lst (rs.set k (D.put (.lst []) [2] d))|none=>_)=_;rw[hg];rfl
  unfold Vj;rw[gw];dsimp only;rw[bf];refine kz3 n (k+1) (rs.set k _) (by rw[Ys];omega) λj hj li=>?_
  rw[Ys]at li;obtain⟨a',b',l',e⟩:=hs j (by omega) li;exact⟨a',b',l',by rw[Xu (by omega)];exact e⟩
theorem vjv{E:En}{i r1 r2 r3:Nat}{p:List Nat}{d:D}{rs:List D}{N C:En->Prop}{R:Sd->Prop}{X:XP}(h0:E[i]?=some (some (.dp,d)))(gw:D.at p d=some (.lst rs))(h1:r1<E.length)(h2:r2<E.length)(h3:r3<E.length)(hs:∀x∈rs,∃a b l,x=.tup [a,b,.lst l])
  (h:∀ci,N (((((E.set i none).set r1 none).set r2 none).set r3 none).set i (some (.dp,D.put (.lst ci) p d)))):Po (kx2 i r1 r2 r3 p E) N C R X:=by
 obtain⟨ci,he⟩:=kz3 rs.length 0 rs (by omega) λj _ hj=>by
  obtain⟨a,b,l,e⟩:=hs rs[j] (Ye _);exact⟨a,b,l,by rw[X2 hj,e]⟩
 unfold kx2;rw[h0];dsimp only;rw[gw];dsimp only;rw[Xf ⟨h1,h2,h3⟩,he];dsimp only;rw[vj5];exact h ci
theorem Mc.flat{ss:List Str}{ks:List Int}{rs:List D}(h:Mc ss ks rs):(qX ss rs).flat 40=true:=by
 refine K4 λx hx=>?_
 simp only[Xh,Xg,or_false]at hx;rcases hx with rfl|rfl
 ·exact K4 λd hd=>by obtain⟨w,_,rfl⟩:=List.mem_map.mp hd;rfl
 ·exact K4 λd hd=>(h.rm d hd).flat (n:=31)
theorem wjp(ns:List Int)(hm:Oo Wq [(.no,iL ns),(.no,.int 5)] (λy=>∃(z:List Str×List Int×List D),y=(.no,qX z.1 z.2.2)/\Mc z.1 z.2.1 z.2.2) noX):Oo m_law [(.no,iL ns)] (λy=>y.2=.bl true) noX:=by
 unfold m_law;refine kq ?_;simp![];refine hm.use ?_;rintro ⟨ss,ks,rs⟩ h;have h:Mc ss ks rs:=h;have ne:=ZW h.flat;have ns:=ZW (d:=.str (mtT ss rs)) rfl;have i1:k5 "str" (.str (mtT ss rs))=some (.bl true):=rfl;simp![];refine(vqp h).use ?_;intro _ _;simp![];refine(vwq h).use ?_;intro o ho;subst ho;simp![];refine(vqy h).use ?_;intro _ _;simp![i1,ns,ne];refine(qjt h).use ?_;intro _ _;simp![];refine(qvj h).use ?_;intro _ _;simp![];refine vjv (p:=[1]) (rs:=rs) rfl rfl (by simp) (by simp) (by simp) (λx hx=>?_) λci=>?_
 ·obtain⟨k,gd,st,rfl,_⟩:=h.rm x hx;exact⟨_,_,st,rfl⟩
 simp![];refine wvg rfl (ds:=ss.map D.str) rfl ?_;simp![];refine(qjt h).use ?_;intro _ _;simp![];refine(qvj h).use ?_;intro _ _;simp![]
theorem wjo(ns:List Int)(ph:ns.length<=63):Oo m_law [(.no,iL ns)] (λy=>y.2=.bl true) noX:=wjp ns (qqi ns ph λc=>qzq c vxa)
theorem law_true(ns:List Int)(hl:ns.length<=63)(hb:∀i∈ns,Builtin.Int.intBits i<=1048576):∃E o,m_law [(.no,.lst (ns.map D.int))]=some (.ok E (o,.bl true)):=by
 obtain⟨E,⟨o,d⟩,h,hd⟩:=(wjo ns hl).out;have hd:d=.bl true:=hd;subst hd;exact⟨E,o,h⟩
end Nk12
namespace Nk12
open PySem L2 L3 Q
def top(i:Nat):Stmt:=PySem.Challenge.pw_freshrooms_k12_whole_machines_written.main.body.getD i (.Pass ⟨0,0,0,0⟩)
abbrev jzp:Stmt:=top 6
abbrev kk6:Stmt:=top 7
abbrev jw4:Stmt:=top 14
abbrev jxp:Stmt:=top 17
abbrev jxn:Stmt:=top 16
abbrev jzq:Stmt:=top 15
abbrev kk7:Stmt:=top 24
abbrev jxr:Stmt:=top 23
abbrev kvm:Stmt:=top 22
abbrev kk5:Stmt:=top 21
abbrev jxo:Stmt:=top 20
abbrev jqw:Stmt:=top 19
abbrev jxq:Stmt:=top 18
abbrev jwn:Stmt:=top 13
abbrev jqm:Stmt:=top 27
abbrev jxi:Stmt:=top 31
abbrev jxj:Stmt:=top 33
abbrev jxh:Stmt:=top 32
abbrev jvl:Stmt:=top 30
abbrev jvn:Stmt:=top 36
abbrev jw3:Stmt:=top 41
abbrev jxl:Stmt:=top 37
abbrev jzo:Stmt:=top 39
abbrev jxm:Stmt:=top 40
abbrev jxk:Stmt:=top 38
abbrev jwm:Stmt:=top 35
abbrev jvm:Stmt:=top 34
abbrev jvp:Stmt:=top 43
abbrev jwr:Stmt:=top 44
abbrev jwo:Stmt:=top 45
abbrev jwp:Stmt:=top 46
abbrev jwq:Stmt:=top 47
abbrev jxv:Stmt:=top 48
abbrev jxt:Stmt:=top 49
abbrev jvo:Stmt:=top 50
abbrev jxw:Stmt:=top 51
abbrev jqn:Stmt:=top 52
abbrev jxu:Stmt:=top 53
abbrev jxs:Stmt:=top 54
abbrev vqz:Stmt:=top 55
theorem kzo:FnScope ["thing"] ["thing"] (k4 jzp):=mkS
theorem qq7:FnScope ["thing"] ["thing"] (k4 kk6):=mkS
theorem kqo:FnScope ["thing","many"] ["thing","many"] (k4 jw4):=mkS
theorem kwy:FnScope ["thing"] ["thing"] (k4 jxp):=mkS
theorem kww:FnScope ["thing","texts"] ["thing","texts"] (k4 jxn):=mkS
theorem kzp:FnScope ["thing","end"] ["thing","end"] (k4 jzq):=mkS
theorem qq8:FnScope ["thing","own"] ["thing","own"] (k4 kk7):=mkS
theorem kwz:FnScope ["thing","own","many"] ["thing","own","many"] (k4 jxr):=mkS
theorem qvi:FnScope ["thing","own"] ["thing","own"] (k4 kvm):=mkS
theorem qq6:FnScope ["thing","own","signs","keepers"] ["thing","own","signs","keepers"] (k4 kk5):=mkS
theorem kwx:FnScope ["steps","own","signs","keepers"] ["steps","own","signs","keepers"] (k4 jxo):=mkS
theorem kjh:FnScope ["thing"] ["thing"] (k4 jqw):=mkS
theorem sc_are_rooms:FnScope ["thing","signs","keepers"] ["thing","signs"] (k4 jxq):=mkS
theorem kvk:FnScope ["thing"] ["thing"] (k4 jwn):=mkS
theorem jzn:FnScope ["text"] ["text"] (k4 jqm):=mkS
theorem sc_show_room:FnScope ["room","keepers"] ["room"] (k4 jxi):=mkS
theorem kws:FnScope ["fill"] ["fill"] (k4 jxj):=mkS
theorem sc_show_step:FnScope ["step","words"] ["step"] (k4 jxh):=mkS
theorem sc_show_machine:FnScope ["machine","lines","room"] ["machine"] (k4 jvl):=mkS
theorem kk3:FnScope ["words"] ["words"] (k4 jvn):=mkS
theorem kqn:FnScope ["word"] ["word"] (k4 jw3):=mkS
theorem kwu:FnScope ["words"] ["words"] (k4 jxl):=mkS
theorem kzn:FnScope ["word"] ["word"] (k4 jzo):=mkS
theorem kwv:FnScope ["word"] ["word"] (k4 jxm):=mkS
theorem kwt:FnScope ["words"] ["words"] (k4 jxk):=mkS
theorem sc_read_rooms:FnScope ["lines","rooms","words"] ["lines"] (k4 jwm):=mkS
theorem sc_read_machine:FnScope ["text","lines","machine"] ["text"] (k4 jvm):=mkS
theorem kk4:FnScope ["_law_script","_law_k"] ["_law_script","_law_k"] (k4 jvp):=mkS
theorem sc__law_mixed:FnScope ["_law_cell","_law_k","_law_number"] ["_law_cell","_law_k"] (k4 jwr):=mkS
theorem sc__law_words:FnScope ["_law_cell","_law_many","_law_letters","_law_word","_law_long","_law_at","_law_some","_law_k","_law_turn"] ["_law_cell","_law_many"] (k4 jwo):=mkS
theorem kvl:FnScope ["_law_found"] ["_law_found"] (k4 jwp):=mkS
theorem sc__law_signs:FnScope ["_law_cell","_law_some"] ["_law_cell"] (k4 jwq):=mkS
theorem kx0:FnScope ["_law_number","_law_keepers"] ["_law_number","_law_keepers"] (k4 jxv):=mkS
theorem sc__law_step:FnScope ["_law_cell","_law_signs_here","_law_here","_law_keepers","_law_m","_law_to","_law_asks","_law_fills"] ["_law_cell","_law_signs_here","_law_here","_law_keepers"] (k4 jxt):=mkS
theorem sc__law_machine:FnScope ["_law_script","_law_start","_law_head","_law_signs_here","_law_many","_law_keepers","_law_steps","_law_cell","_law_here","_law_goods"] ["_law_script","_law_start"] (k4 jvo):=mkS
theorem kx1:FnScope ["_law_machine_here"] ["_law_machine_here"] (k4 jxw):=mkS
theorem sc__law_same_step:FnScope ["_law_found","_law_due","_law_one","_law_other"] ["_law_found","_law_due"] (k4 jqn):=mkS
theorem sc__law_same:FnScope ["_law_found","_law_due","_law_one","_law_other","_law_here","_law_there"] ["_law_found","_law_due"] (k4 jxu):=mkS
theorem sc__law_text:FnScope ["_law_machine_here","_law_lines","_law_keepers","_law_good","_law_steps","_law_sign","_law_asks","_law_to","_law_fills","_law_line","_law_fill_here"] ["_law_machine_here"] (k4 jxs):=mkS
theorem sc_law:FnScope ["_law_script","_law_machine_here","_law_due","_law_handed","_law_found","_law_told","_law_keepers","_law_good","_law_steps"] ["_law_script"] (k4 vqz):=mkS
structure Txt (K:PySem.W.Frag)(mg:Str->Option Value):Prop where
 b_all:mg "all"=none
 b_bool:mg "bool"=none
 b_int:mg "int"=none
 b_isinstance:mg "isinstance"=none
 b_len:mg "len"=none
 b_list:mg "list"=none
 b_range:mg "range"=none
 b_set:mg "set"=none
 b_sorted:mg "sorted"=none
 b_str:mg "str"=none
 b_sum:mg "sum"=none
 b_tuple:mg "tuple"=none
 b_zip:mg "zip"=none
 c_LETTERS:Cst mg "LETTERS" (V.str "abcdefghijklmnopqrstuvwxyz")
 c_MOST_LETTERS:Cst mg "MOST_LETTERS" (V.int (8))
 c_MOST_SIGNS:Cst mg "MOST_SIGNS" (V.int (3))
 c_MOST_ROOMS:Cst mg "MOST_ROOMS" (V.int (12))
 c_MOST_KEEPERS:Cst mg "MOST_KEEPERS" (V.int (3))
 c_MOST_STEPS:Cst mg "MOST_STEPS" (V.int (120))
 c_FIGURES:Cst mg "FIGURES" (V.str "0123456789")
 c_MOST_FIGURES:Cst mg "MOST_FIGURES" (V.int (2))
section
variable (P:Program)(w:PySem.World)(K:PySem.W.Frag)(mg:Str->Option Value)(base:Heap)
abbrev kvg:=k7 P w K mg base 1 "is_whole" ["thing"] (spF K mg 1 VW)
abbrev kzf:=k7 P w K mg base 1 "is_sign" ["thing"] (spF K mg 1 m_is_sign)
abbrev jq5:=k7 P w K mg base 1 "is_tuple_of" ["thing","many"] (spF K mg 2 m_is_tuple_of)
abbrev kqd:=k7 P w K mg base 2 "are_signs" ["thing"] (spF K mg 1 m_are_signs)
abbrev jwc:=k7 P w K mg base 1 "is_one_of" ["thing","texts"] (spF K mg 2 KQ)
abbrev jw1:=k7 P w K mg base 2 "is_below" ["thing","end"] (spF K mg 2 KK)
abbrev kzg:=k7 P w K mg base 3 "is_fill" ["thing","own"] (spF K mg 2 jww)
abbrev kqf:=k7 P w K mg base 4 "are_fills" ["thing","own","many"] (spF K mg 3 jv5)
abbrev qkv:=k7 P w K mg base 3 "is_ask" ["thing","own"] (spF K mg 2 jzc)
abbrev kze:=k7 P w K mg base 5 "is_step" ["thing","own","signs","keepers"] (spF K mg 4 jwv)
abbrev kqc:=k7 P w K mg base 6 "are_steps" ["steps","own","signs","keepers"] (spF K mg 4 jv3)
abbrev jx2:=k7 P w K mg base 3 "is_room_frame" ["thing"] (spF K mg 1 jko)
abbrev kqe:=k7 P w K mg base 7 "are_rooms" ["thing","signs"] (spF K mg 2 jv4)
abbrev kjb:=k7 P w K mg base 8 "is_machine" ["thing"] (spF K mg 1 jqk)
abbrev jwh:=k7 P w K mg base 1 "is_number_text" ["text"] (spF K mg 1 jkf)
abbrev kq7:=k7 P w K mg base 1 "show_room" ["room"] (spF K mg 1 jv0)
abbrev kq8:=k7 P w K mg base 1 "show_fill" ["fill"] (spF K mg 1 jv1)
abbrev kq6:=k7 P w K mg base 2 "show_step" ["step"] (spF K mg 1 jqz)
abbrev jxb:=k7 P w K mg base 3 "show_machine" ["machine"] (spF K mg 1 jkt)
abbrev jxd:=k7 P w K mg base 1 "is_room_line" ["words"] (spF K mg 1 Q7)
abbrev jq4:=k7 P w K mg base 2 "read_number" ["word"] (spF K mg 1 Qq)
abbrev kqa:=k7 P w K mg base 3 "read_room" ["words"] (spF K mg 1 YQ)
abbrev kvf:=k7 P w K mg base 3 "read_ask" ["word"] (spF K mg 1 jvy)
abbrev kqb:=k7 P w K mg base 3 "read_fill" ["word"] (spF K mg 1 jv2)
abbrev kq9:=k7 P w K mg base 4 "read_step" ["words"] (spF K mg 1 WZ)
abbrev kja:=k7 P w K mg base 5 "read_rooms" ["lines"] (spF K mg 1 jqj)
abbrev jxc:=k7 P w K mg base 9 "read_machine" ["text"] (spF K mg 1 YZ)
abbrev jxf:=k7 P w K mg base 1 "_law_cell_at" ["_law_script","_law_k"] (spF K mg 2 m__law_cell_at)
abbrev jvj:=k7 P w K mg base 1 "_law_mixed" ["_law_cell","_law_k"] (spF K mg 2 m__law_mixed)
abbrev kjc:=k7 P w K mg base 2 "_law_words" ["_law_cell","_law_many"] (spF K mg 2 m__law_words)
abbrev kjd:=k7 P w K mg base 1 "_law_whole" ["_law_found"] (spF K mg 1 m__law_whole)
abbrev kje:=k7 P w K mg base 3 "_law_signs" ["_law_cell"] (spF K mg 1 Qw)
abbrev kqj:=k7 P w K mg base 1 "_law_fill" ["_law_number","_law_keepers"] (spF K mg 2 jv7)
abbrev kqh:=k7 P w K mg base 2 "_law_step" ["_law_cell","_law_signs_here","_law_here","_law_keepers"] (spF K mg 4 XZ)
abbrev jxe:=k7 P w K mg base 4 "_law_machine" ["_law_script","_law_start"] (spF K mg 2 Wq)
abbrev kqk:=k7 P w K mg base 1 "_law_copy" ["_law_machine_here"] (spF K mg 1 YX)
abbrev jwi:=k7 P w K mg base 1 "_law_same_step" ["_law_found","_law_due"] (spF K mg 2 jkg)
abbrev kqi:=k7 P w K mg base 2 "_law_same" ["_law_found","_law_due"] (spF K mg 2 XY)
abbrev kqg:=k7 P w K mg base 1 "_law_text" ["_law_machine_here"] (spF K mg 1 jv6)
end
section
variable {P:Program}{w:PySem.World}{K:PySem.W.Frag}{mg:Str->Option Value}{base:Heap}{f:Addr}{fd:FuncData}
theorem qj1(T:Txt K mg)  (F:Fun K "is_whole" "is_whole" jzp f fd):FnOk P w K mg base (CXE P w) 1 f fd ["thing"] (spF K mg 1 VW):=
 kw F kzo (kz rfl) λb8 A outer s H vs Q E hr h=>kJ rfl
  (jk (jV (J6 (j4 (vw (vv 0) T.b_isinstance T.b_int qks rfl)) (xZ (vv6 (j4 (vw (vv 0) T.b_isinstance T.b_bool kq2 rfl))))))) h
theorem qqe(T:Txt K mg)  (F:Fun K "is_sign" "is_sign" kk6 f fd):FnOk P w K mg base (CXE P w) 1 f fd ["thing"] (spF K mg 1 m_is_sign):=
 kw F qq7 (kz rfl) λb8 A outer s H vs Q E hr h=>kJ rfl
  (jJ (kY (QW.pt (vz (qJ (qz (j4 (vw (vv 0) T.b_isinstance T.b_str J3 rfl)))) (xk (qJ (kvq Ww (xv (g:=λa b=>decide (a<=b))) Ww (xv (g:=λa b=>decide (a<=b))) ki (j4 (qL (vv 0) T.b_len)) (j4 (q_C (QZ T.c_MOST_LETTERS) (λ_=>zV))) Kj))))) (jk (jV (q_C vx (λ_=>vj)))) qv) (jk (jV (JV (WK K) VQ (j4 (qM .rt 1 [] 1 ["letter"] (wv (cv 0)) (λ_ _ _ _ _=>(zK (vjb hr.units) vk7 (vv 0) (j4 (q_C (QZ T.c_LETTERS) (λ_=>QX (by decide)))) (by rfl))))) T.b_all VX)))) h
theorem kqs(T:Txt K mg)  (F:Fun K "is_tuple_of" "is_tuple_of" jw4 f fd):FnOk P w K mg base (CXE P w) 1 f fd ["thing","many"] (spF K mg 2 m_is_tuple_of):=
 kw F kqo (kz rfl) λb8 A outer s H vs Q E hr h=>kJ rfl
  (jk (jV (J6 (j4 (vw (vv 0) T.b_isinstance T.b_tuple YK rfl)) (xZ (zK (vX hr.units) vY (j4 (qL (vv 0) T.b_len)) (vv 1) (kj _)))))) h
theorem kxi(T:Txt K mg)(fg:kzf P w K mg base)(F:Fun K "are_signs" "are_signs" jxp f fd):FnOk P w K mg base (CXE P w) 2 f fd ["thing"] (spF K mg 1 m_are_signs):=
 kw F kwy (kz rfl) λb8 A outer s H vs Q E hr h=>kJ rfl
  (jJ (kY (QW.pt (vz (qJ (qz (j4 (vw (vv 0) T.b_isinstance T.b_list V2 rfl)))) (xk (qJ (kvq Ww (xv (g:=λa b=>decide (a<=b))) Ww (xv (g:=λa b=>decide (a<=b))) ki (j4 (qL (vv 0) T.b_len)) (j4 (q_C (QZ T.c_MOST_SIGNS) (λ_=>zV))) Kj))))) (jk (jV (q_C vx (λ_=>vj)))) qv) (jJ (kY (qJ (qz (j4 (JV (WK K) VQ (j4 (qM .rt 1 [] 1 ["sign"] (wv (cv 0)) (λ_ _ _ _ _=>(qC fg hr (j5 (cv 0) jv))))) T.b_all VX)))) (jk (jV (q_C vx (λ_=>vj)))) qv) (jk (jV (zK (vX hr.units) vY (vv 0) (j4 (kx5 rfl rfl (vv 0) T.b_sorted T.b_set)) (kj _)))))) h
theorem kxg(T:Txt K mg)  (F:Fun K "is_one_of" "is_one_of" jxn f fd):FnOk P w K mg base (CXE P w) 1 f fd ["thing","texts"] (spF K mg 2 KQ):=
 kw F kww (kz rfl) λb8 A outer s H vs Q E hr h=>kJ rfl
  (jk (jV (J6 (j4 (vw (vv 0) T.b_isinstance T.b_str J3 rfl)) (xZ (zK (vjb hr.units) vk7 (vv 0) (vv 1) (by rfl)))))) h
theorem qj2(T:Txt K mg)(dz:kvg P w K mg base)(F:Fun K "is_below" "is_below" jzq f fd):FnOk P w K mg base (CXE P w) 2 f fd ["thing","end"] (spF K mg 2 KK):=
 kw F kzp (kz rfl) λb8 A outer s H vs Q E hr h=>kJ rfl
  (jk (jV (J6 (j4 (qC dz hr (j5 (cv 0) jv))) (xZ (vv8 Ww (xv (g:=λa b=>decide (a<=b))) vja (xv (g:=λa b=>decide (a<b))) ki (vv 0) (vv 1)))))) h
theorem qqf(T:Txt K mg)(aw:jwc P w K mg base)(aq:jw1 P w K mg base)(F:Fun K "is_fill" "is_fill" kk7 f fd):FnOk P w K mg base (CXE P w) 3 f fd ["thing","own"] (spF K mg 2 jww):=
 kw F qq8 (kz rfl) λb8 A outer s H vs Q E hr h=>kJ rfl
  (jk (jV (vza (j4 (zK qwj qz9 (vv 0) kn (kj _))) (vza (j4 (qC aw hr (j5 (cv 0) (j5 (xV (o:=.no) (j5 kS jv)) jv)))) (xZ (qC aq hr (j5 (cv 0) (j5 (cv 1) jv)))))))) h
theorem kxk(T:Txt K mg)(ac:jq5 P w K mg base)(fe:kzg P w K mg base)(F:Fun K "are_fills" "are_fills" jxr f fd):FnOk P w K mg base (CXE P w) 4 f fd ["thing","own","many"] (spF K mg 3 jv5):=
 kw F kwz (kz rfl) λb8 A outer s H vs Q E hr h=>kJ rfl
  (jk (jV (J6 (j4 (qC ac hr (j5 (cv 0) (j5 (cv 2) jv)))) (xZ (JV (WK K) VQ (j4 (qM .rt 1 [1] 3 ["fill","own"] (wv (cv 0)) (λ_ _ _ _ _=>(qC fe hr (j5 (cv 0) (j5 (cv 1) jv)))))) T.b_all VX))))) h
theorem qwl(T:Txt K mg)(aw:jwc P w K mg base)(aq:jw1 P w K mg base)(F:Fun K "is_ask" "is_ask" kvm f fd):FnOk P w K mg base (CXE P w) 3 f fd ["thing","own"] (spF K mg 2 jzc):=
 kw F qvi (kz rfl) λb8 A outer s H vs Q E hr h=>kJ rfl
  (jk (jV (vza (j4 (qC aw hr (j5 (cv 0) (j5 (xV (o:=.no) (j5 kS (j5 kS jv))) jv)))) (xZ (qC aq hr (j5 (cv 0) (j5 (cv 1) jv))))))) h
theorem qqd(T:Txt K mg)(d7:kqf P w K mg base)(ac:jq5 P w K mg base)(aw:jwc P w K mg base)(fw:qkv P w K mg base)(aq:jw1 P w K mg base)(F:Fun K "is_step" "is_step" kk5 f fd):FnOk P w K mg base (CXE P w) 5 f fd ["thing","own","signs","keepers"] (spF K mg 4 jwv):=
 kw F qq6 (kz rfl) λb8 A outer s H vs Q E hr h=>kJ rfl
  (jJ (kY (qJ (qz (j4 (qC ac hr (j5 (cv 0) (j5 kI jv)))))) (jk (jV (q_C vx (λ_=>vj)))) qv) (jJ (kY (QW.pt (vz (qJ (qz (j4 (qC aw hr (j5 (k6 (kx (vv 0) ki)) (j5 (cv 2) jv)))))) (vz (qJ (qz (j4 (qC fw hr (j5 (k6 (kx (vv 0) ki)) (j5 (cv 1) jv)))))) (xk (qJ (qz (j4 (qC aq hr (j5 (k6 (kx (vv 0) ki)) (j5 (qL (vv 3) T.b_len) jv)))))))))) (jk (jV (q_C vx (λ_=>vj)))) qv) (jk (jV (qC d7 hr (j5 (k6 (kx (vv 0) ki)) (j5 (cv 1) (j5 (k6 (kx (vv 3) (kx (vv 0) ki))) jv)))))))) h
theorem kxh(T:Txt K mg)(fh:kze P w K mg base)(F:Fun K "are_steps" "are_steps" jxo f fd):FnOk P w K mg base (CXE P w) 6 f fd ["steps","own","signs","keepers"] (spF K mg 4 jv3):=
 kw F kwx (kz rfl) λb8 A outer s H vs Q E hr h=>kJ rfl
  (jk (jV (JV (WK K) VQ (j4 (qM .rt 1 [1,2,3] 4 ["step","own","signs","keepers"] (wv (cv 0)) (λ_ _ _ _ _=>(qC fh hr (j5 (cv 0) (j5 (cv 1) (j5 (cv 2) (j5 (cv 3) jv)))))))) T.b_all VX))) h
theorem kjl(T:Txt K mg)(ac:jq5 P w K mg base)(aq:jw1 P w K mg base)(F:Fun K "is_room_frame" "is_room_frame" jqw f fd):FnOk P w K mg base (CXE P w) 3 f fd ["thing"] (spF K mg 1 jko):=
 kw F kjh (kz rfl) λb8 A outer s H vs Q E hr h=>kJ rfl
  (jJ (kY (qJ (qz (j4 (qC ac hr (j5 (cv 0) (j5 kI jv)))))) (jk (jV (q_C vx (λ_=>vj)))) qv) (jk (jV (J6 (j4 (qC aq hr (j5 (k6 (kx (vv 0) ki)) (j5 (oA (j4 (q_C (QZ T.c_MOST_KEEPERS) (λ_=>zV))) ki) jv)))) (J6 (j4 (vw (kx (vv 0) ki) T.b_isinstance T.b_bool kq2 rfl)) (xZ (vw (kx (vv 0) ki) T.b_isinstance T.b_list V2 rfl))))))) h
theorem kxj(T:Txt K mg)(dh:kqc P w K mg base)(bi:jx2 P w K mg base)(F:Fun K "are_rooms" "are_rooms" jxq f fd):FnOk P w K mg base (CXE P w) 7 f fd ["thing","signs"] (spF K mg 2 jv4):=
 kw F sc_are_rooms (kz rfl) λb8 A outer s H vs Q E hr h=>have nd:=sc_are_rooms.nd;kJ rfl
  (jJ (kY (QW.pt (vz (qJ (qz (j4 (vw (vv 0) T.b_isinstance T.b_list V2 rfl)))) (xk (qJ (kvq Ww (xv (g:=λa b=>decide (a<=b))) Ww (xv (g:=λa b=>decide (a<=b))) ki (j4 (qL (vv 0) T.b_len)) (j4 (q_C (QZ T.c_MOST_ROOMS) (λ_=>zV))) Kj))))) (jk (jV (q_C vx (λ_=>vj)))) qv) (jJ (kY (qJ (qz (j4 (JV (WK K) VQ (j4 (qM .rt 1 [] 3 ["room"] (wv (cv 0)) (λ_ _ _ _ _=>(qC bi hr (j5 (cv 0) jv))))) T.b_all VX)))) (jk (jV (q_C vx (λ_=>vj)))) qv) (jJ (kY (qj vvt (xv (g:=λa b=>decide (b<a))) (j4 (JV (vwu K) wkv (j4 (qM .rt 1 [] 3 ["room"] (wv (cv 0)) (λ_ _ _ _ _=>(qL (kx (vv 0) ki) T.b_len)))) T.b_sum wkq)) (j4 (q_C (QZ T.c_MOST_STEPS) (λ_=>zV))) (kj _) Kj) (jk (jV (q_C vx (λ_=>vj)))) qv) (jJ (qA nd (qM .rt 1 [] 3 ["room"] (wv (cv 0)) (λ_ _ _ _ _=>(k6 (kx (vv 0) ki))))) (jk (jV (JV (WK K) VQ (j4 (qM .rt 1 [1,2] 3 ["room","signs","keepers"] (wv (cv 0)) (λ_ _ _ _ _=>(qC dh hr (j5 (k6 (kx (vv 0) ki)) (j5 (k6 (kx (vv 0) ki)) (j5 (cv 1) (j5 (cv 2) jv)))))))) T.b_all VX))))))) h
theorem kvv(T:Txt K mg)(ac:jq5 P w K mg base)(dl:kqd P w K mg base)(cy:kqe P w K mg base)(F:Fun K "is_machine" "is_machine" jwn f fd):FnOk P w K mg base (CXE P w) 8 f fd ["thing"] (spF K mg 1 jqk):=
 kw F kvk (kz rfl) λb8 A outer s H vs Q E hr h=>kJ rfl
  (jk (jV (J6 (j4 (qC ac hr (j5 (cv 0) (j5 kI jv)))) (J6 (j4 (qC dl hr (j5 (k6 (kx (vv 0) ki)) jv))) (xZ (qC cy hr (j5 (k6 (kx (vv 0) ki)) (j5 (k6 (kx (vv 0) ki)) jv)))))))) h
theorem jzt(T:Txt K mg)  (F:Fun K "is_number_text" "is_number_text" jqm f fd):FnOk P w K mg base (CXE P w) 1 f fd ["text"] (spF K mg 1 jkf):=
 kw F jzn (kz rfl) λb8 A outer s H vs Q E hr h=>kJ rfl
  (jJ (kY (QW.pt (vz (qj (vX hr.units) vY (vv 0) ks (kj _) xQ) (xk (qJ (qz (j4 (JV (WK K) VQ (j4 (qM .rt 1 [] 1 ["figure"] (wv (cv 0)) (λ_ _ _ _ _=>(zK (vjb hr.units) vk7 (vv 0) (j4 (q_C (QZ T.c_FIGURES) (λ_=>QX (by decide)))) (by rfl))))) T.b_all VX))))))) (jk (jV (q_C vx (λ_=>vj)))) qv) (jk (jV (vza (j4 (zK (vX hr.units) vY (vv 0) ks (kj _))) (xZ (vv6 (j4 (qzx (vv 0))))))))) h
theorem kxb(T:Txt K mg)  (F:Fun K "show_room" "show_room" jxi f fd):FnOk P w K mg base (CXE P w) 1 f fd ["room"] (spF K mg 1 jv0):=
 kw F sc_show_room (kz rfl) λb8 A outer s H vs Q E hr h=>have nd:=sc_show_room.nd;kJ rfl
  (jJ (qA nd (k6 (kx (vv 0) ki))) (jk (jV (vj0 (qz (kx (vv 0) ki)) (q_fm (pre:="room ") (post:=" good") (by decide) (vv 1)) (wv6 (pre:="room ") (by decide) (vv 1)))))) h
theorem kxc(T:Txt K mg)  (F:Fun K "show_fill" "show_fill" jxj f fd):FnOk P w K mg base (CXE P w) 1 f fd ["fill"] (spF K mg 1 jv1):=
 kw F kws (kz rfl) λb8 A outer s H vs Q E hr h=>kJ rfl
  (jk (jV (vj0 (qj qwj qz9 (vv 0) kn (kj _) vqa) kS (zk VY Vk (vv 0) T.b_str J3)))) h
theorem kxa(T:Txt K mg)(cm:kq8 P w K mg base)(F:Fun K "show_step" "show_step" jxh f fd):FnOk P w K mg base (CXE P w) 2 f fd ["step"] (spF K mg 1 jqz):=
 kw F sc_show_step (kz rfl) λb8 A outer s H vs Q E hr h=>have nd:=sc_show_step.nd;kJ rfl
  (jJ (qA nd (xx (o:=.rt) (j5 (k6 (kx (vv 0) ki)) (j5 (zk VY Vk (kx (vv 0) ki) T.b_str J3) (j5 (zk VY Vk (kx (vv 0) ki) T.b_str J3) jv))))) (jk (jV (Zz zJ (j4 (oA (vv 1) (j4 (qM .rt 1 [] 2 ["fill"] (wv (k6 (kx (vv 0) ki))) (λ_ _ _ _ _=>(qC cm hr (j5 (cv 0) jv))))))))))) h
theorem kkd(T:Txt K mg)(cu:kq7 P w K mg base)(cn:kq6 P w K mg base)(F:Fun K "show_machine" "show_machine" jvl f fd):FnOk P w K mg base (CXE P w) 3 f fd ["machine"] (spF K mg 1 jkt):=
 kw F sc_show_machine (kz rfl) λb8 A outer s H vs Q E hr h=>have nd:=sc_show_machine.nd;kJ rfl
  (jJ (qA nd (xx (o:=.rt) (j5 (Zz zJ (j4 (oA (j4 (xx (o:=.rt) (j5 kS jv))) (kx (vv 0) ki)))) jv))) (jJ (qF (wv (k6 (kx (vv 0) ki))) (gN nd) (jJ (qP (qC cu hr (j5 (cv 2) jv))) (jk (wv7 (i:=1) (qM .rt 1 [] 3 ["step"] (wv (k6 (kx (vv 2) ki))) (λ_ _ _ _ _=>(qC cn hr (j5 (cv 0) jv)))))))) (jk (jV (Zz zJ (vv 1)))))) h
theorem kkf(T:Txt K mg)  (F:Fun K "is_room_line" "is_room_line" jvn f fd):FnOk P w K mg base (CXE P w) 1 f fd ["words"] (spF K mg 1 Q7):=
 kw F kk3 (kz rfl) λb8 A outer s H vs Q E hr h=>kJ rfl
  (jk (jV (J6 (j4 (zK (vX hr.units) vY (kx (vv 0) ki) ks (kj _))) (xZ (vza (j4 (zK (vX hr.units) vY (j4 (qL (vv 0) T.b_len)) ki (kj _))) (xZ (zK (vX hr.units) vY (j4 (QK (vv 0) (JK ki) Zx)) (j4 (xx (o:=.rt) (j5 kS jv))) (kj _)))))))) h
theorem kqr(T:Txt K mg)(bd:jwh P w K mg base)(F:Fun K "read_number" "read_number" jw3 f fd):FnOk P w K mg base (CXE P w) 2 f fd ["word"] (spF K mg 1 Qq):=
 kw F kqn (kz rfl) λb8 A outer s H vs Q E hr h=>kJ rfl
  (jJ (kY (QW.pt (vz (qJ (qz (j4 (qC bd hr (j5 (cv 0) jv))))) (xk (qj vvt (xv (g:=λa b=>decide (b<a))) (j4 (qL (vv 0) T.b_len)) (j4 (q_C (QZ T.c_MOST_FIGURES) (λ_=>zV))) (kj _) Kj)))) (jk kx6) qv) (jk (jV (zk kz8 vqe (vv 0) T.b_int qks)))) h
theorem kxe(T:Txt K mg)(ae:jq4 P w K mg base)(F:Fun K "read_room" "read_room" jxl f fd):FnOk P w K mg base (CXE P w) 3 f fd ["words"] (spF K mg 1 YQ):=
 kw F kwu (kz rfl) λb8 A outer s H vs Q E hr h=>kJ rfl
  (jk (jV (xV (o:=.dp) (q:=false) (j5 (QE.weak (qzy (qC ae hr (j5 (k6 (kx (vv 0) ki)) jv)))) (j5 (QE.weak (zK (vX hr.units) vY (j4 (qL (vv 0) T.b_len)) ki (kj _))) (j5 (QE.weak (qzy (xx (o:=.rt) jv))) vzh)))))) h
theorem qj0(T:Txt K mg)(ae:jq4 P w K mg base)(F:Fun K "read_ask" "read_ask" jzo f fd):FnOk P w K mg base (CXE P w) 3 f fd ["word"] (spF K mg 1 jvy):=
 kw F kzn (kz rfl) λb8 A outer s H vs Q E hr h=>kJ rfl
  (jk (jV (vj0 (qj (vjb hr.units) vk7 (vv 0) (j4 (xV (o:=.no) (j5 kS (j5 kS jv)))) (by rfl) wwb) (cv 0) (qC ae hr (j5 (cv 0) jv))))) h
theorem kxf(T:Txt K mg)(ae:jq4 P w K mg base)(F:Fun K "read_fill" "read_fill" jxm f fd):FnOk P w K mg base (CXE P w) 3 f fd ["word"] (spF K mg 1 jv2):=
 kw F kwv (kz rfl) λb8 A outer s H vs Q E hr h=>kJ rfl
  (jJ (kY (qj (vX hr.units) vY (vv 0) ks (kj _) xQ) (jk (jV kN)) qv) (jk (jV (vj0 (qj (vX hr.units) vY (vv 0) ks (kj _) xQ) (cv 0) (qC ae hr (j5 (cv 0) jv)))))) h
theorem kxd(T:Txt K mg)(dy:kvf P w K mg base)(ae:jq4 P w K mg base)(dq:kqb P w K mg base)(F:Fun K "read_step" "read_step" jxk f fd):FnOk P w K mg base (CXE P w) 4 f fd ["words"] (spF K mg 1 WZ):=
 kw F kwt (kz rfl) λb8 A outer s H vs Q E hr h=>kJ rfl
  (jJ (kY (qj vja (xv (g:=λa b=>decide (a<b))) (j4 (qL (vv 0) T.b_len)) ki (kj _) Kj) (jk kx6) qv) (jk (jV (xV (o:=.no) (j5 (k6 (kx (vv 0) ki)) (j5 (qC dy hr (j5 (k6 (kx (vv 0) ki)) jv)) (j5 (qC ae hr (j5 (k6 (kx (vv 0) ki)) jv)) (j5 (qT (j4 (qM .rt 1 [] 1 ["word"] (wv (QK (vv 0) (JK ki) Zx)) (λ_ _ _ _ _=>(qC dq hr (j5 (cv 0) jv))))) T.b_tuple) jv)))))))) h
theorem kvu(T:Txt K mg)(bp:jxd P w K mg base)(cz:kqa P w K mg base)(dg:kq9 P w K mg base)(F:Fun K "read_rooms" "read_rooms" jwm f fd):FnOk P w K mg base (CXE P w) 5 f fd ["lines"] (spF K mg 1 jqj):=
 kw F sc_read_rooms (kz rfl) λb8 A outer s H vs Q E hr h=>have nd:=sc_read_rooms.nd;kJ rfl
  (jJ (qA nd (xx (o:=.dp) jv)) (jJ (qF (wv (cv 0)) (gN nd) (jk (kY (qz (j4 (qC bp hr (j5 (cv 2) jv)))) (jk (qP (qC cz hr (j5 (cv 2) jv)))) (jk (kY (qj (vX hr.units) vY (j4 (qL (vv 1) T.b_len)) ki (kj _) xQ) (jk kx6) (jk (wv2 (i:=1) (ps:=[.inl (-1),.inl 2]) (pz_c (pz_n (vzi K (pv 1)) (λ_ _=>rfl)) (λ_ _=>rfl)) (qC dg hr (j5 (cv 2) jv)) rfl jzb))))))) (jk (jV (wv3 (pv 1)))))) h
theorem kke(T:Txt K mg)(ca:kja P w K mg base)(ce:kjb P w K mg base)(F:Fun K "read_machine" "read_machine" jvm f fd):FnOk P w K mg base (CXE P w) 9 f fd ["text"] (spF K mg 1 YZ):=
 kw F sc_read_machine (kz rfl) λb8 A outer s H vs Q E hr h=>have nd:=sc_read_machine.nd;kJ rfl
  (jJ (vv5 (i:=1) (o:=.rt) (k:=1) (R:=[]) ["line"] nd rfl (by first|exact Or.inl rfl|exact Or.inr rfl) (wv (qw1 (c:=10) (by decide +kernel) (vv 0))) (λ_ _ _ _ _=>(wv4 (W7 (i:=0) (show(["line"]:List Str).Nodup by decide +kernel) rfl (by first|exact Or.inl rfl|exact Or.inr rfl)))) (λ_ _ _ _ _=>vv4) (λ_ _ _ _ _=>(qw1 (c:=32) (by decide +kernel) (vv 0))) Zk ⟨_,_,rfl,rfl⟩ (by decide) (show ∀j∈([]:List Nat) ,j<3 by decide)) (jJ (kY (qj (zZ hr.units) zq (kx (kx (vv 1) ki) ki) ks (kj _) zx) (jk kx6) qv) (jJ (qA nd (xV (o:=.dp) (q:=false) (j5 (QE.weak (qzy (QK (kx (vv 1) ki) (JK ki) Zx))) (j5 (QE.weak (qzy (qC ca hr (j5 (QK (vv 1) (JK ki) Zx) jv)))) vzh)))) (jJ (kY (qJ (qz (j4 (qw3 ce (hr.mono (by decide)) Zk (vv9 (vv 2) vzf))))) (jk kx6) qv) (jk (jV (wv3 (pv 2)))))))) h
theorem kkh(T:Txt K mg)  (F:Fun K "_law_cell_at" "_law_cell_at" jvp f fd):FnOk P w K mg base (CXE P w) 1 f fd ["_law_script","_law_k"] (spF K mg 2 m__law_cell_at):=
 kw F kk4 (kz rfl) λb8 A outer s H vs Q E hr h=>kJ rfl
  (jJ (kY (qj vja (xv (g:=λa b=>decide (a<b))) (vv 1) (j4 (qL (vv 0) T.b_len)) (kj _) Kj) (jk (jV (k6 (kx (vv 0) (vv 1))))) qv) (jk (jV kI))) h
theorem kvz(T:Txt K mg)  (F:Fun K "_law_mixed" "_law_mixed" jwr f fd):FnOk P w K mg base (CXE P w) 1 f fd ["_law_cell","_law_k"] (spF K mg 2 m__law_mixed):=
 kw F sc__law_mixed (kz rfl) λb8 A outer s H vs Q E hr h=>have nd:=sc__law_mixed.nd;kJ rfl
  (jJ (kY (qj (vX hr.units) vY (j4 (oM (vv 0) ki)) ki (kj _) xQ) (jk (jV (vW wZ wX (vv 0) (j4 (vW wj7 wkw ki (j4 (oX ki (vv 1)))))))) qv) (jJ (qA nd (oM (j4 (oX (j4 (oA (j4 (oA (j4 (oM (vv 0) ki)) (j4 (oX ki (vv 1))))) ki)) ki)) ki)) (jJ (qA nd (oM (j4 (oX (vv 2) (vv 2))) ki)) (jk (jV (oM (j4 (oA (j4 (oX (vv 2) (vv 2))) (j4 (oX ki (vv 1))))) ki)))))) h
theorem kvw(T:Txt K mg)(ag:jvj P w K mg base)(F:Fun K "_law_words" "_law_words" jwo f fd):FnOk P w K mg base (CXE P w) 2 f fd ["_law_cell","_law_many"] (spF K mg 2 m__law_words):=
 kw F sc__law_words (kz rfl) λb8 A outer s H vs Q E hr h=>have nd:=sc__law_words.nd;kJ rfl
  (jJ (qA nd kS) (jJ (qA nd (Zz zJ (j4 (qM .rt 1 [2,0] 9 ["_law_j","_law_letters","_law_cell"] (Kz ki rfl T.b_range) (λ_ _ _ _ _=>(k6 (kx (vv 1) (j4 (oM (j4 (qC ag hr (j5 (cv 2) (j5 (cv 0) jv)))) ki))))))))) (jJ (kY (qj (vX hr.units) vY (j4 (oM (vv 0) ki)) ki (kj _) xQ) (jk (jV (qM .rt 1 [3,0] 9 ["_law_k","_law_word","_law_cell"] (Kz (vv 1) rfl T.b_range) (λ_ _ _ _ _=>(QK (vv 1) Zx (JK (j4 (oA ki (j4 (oM (j4 (oA (vv 0) (j4 (vW wZ wX (vv 2) ki)))) ki)))))))))) qv) (jJ (qA nd (oA ki (j4 (oM (j4 (vW wZ wX (vv 0) ki)) ki)))) (jJ (qA nd (oM (j4 (vW wZ wX (vv 0) ki)) (vv 4))) (jJ (qA nd (xx (o:=.rt) jv)) (jJ (qF (Kz (vv 1) rfl T.b_range) (gN nd) (jJ (qA nd (oM (j4 (oA (j4 (vzb (vv 2) (kx (vv 3) (vv 5)))) (j4 (oX (vv 7) (j4 (oA ki (j4 (oM (j4 (vW wZ wX (vv 0) ki)) ki)))))))) ki)) (jk (qP (oA (j4 (oA (j4 (QK (vv 3) Zx (JK (vv 5)))) (kx (vv 2) (vv 8)))) (j4 (QK (vv 3) (JK (j4 (oA (vv 5) ki))) (JK (vv 4))))))))) (jk (jV (wv3 (pv 6))))))))))) h
theorem kvx(T:Txt K mg)  (F:Fun K "_law_whole" "_law_whole" jwp f fd):FnOk P w K mg base (CXE P w) 1 f fd ["_law_found"] (spF K mg 1 m__law_whole):=
 kw F kvl (kz rfl) λb8 A outer s H vs Q E hr h=>kJ rfl
  (jk (jV (J6 (j4 (vw (vv 0) T.b_isinstance T.b_int qks rfl)) (xZ (vv6 (j4 (vw (vv 0) T.b_isinstance T.b_bool kq2 rfl))))))) h
theorem kvy(T:Txt K mg)(c8:kjc P w K mg base)(F:Fun K "_law_signs" "_law_signs" jwq f fd):FnOk P w K mg base (CXE P w) 3 f fd ["_law_cell"] (spF K mg 1 Qw):=
 kw F sc__law_signs (kz rfl) λb8 A outer s H vs Q E hr h=>have nd:=sc__law_signs.nd;kJ rfl
  (jJ (kY (qj (vX hr.units) vY (j4 (oM (vv 0) ki)) ki (kj _) xQ) (jJ (qA nd (xx (o:=.rt) (j5 kS (j5 kS (j5 kS (j5 kS (j5 kS (j5 kS (j5 kS jv))))))))) (jk (jV (kx5 rfl rfl (j4 (xx (o:=.rt) (j5 (k6 (kx (vv 1) (j4 (oM (j4 (vW wZ wX (vv 0) ki)) ki)))) (j5 (k6 (kx (vv 1) (j4 (oM (j4 (vW wZ wX (vv 0) ki)) ki)))) (j5 (k6 (kx (vv 1) (j4 (oM (j4 (vW wZ wX (vv 0) ki)) ki)))) jv))))) T.b_sorted T.b_set)))) qv) (jk (jV (JV (qj9 rfl) qz7 (j4 (qC c8 hr (j5 (vW wZ wX (vv 0) ki) (j5 (oA ki (j4 (oM (j4 (vW wZ wX (vv 0) ki)) ki))) jv)))) T.b_sorted qxz)))) h
theorem kxo(T:Txt K mg)  (F:Fun K "_law_fill" "_law_fill" jxv f fd):FnOk P w K mg base (CXE P w) 1 f fd ["_law_number","_law_keepers"] (spF K mg 2 jv7):=
 kw F kx0 (kz rfl) λb8 A outer s H vs Q E hr h=>kJ rfl
  (jJ (kY (QW.pt (vz (qj (vX hr.units) vY (j4 (oM (vv 0) ki)) ki (kj _) xQ) (xk (QW.pt (qw0 (qj (vX hr.units) vY (j4 (oM (vv 0) ki)) ki (kj _) xQ) (kzu (qj (vX hr.units) vY (vv 1) ki (kj _) xQ))))))) (jk (jV kN)) qv) (jJ (kY (QW.pt (qw0 (qj vja (xv (g:=λa b=>decide (a<b))) (j4 (oM (vv 0) ki)) ki (kj _) Kj) (kzu (qj vvt (xv (g:=λa b=>decide (b<a))) (vv 1) ki (kj _) Kj)))) (jk (jV (oM (j4 (vW wZ wX (vv 0) ki)) (vv 1)))) qv) (jk (jV kS)))) h
theorem kxm(T:Txt K mg)(ag:jvj P w K mg base)(cw:kqj P w K mg base)(F:Fun K "_law_step" "_law_step" jxt f fd):FnOk P w K mg base (CXE P w) 2 f fd ["_law_cell","_law_signs_here","_law_here","_law_keepers"] (spF K mg 4 XZ):=
 kw F sc__law_step (kz rfl) λb8 A outer s H vs Q E hr h=>have nd:=sc__law_step.nd;kJ rfl
  (jJ (qA nd (qC ag hr (j5 (cv 0) (j5 kI jv)))) (jJ (qA nd (oM (j4 (vW wZ wX (vv 4) ki)) (j4 (qL (vv 3) T.b_len)))) (jJ (qA nd (k6 (kx (j4 (oA (j4 (xx (o:=.rt) (j5 kS (j5 kS (j5 kS jv))))) (j4 (qM .rt 1 [] 8 ["_law_k"] (Kz (kx (vv 3) (vv 2)) rfl T.b_range) (λ_ _ _ _ _=>(cv 0)))))) (j4 (oM (j4 (vW wZ wX (vv 4) ki)) (j4 (oA ki (kx (vv 3) (vv 2))))))))) (jJ (qA nd (qT (j4 (qM .rt 1 [4,3,2] 8 ["_law_k","_law_m","_law_keepers","_law_here"] (Kz (kx (vv 3) (vv 5)) rfl T.b_range) (λ_ _ _ _ _=>(qC cw hr (j5 (vW wZ wX (vv 1) (kx (j4 (xx (o:=.rt) (j5 kI (j5 kI (j5 kI jv))))) (vv 0))) (j5 (k6 (kx (vv 2) (vv 3))) jv)))))) T.b_tuple)) (jk (jV (xV (o:=.no) (j5 (k6 (kx (vv 1) (j4 (oM (vv 4) (j4 (qL (vv 1) T.b_len)))))) (j5 (cv 6) (j5 (cv 5) (j5 (cv 7) jv))))))))))) h
theorem kkg(T:Txt K mg)(ag:jvj P w K mg base)(bz:kje P w K mg base)(ay:jxf P w K mg base)(d8:kqh P w K mg base)(F:Fun K "_law_machine" "_law_machine" jvo f fd):FnOk P w K mg base (CXE P w) 4 f fd ["_law_script","_law_start"] (spF K mg 2 Wq):=
 kw F sc__law_machine (kz rfl) λb8 A outer s H vs Q E hr h=>have nd:=sc__law_machine.nd;kJ rfl
  (jJ (qA nd (qC ag hr (j5 (qC ay hr (j5 (cv 0) (j5 kI jv))) (j5 kI jv)))) (jJ (qA nd (qC bz hr (j5 (qC ay hr (j5 (cv 0) (j5 kI jv))) jv))) (jJ (qA nd (oA ki (j4 (oM (vv 2) ki)))) (jJ (kY (qj (vX hr.units) vY (j4 (oM (j4 (vW wZ wX (vv 2) ki)) ki)) ki (kj _) xQ) (jk (qA nd (oA ki (j4 (oM (j4 (vW wZ wX (vv 2) ki)) ki))))) qv) (jJ (qA nd (qM .rt 1 [0] 10 ["_law_k","_law_script"] (Kz (vv 4) rfl T.b_range) (λ_ _ _ _ _=>(oM (j4 (qC ag hr (j5 (qC ay hr (j5 (cv 1) (j5 kI jv))) (j5 (cv 0) jv)))) ki)))) (jJ (qA nd (qM .dp 1 [] 10 ["_law_k"] (Kz (vv 4) rfl T.b_range) (λ_ _ _ _ _=>(xx (o:=.dp) jv)))) (jJ (qF (wv (QK (vv 0) (JK (vv 1)) (JK (j4 (oA (vv 1) ki))))) (gN nd) (jJ (qA nd (oM (j4 (qC ag hr (j5 (cv 7) (j5 kI jv)))) (vv 4))) (jJ (vkk (i:=6) (vv 8) (qC d8 hr (j5 (cv 7) (j5 (cv 3) (j5 (cv 8) (j5 (cv 5) jv))))) (pv 6) (λ_ _=>rfl) rfl jzb) (jk (kY (QW.pt (qw0 (qj (vX hr.units) vY (j4 (oM (j4 (vW wZ wX (vv 2) ki)) ki)) ki (kj _) xQ) (kzu (qj (vX hr.units) vY (j4 (oM (vv 7) ki)) ki (kj _) xQ)))) (jk (vkk (i:=6) (vv 8) (k6 (kx (kx (vv 6) (vv 8)) ki)) (pv 6) (λ_ _=>rfl) rfl jzb)) qv))))) (jJ (qA nd (qM .rt 1 [0] 10 ["_law_k","_law_script"] (Kz (vv 4) rfl T.b_range) (λ_ _ _ _ _=>(zK (vX hr.units) vY (j4 (oM (j4 (qC ag hr (j5 (qC ay hr (j5 (cv 1) (j5 kI jv))) (j5 (cv 0) jv)))) ki)) ki (kj _))))) (jk (q_fz (i:=6) (jV (xV (o:=.no) (j5 (cv 3) (j5 (qM .rt 1 [5,9,6] 10 ["_law_k","_law_keepers","_law_goods","_law_steps"] (Kz (vv 4) rfl T.b_range) (λ_ _ _ _ _=>(xV (o:=.no) (j5 (k6 (kx (vv 1) (vv 0))) (j5 (k6 (kx (vv 2) (vv 0))) (j5 (k6 (kx (vv 3) (vv 0))) jv)))))) jv)))))))))))))) h
theorem kxp(T:Txt K mg)  (F:Fun K "_law_copy" "_law_copy" jxw f fd):FnOk P w K mg base (CXE P w) 1 f fd ["_law_machine_here"] (spF K mg 1 YX):=
 kw F kx1 (kz rfl) λb8 A outer s H vs Q E hr h=>kJ rfl
  (jk (jV (xV (o:=.no) (j5 (zk (qkr K) qz8 (kx (vv 0) ki) T.b_list V2) (j5 (qm .rt 3 [] 1 ["_law_keepers","_law_good","_law_steps"] (wv (k6 (kx (vv 0) ki))) (λhN _ _ _ _ _=>(YW (is:=[0,1,2]) (Vv K (t:=gNs [0,1,2]) (n:=3) (wK (W7 (i:=0) hN rfl (by first|exact Or.inl rfl|exact Or.inr rfl)) (wK (W7 (i:=1) hN rfl (by first|exact Or.inl rfl|exact Or.inr rfl)) (wK (W7 (i:=2) hN rfl (by first|exact Or.inl rfl|exact Or.inr rfl)) V8)))))) (λ_ _ _ _ _=>vv4) (λ_ _ _ _ _=>(xV (o:=.no) (j5 (cv 0) (j5 (cv 1) (j5 (zk (qkr K) qz8 (vv 2) T.b_list V2) jv)))))) jv))))) h
theorem jzu(T:Txt K mg)  (F:Fun K "_law_same_step" "_law_same_step" jqn f fd):FnOk P w K mg base (CXE P w) 1 f fd ["_law_found","_law_due"] (spF K mg 2 jkg):=
 kw F sc__law_same_step (kz rfl) λb8 A outer s H vs Q E hr h=>have nd:=sc__law_same_step.nd;kJ rfl
  (jJ (kY (QW.pt (vz (qJ (qz (j4 (vw (vv 0) T.b_isinstance T.b_tuple YK rfl)))) (vz (qj (zZ hr.units) zq (vv 0) (vv 1) (kj _) zx) (xk (qJ (qz (j4 (vw (kx (vv 0) ki) T.b_isinstance T.b_tuple YK rfl)))))))) (jk (jV (q_C vx (λ_=>vj)))) qv) (jJ (qF (qzz (oA (j4 (xV (o:=.no) (j5 (k6 (kx (vv 0) ki)) (j5 (k6 (kx (vv 0) ki)) jv)))) (kx (vv 0) ki)) (oA (j4 (xV (o:=.no) (j5 (k6 (kx (vv 1) ki)) (j5 (k6 (kx (vv 1) ki)) jv)))) (kx (vv 1) ki)) rfl T.b_zip) (YW (is:=[2,3]) (Vv K (t:=gNs [2,3]) (n:=2) (wK (gn nd) (wK (gn nd) V8)))) (jk (kY (QW.pt (vz (qz (j4 (vw (vv 2) T.b_isinstance T.b_bool kq2 rfl))) (xk (qj (zZ hr.units) zq (j4 (vw (vv 2) T.b_isinstance T.b_str J3 rfl)) (j4 (vw (vv 3) T.b_isinstance T.b_str J3 rfl)) (kj _) zx)))) (jk (jV (q_C vx (λ_=>vj)))) qv))) (jk (jV (q_C vx (λ_=>vj)))))) h
theorem kxn(T:Txt K mg)(c9:kjd P w K mg base)(bc:jwi P w K mg base)(F:Fun K "_law_same" "_law_same" jxu f fd):FnOk P w K mg base (CXE P w) 2 f fd ["_law_found","_law_due"] (spF K mg 2 XY):=
 kw F sc__law_same (kz rfl) λb8 A outer s H vs Q E hr h=>have nd:=sc__law_same.nd;kJ rfl
  (jJ (kY (QW.pt (vz (qJ (qz (j4 (vw (vv 0) T.b_isinstance T.b_tuple YK rfl)))) (vz (qj (zZ hr.units) zq (j4 (qL (vv 0) T.b_len)) ki (kj _) zx) (vz (qJ (qz (j4 (vw (kx (vv 0) ki) T.b_isinstance T.b_list V2 rfl)))) (xk (qj (zZ hr.units) zq (kx (vv 0) ki) (kx (vv 1) ki) (kj _) zx)))))) (jk (jV (q_C vx (λ_=>vj)))) qv) (jJ (kY (QW.pt (vz (qJ (qz (j4 (vw (kx (vv 0) ki) T.b_isinstance T.b_list V2 rfl)))) (xk (qj (zZ hr.units) zq (j4 (qL (kx (vv 0) ki) T.b_len)) (j4 (qL (kx (vv 1) ki) T.b_len)) (kj _) zx)))) (jk (jV (q_C vx (λ_=>vj)))) qv) (jJ (qF (qw2 (k6 (kx (vv 0) ki)) (k6 (kx (vv 1) ki)) rfl T.b_zip) (YW (is:=[2,3]) (Vv K (t:=gNs [2,3]) (n:=2) (wK (gn nd) (wK (gn nd) V8)))) (jJ (kY (QW.pt (vz (qJ (qz (j4 (vw (vv 2) T.b_isinstance T.b_tuple YK rfl)))) (vz (qj (zZ hr.units) zq (j4 (qL (vv 2) T.b_len)) ki (kj _) zx) (vz (qJ (qz (j4 (qC c9 hr (j5 (k6 (kx (vv 2) ki)) jv))))) (xk (qj (zZ hr.units) zq (kx (vv 2) ki) (kx (vv 3) ki) (kj _) zx)))))) (jk (jV (q_C vx (λ_=>vj)))) qv) (jJ (kY (QW.pt (vz (qJ (qz (j4 (vw (kx (vv 2) ki) T.b_isinstance T.b_bool kq2 rfl)))) (vz (qj (zZ hr.units) zq (kx (vv 2) ki) (kx (vv 3) ki) (kj _) zx) (xk (qJ (qz (j4 (vw (kx (vv 2) ki) T.b_isinstance T.b_list V2 rfl)))))))) (jk (jV (q_C vx (λ_=>vj)))) qv) (jJ (kY (qj (zZ hr.units) zq (j4 (qL (kx (vv 2) ki) T.b_len)) (j4 (qL (kx (vv 3) ki) T.b_len)) (kj _) zx) (jk (jV (q_C vx (λ_=>vj)))) qv) (jk (qF (qw2 (k6 (kx (vv 2) ki)) (k6 (kx (vv 3) ki)) rfl T.b_zip) (YW (is:=[4,5]) (Vv K (t:=gNs [4,5]) (n:=2) (wK (gn nd) (wK (gn nd) V8)))) (jk (kY (qJ (qz (j4 (qC bc hr (j5 (cv 4) (j5 (cv 5) jv)))))) (jk (jV (q_C vx (λ_=>vj)))) qv)))))))) (jk (jV (q_C vx (λ_=>vj))))))) h
theorem kxl(T:Txt K mg)  (F:Fun K "_law_text" "_law_text" jxs f fd):FnOk P w K mg base (CXE P w) 1 f fd ["_law_machine_here"] (spF K mg 1 jv6):=
 kw F sc__law_text (kz rfl) λb8 A outer s H vs Q E hr h=>have nd:=sc__law_text.nd;kJ rfl
  (jJ (qA nd (xx (o:=.rt) (j5 (oA ks (j4 (Zz zJ (kx (vv 0) ki)))) jv))) (jJ (qF (wv (k6 (kx (vv 0) ki))) (YW (is:=[2,3,4]) (Vv K (t:=gNs [2,3,4]) (n:=3) (wK (gn nd) (wK (gn nd) (wK (gn nd) V8))))) (jJ (qP (oA (j4 (oA ks (j4 (zk VY Vk (vv 2) T.b_str J3)))) (kx (j4 (xx (o:=.rt) (j5 kS (j5 kS jv)))) (j4 (zk kz8 vqe (vv 3) T.b_int qks))))) (jk (qF (wv (cv 4)) (YW (is:=[5,6,7,8]) (Vv K (t:=gNs [5,6,7,8]) (n:=4) (wK (gn nd) (wK (gn nd) (wK (gn nd) (wK (gn nd) V8)))))) (jJ (qA nd (oA (j4 (oA (j4 (oA (j4 (oA (vv 5) ks)) (j4 (zk VY Vk (vv 6) T.b_str J3)))) ks)) (j4 (zk VY Vk (vv 7) T.b_str J3)))) (jJ (qF (wv (cv 8)) (gN nd) (jk (kY (qj qwj qz9 (vv 10) kn (kj _) vqa) (jk (qA nd (oA (vv 9) ks))) (jk (qA nd (oA (j4 (oA (vv 9) ks)) (j4 (zk VY Vk (vv 10) T.b_str J3)))))))) (jk (qP (cv 9))))))))) (jk (jV (Zz zJ (vv 1)))))) h
theorem wjc(T:Txt K mg)(bo:jxe P w K mg base)(cq:kqg P w K mg base)(dk:kqk P w K mg base)(bn:jxb P w K mg base)(b9:jxc P w K mg base)(br:kqi P w K mg base)(F:Fun K "law" "law" vqz f fd):FnOk P w K mg base (CXE P w) 10 f fd ["_law_script"] (spF K mg 1 m_law):=
 kw F sc_law (kz rfl) λb8 A outer s H vs Q E hr h=>have nd:=sc_law.nd;kJ rfl
  (jJ (qA nd (qC bo hr (j5 (cv 0) (j5 kI jv)))) (jJ (qA nd (qC cq hr (j5 (cv 1) jv))) (jJ (qA nd (qC dk hr (j5 (cv 1) jv))) (jJ (qA nd (qC bn hr (j5 (cv 3) jv))) (jJ (kY (QW.pt (vz (qJ (qz (j4 (vw (vv 4) T.b_isinstance T.b_str J3 rfl)))) (vz (qj (zZ hr.units) zq (vv 4) (vv 2) (kj _) zx) (xk (qj (zZ hr.units) zq (vv 3) (vv 1) (kj _) zx))))) (jk (jV (q_C vx (λ_=>vj)))) qv) (jJ (qA nd (qC b9 hr (j5 (cv 2) jv))) (jJ (kY (qJ (qz (j4 (qw3 br (hr.mono (by decide)) Zk (vv9 (vv 5) (vv9 (vv 1) vzf)))))) (jk (jV (q_C vx (λ_=>vj)))) qv) (jJ (vv7 (i:=5) (r1:=6) (r2:=7) (r3:=8) (p:=[1]) (wj6 ⟨_,_,rfl,rfl⟩) rfl (qjx 1 (qw5 K (pv 5)) (λ_ _=>rfl)) (Vv K (t:=gNs [6,7,8]) (n:=3) (wK (gn nd) (wK (gn nd) (wK (gn nd) V8)))) (pv 8) rfl qk7) (jJ (q_pc (i:=5) (p:=[0]) (qjx 0 (qw5 K (pv 5)) (λ_ _=>rfl)) rfl qk7) (jk (jV (qC br hr (j5 (qC b9 hr (j5 (cv 2) jv)) (j5 (cv 1) jv)))))))))))))) h
end
theorem all_mk{l:PySem.W.OpenLaw}{w:PySem.World}{K:PySem.W.Frag}{h:Heap}{mg:Str->Option Value}{fa:Addr}(X:K.In h)(G:h.Ns mainGlobals mg)(hfa:mg "law"=some (.ref fa)){gy dj f8 f9 cp fb gu dm:Value}
  (g0:Gf K "is_whole" jzp)
  (g1:Gf K "is_sign" kk6)
  (g2:Gf K "is_tuple_of" jw4)
  (g3:Gf K "are_signs" jxp)
  (g4:Gf K "is_one_of" jxn)
  (g5:Gf K "is_below" jzq)
  (g6:Gf K "is_fill" kk7)
  (g7:Gf K "are_fills" jxr)
  (g8:Gf K "is_ask" kvm)
  (g9:Gf K "is_step" kk5)
  (g10:Gf K "are_steps" jxo)
  (g11:Gf K "is_room_frame" jqw)
  (g12:Gf K "are_rooms" jxq)
  (g13:Gf K "is_machine" jwn)
  (g14:Gf K "is_number_text" jqm)
  (g15:Gf K "show_room" jxi)
  (g16:Gf K "show_fill" jxj)
  (g17:Gf K "show_step" jxh)
  (g18:Gf K "show_machine" jvl)
  (g19:Gf K "is_room_line" jvn)
  (g20:Gf K "read_number" jw3)
  (g21:Gf K "read_room" jxl)
  (g22:Gf K "read_ask" jzo)
  (g23:Gf K "read_fill" jxm)
  (g24:Gf K "read_step" jxk)
  (g25:Gf K "read_rooms" jwm)
  (g26:Gf K "read_machine" jvm)
  (g27:Gf K "_law_cell_at" jvp)
  (g28:Gf K "_law_mixed" jwr)
  (g29:Gf K "_law_words" jwo)
  (g30:Gf K "_law_whole" jwp)
  (g31:Gf K "_law_signs" jwq)
  (g32:Gf K "_law_fill" jxv)
  (g33:Gf K "_law_step" jxt)
  (g34:Gf K "_law_machine" jvo)
  (g35:Gf K "_law_copy" jxw)
  (g36:Gf K "_law_same_step" jqn)
  (g37:Gf K "_law_same" jxu)
  (g38:Gf K "_law_text" jxs)
  (g39:Gf K "law" vqz)
  (q_LETTERS:PySem.W.nsIn K mainGlobals "LETTERS"=some (some gy)) (r_LETTERS:RelV (V.str "abcdefghijklmnopqrstuvwxyz") gy)
  (q_MOST_LETTERS:PySem.W.nsIn K mainGlobals "MOST_LETTERS"=some (some dj)) (r_MOST_LETTERS:RelV (V.int (8)) dj)
  (q_MOST_SIGNS:PySem.W.nsIn K mainGlobals "MOST_SIGNS"=some (some f8)) (r_MOST_SIGNS:RelV (V.int (3)) f8)
  (q_MOST_ROOMS:PySem.W.nsIn K mainGlobals "MOST_ROOMS"=some (some f9)) (r_MOST_ROOMS:RelV (V.int (12)) f9)
  (q_MOST_KEEPERS:PySem.W.nsIn K mainGlobals "MOST_KEEPERS"=some (some cp)) (r_MOST_KEEPERS:RelV (V.int (3)) cp)
  (q_MOST_STEPS:PySem.W.nsIn K mainGlobals "MOST_STEPS"=some (some fb)) (r_MOST_STEPS:RelV (V.int (120)) fb)
  (q_FIGURES:PySem.W.nsIn K mainGlobals "FIGURES"=some (some gu)) (r_FIGURES:RelV (V.str "0123456789") gu)
  (q_MOST_FIGURES:PySem.W.nsIn K mainGlobals "MOST_FIGURES"=some (some dm)) (r_MOST_FIGURES:RelV (V.int (2)) dm)
  (z_all:PySem.W.nsIn K mainGlobals "all"=some none)
  (z_bool:PySem.W.nsIn K mainGlobals "bool"=some none)
  (z_int:PySem.W.nsIn K mainGlobals "int"=some none)
  (z_isinstance:PySem.W.nsIn K mainGlobals "isinstance"=some none)
  (z_len:PySem.W.nsIn K mainGlobals "len"=some none)
  (z_list:PySem.W.nsIn K mainGlobals "list"=some none)
  (z_range:PySem.W.nsIn K mainGlobals "range"=some none)
  (z_set:PySem.W.nsIn K mainGlobals "set"=some none)
  (z_sorted:PySem.W.nsIn K mainGlobals "sorted"=some none)
  (z_str:PySem.W.nsIn K mainGlobals "str"=some none)
  (z_sum:PySem.W.nsIn K mainGlobals "sum"=some none)
  (z_tuple:PySem.W.nsIn K mainGlobals "tuple"=some none)
  (z_zip:PySem.W.nsIn K mainGlobals "zip"=some none)
  : ∃fd:FuncData,(∀(s:Shared) (v:Value),BindsTo s fd ⟨[v],[]⟩ [("_law_script",v)])/\∀base:Heap,K.In base->base.Ns mainGlobals mg->FnOk l.prog w K mg base (CXE l.prog w) 10 fa fd ["_law_script"] (spF K mg 1 m_law):=by
 have T:Txt K mg:=⟨Xy X G z_all,Xy X G z_bool,Xy X G z_int,Xy X G z_isinstance,Xy X G z_len,Xy X G z_list,Xy X G z_range,Xy X G z_set,Xy X G z_sorted,Xy X G z_str,Xy X G z_sum,Xy X G z_tuple,Xy X G z_zip,⟨_,Yq X G q_LETTERS,r_LETTERS⟩,⟨_,Yq X G q_MOST_LETTERS,r_MOST_LETTERS⟩,⟨_,Yq X G q_MOST_SIGNS,r_MOST_SIGNS⟩,⟨_,Yq X G q_MOST_ROOMS,r_MOST_ROOMS⟩,⟨_,Yq X G q_MOST_KEEPERS,r_MOST_KEEPERS⟩,⟨_,Yq X G q_MOST_STEPS,r_MOST_STEPS⟩,⟨_,Yq X G q_FIGURES,r_FIGURES⟩,⟨_,Yq X G q_MOST_FIGURES,r_MOST_FIGURES⟩⟩;refine g39.law X G hfa fun {base _ _} F=>?_
 have dz:kvg l.prog w K mg base:=g0.d X G (qj1 T );have fg:kzf l.prog w K mg base:=g1.d X G (qqe T );have ac:jq5 l.prog w K mg base:=g2.d X G (kqs T );have dl:kqd l.prog w K mg base:=g3.d X G (kxi T fg);have aw:jwc l.prog w K mg base:=g4.d X G (kxg T );have aq:jw1 l.prog w K mg base:=g5.d X G (qj2 T dz);have fe:kzg l.prog w K mg base:=g6.d X G (qqf T aw aq);have d7:kqf l.prog w K mg base:=g7.d X G (kxk T ac fe);have fw:qkv l.prog w K mg base:=g8.d X G (qwl T aw aq);have fh:kze l.prog w K mg base:=g9.d X G (qqd T d7 ac aw fw aq);have dh:kqc l.prog w K mg base:=g10.d X G (kxh T fh);have bi:jx2 l.prog w K mg base:=g11.d X G (kjl T ac aq);have cy:kqe l.prog w K mg base:=g12.d X G (kxj T dh bi);have ce:kjb l.prog w K mg base:=g13.d X G (kvv T ac dl cy);have bd:jwh l.prog w K mg base:=g14.d X G (jzt T );have cu:kq7 l.prog w K mg base:=g15.d X G (kxb T );have cm:kq8 l.prog w K mg base:=g16.d X G (kxc T );have cn:kq6 l.prog w K mg base:=g17.d X G (kxa T cm);have bn:jxb l.prog w K mg base:=g18.d X G (kkd T cu cn);have bp:jxd l.prog w K mg base:=g19.d X G (kkf T );have ae:jq4 l.prog w K mg base:=g20.d X G (kqr T bd);have cz:kqa l.prog w K mg base:=g21.d X G (kxe T ae);have dy:kvf l.prog w K mg base:=g22.d X G (qj0 T ae);have dq:kqb l.prog w K mg base:=g23.d X G (kxf T ae);have dg:kq9 l.prog w K mg base:=g24.d X G (kxd T dy ae dq);have ca:kja l.prog w K mg base:=g25.d X G (kvu T bp cz dg);have b9:jxc l.prog w K mg base:=g26.d X G (kke T ca ce);have ay:jxf l.prog w K mg base:=g27.d X G (kkh T );have ag:jvj l.prog w K mg base:=g28.d X G (kvz T );have c8:kjc l.prog w K mg base:=g29.d X G (kvw T ag);have c9:kjd l.prog w K mg base:=g30.d X G (kvx T );have bz:kje l.prog w K mg base:=g31.d X G (kvy T c8);have cw:kqj l.prog w K mg base:=g32.d X G (kxo T );have d8:kqh l.prog w K mg base:=g33.d X G (kxm T ag cw);have bo:jxe l.prog w K mg base:=g34.d X G (kkg T ag bz ay d8);have dk:kqk l.prog w K mg base:=g35.d X G (kxp T );have bc:jwi l.prog w K mg base:=g36.d X G (jzu T );have br:kqi l.prog w K mg base:=g37.d X G (kxn T c9 bc);have cq:kqg l.prog w K mg base:=g38.d X G (kxl T );exact wjc T bo cq dk bn b9 br F
end Nk12
namespace PySem.W.Fast
theorem tw15370651091477747422:True:=⟨⟩
theorem tw6895823283649030737:True:=⟨⟩
theorem tw2936824980985227586:True:=⟨⟩
theorem tw2193578684059117820:True:=⟨⟩
theorem tw161510010844727149:True:=⟨⟩
theorem tw13311319565929065125:True:=⟨⟩
theorem tw16125350322127185057:True:=⟨⟩
theorem tw7147998752103609842:True:=⟨⟩
theorem tw15076907483338133727:True:=⟨⟩
theorem tw15016950714068347376:True:=⟨⟩
theorem tw16816194910729896450:True:=⟨⟩
theorem tw6099042600849263674:True:=⟨⟩
theorem tw51572978324187053:True:=⟨⟩
theorem tw1197688914950901339:True:=⟨⟩
theorem tw10295885580302669813:True:=⟨⟩
theorem tw6370980609061651747:True:=⟨⟩
theorem tw7617473581141161672:True:=⟨⟩
theorem tw11014693517211591177:True:=⟨⟩
theorem tw8745509275829485593:True:=⟨⟩
theorem tw7686751507697625301:True:=⟨⟩
theorem tw8606667057169301076:True:=⟨⟩
theorem tw7211112519100316868:True:=⟨⟩
theorem tw4848541722782831302:True:=⟨⟩
theorem tw6498245308970835532:True:=⟨⟩
theorem tw16260001597304417569:True:=⟨⟩
theorem tw16196710593473257026:True:=⟨⟩
theorem tw474763503215045371:True:=⟨⟩
theorem tw17597264134007492135:True:=⟨⟩
theorem tw4073433098113014215:True:=⟨⟩
theorem tw9541959899864636013:True:=⟨⟩
theorem tw11921022183961203837:True:=⟨⟩
theorem tw857252810870011587:True:=⟨⟩
theorem tw3521297882028194438:True:=⟨⟩
theorem tw3670363452310650237:True:=⟨⟩
theorem tw8091043148907442882:True:=⟨⟩
theorem tw1001282386033402238:True:=⟨⟩
theorem tw2940703821453291864:True:=⟨⟩
theorem tw9633942909707910521:True:=⟨⟩
theorem tw13533828673183084118:True:=⟨⟩
theorem tw6544491170951123931:True:=⟨⟩
theorem tw5240782717229103604:True:=⟨⟩
theorem tw2008594923944422395:True:=⟨⟩
theorem tw8384856091546838306:True:=⟨⟩
theorem tw10750813582085512412:True:=⟨⟩
theorem tw3026116842205332598:True:=⟨⟩
theorem tw12940889841148769548:True:=⟨⟩
theorem tw3988741452117505112:True:=⟨⟩
theorem tw12959366873665898316:True:=⟨⟩
theorem tw9986140096193835742:True:=⟨⟩
theorem tw4552445358114672996:True:=⟨⟩
theorem tw7081943057467065501:True:=⟨⟩
theorem tw12410877574718669986:True:=⟨⟩
theorem tw13237018977323767735:True:=⟨⟩
theorem tw11619617534940343845:True:=⟨⟩
theorem tw13595435845169344536:True:=⟨⟩
theorem tw16156767447911705141:True:=⟨⟩
theorem tw1746124533558448907:True:=⟨⟩
theorem tw11325261048568718620:True:=⟨⟩
theorem tw2177287633976334901:True:=⟨⟩
theorem tw13199033941014031495:True:=⟨⟩
theorem tw12355594193724239196:True:=⟨⟩
theorem tw15814904926316832987:True:=⟨⟩
theorem tw9157225719302475186:True:=⟨⟩
theorem tw16281065952213259943:True:=⟨⟩
theorem tw9508716338274264303:True:=⟨⟩
theorem tw10734470984706007226:True:=⟨⟩
theorem tw13399150138698684423:True:=⟨⟩
theorem tw7573432295135421658:True:=⟨⟩
theorem tw14901567245105537902:True:=⟨⟩
theorem tw17062256531267663689:True:=⟨⟩
theorem tw12608248273702887554:True:=⟨⟩
theorem tw4091133390896777523:True:=⟨⟩
theorem tw11086192247174388824:True:=⟨⟩
theorem tw11380085654588497910:True:=⟨⟩
theorem tw3483535168802554824:True:=⟨⟩
theorem tw17093156455513284381:True:=⟨⟩
theorem tw2691881502838055028:True:=⟨⟩
theorem tw6069826205070807933:True:=⟨⟩
theorem tw4805493932374591779:True:=⟨⟩
theorem tw12438173721227103865:True:=⟨⟩
theorem tw7656467671794917808:True:=⟨⟩
theorem tw5419338453901206914:True:=⟨⟩
theorem tw9310076463620744565:True:=⟨⟩
theorem tw8110872193690023784:True:=⟨⟩
theorem tw14770852292365037389:True:=⟨⟩
theorem tw2579234186386882785:True:=⟨⟩
theorem tw16201235690997217452:True:=⟨⟩
theorem tw11338520956164717417:True:=⟨⟩
theorem tw4725996025822916062:True:=⟨⟩
theorem tw12438886364979067556:True:=⟨⟩
theorem tw10205200048052099922:True:=⟨⟩
theorem tw4381418055032278972:True:=⟨⟩
theorem tw14666313673810837355:True:=⟨⟩
theorem tw17711361352008753320:True:=⟨⟩
theorem tw11601007015704722944:True:=⟨⟩
theorem tw14272996332549773553:True:=⟨⟩
theorem tw970698883514819310:True:=⟨⟩
theorem tw8060194186571676762:True:=⟨⟩
theorem tw12848525319190592217:True:=⟨⟩
theorem tw8070759703845330920:True:=⟨⟩
theorem tw6713747609209085370:True:=⟨⟩
theorem tw7633532046877518617:True:=⟨⟩
theorem tw5945258597223348712:True:=⟨⟩
theorem tw15254166092320116883:True:=⟨⟩
theorem tw7360846718865984614:True:=⟨⟩
theorem tw18162110719743586736:True:=⟨⟩
theorem tw9664286387780593461:True:=⟨⟩
theorem tw17958322934457574959:True:=⟨⟩
end PySem.W.Fast
open PySem PySem.W PyProof.Rows
set_option maxRecDepth 100000 in
set_option maxHeartbeats 0 in
theorem PySem.Challenge.cw_freshrooms_k12_whole_machines_written_holds : PySem.Challenge.rw_freshrooms_k12_whole_machines_written.Holds := by
 w_on;o_law;k_head;(case hw=>w_witness2)
 k_fill
 refine Q.walkQ (l:=PySem.Challenge.rw_freshrooms_k12_whole_machines_written) (n:=63) (k:=10) (x:="_law_script") (f:=Nk12.m_law) rfl (by decide) rfl ⟨rfl,by decide,by decide,rfl⟩ (fun w h Y=>PySem.W.kIn_of Y) ?F Nk12.law_true
 case F =>
  intro w mg fa h KX G hmg
  refine' Nk12.all_mk KX G hmg ?_ ?_ ?_ ?_ ?_ ?_ ?_ ?_ ?_ ?_ ?_ ?_ ?_ ?_ ?_ ?_ ?_ ?_ ?_ ?_ ?_ ?_ ?_ ?_ ?_ ?_ ?_ ?_ ?_ ?_ ?_ ?_ ?_ ?_ ?_ ?_ ?_ ?_ ?_ ?_ ?q_LETTERS ?r_LETTERS ?q_MOST_LETTERS ?r_MOST_LETTERS ?q_MOST_SIGNS ?r_MOST_SIGNS ?q_MOST_ROOMS ?r_MOST_ROOMS ?q_MOST_KEEPERS ?r_MOST_KEEPERS ?q_MOST_STEPS ?r_MOST_STEPS ?q_FIGURES ?r_FIGURES ?q_MOST_FIGURES ?r_MOST_FIGURES ?z_all ?z_bool ?z_int ?z_isinstance ?z_len ?z_list ?z_range ?z_set ?z_sorted ?z_str ?z_sum ?z_tuple ?z_zip
  all_goals try (refine' Q.Gf.mk ?a ?b ?c ?d;(case a=>k_is);(case b=>k_is);(case c=>k_is);(case d=>k_is))
  (case q_LETTERS=>k_is)
  (case r_LETTERS=>exact ⟨_,rfl⟩)
  (case q_MOST_LETTERS=>k_is)
  (case r_MOST_LETTERS=>exact ⟨_,rfl⟩)
  (case q_MOST_SIGNS=>k_is)
  (case r_MOST_SIGNS=>exact ⟨_,rfl⟩)
  (case q_MOST_ROOMS=>k_is)
  (case r_MOST_ROOMS=>exact ⟨_,rfl⟩)
  (case q_MOST_KEEPERS=>k_is)
  (case r_MOST_KEEPERS=>exact ⟨_,rfl⟩)
  (case q_MOST_STEPS=>k_is)
  (case r_MOST_STEPS=>exact ⟨_,rfl⟩)
  (case q_FIGURES=>k_is)
  (case r_FIGURES=>exact ⟨_,rfl⟩)
  (case q_MOST_FIGURES=>k_is)
  (case r_MOST_FIGURES=>exact ⟨_,rfl⟩)
  (case z_all=>k_is)
  (case z_bool=>k_is)
  (case z_int=>k_is)
  (case z_isinstance=>k_is)
  (case z_len=>k_is)
  (case z_list=>k_is)
  (case z_range=>k_is)
  (case z_set=>k_is)
  (case z_sorted=>k_is)
  (case z_str=>k_is)
  (case z_sum=>k_is)
  (case z_tuple=>k_is)
  (case z_zip=>k_is)
