import PyProof.Rows.All
import Wide.All
import OpenK.AllK
import Wide.FinOn
import Lean
import PySem.Challenge.RW_freshrooms_k30_what_is_plain
set_option Elab.async false
set_option linter.all false
set_option bootstrap.genMatcherCode false
set_option compiler.extract_closed false
set_option maxRecDepth 100000
theorem Ŕq(_:True:=by rfl):True:=trivial
theorem Ŕq.z:True:=trivial
open Ŕq renaming _auto_1→Ŕ
theorem ŕq(_:True:=by decide):True:=trivial
theorem ŕq.z:True:=trivial
open ŕq renaming _auto_1→ŕ
theorem Ŗq(_:True:=by intro _;rfl):True:=trivial
theorem Ŗq.z:True:=trivial
open Ŗq renaming _auto_1→Ŗ
theorem ŗq(_:True:=by decide +kernel):True:=trivial
theorem ŗq.z:True:=trivial
open ŗq renaming _auto_1→ŗ
theorem Řq(_:True:=by first|exact .inl rfl|exact .inr rfl|assumption):True:=trivial
theorem Řq.z:True:=trivial
open Řq renaming _auto_1→Ř
theorem řq(_:True:=by first|exact Or.inl rfl|exact Or.inr (Or.inl rfl)|exact Or.inr (Or.inr rfl)):True:=trivial
theorem řq.z:True:=trivial
open řq renaming _auto_1→ř
theorem Śq(_:True:=by first|exact Or.inl rfl|exact Or.inr rfl):True:=trivial
theorem Śq.z:True:=trivial
open Śq renaming _auto_1→Ś
theorem śq(_:True:=by first|exact .inl rfl|exact .inr rfl):True:=trivial
theorem śq.z:True:=trivial
open śq renaming _auto_1→ś
theorem oq9{α : Type _}{a b : α}(h:some a=some b):a=b:=Option.some.inj h
theorem lr9{α : Type _}{a : α}{b : List α}(c : List α)(h:a ∈ b):a ∈ c ++ b:=List.mem_append_right c h
theorem ll9{α : Type _}{a : α}{b : List α}(c : List α)(h:a ∈ b):a ∈ b ++ c:=List.mem_append_left c h
theorem lc9{α : Type _}{a : α}{l : List α}(b : α)(h:a ∈ l):a ∈ b::l:=List.mem_cons_of_mem b h
section
open PySem PySem.Spec PyProof.Rows
theorem X0:type_of% @wpAny_bind:=@wpAny_bind
theorem X1:type_of% @List.getElem?_eq_getElem:=@List.getElem?_eq_getElem
theorem X2:type_of% @Heap.get?_push_of_some:=@Heap.get?_push_of_some
theorem X3:type_of% @List.mem_cons_self:=@List.mem_cons_self
theorem X4:type_of% @wpAny_pure:=@wpAny_pure
theorem X5:type_of% @List.length_map:=@List.length_map
theorem X6:type_of% @decide_eq_true:=@decide_eq_true
theorem X7:type_of% @List.getD_eq_getElem?_getD:=@List.getD_eq_getElem?_getD
theorem X8:type_of% @List.size_toArray:=@List.size_toArray
theorem X9:type_of% @Heap.get?_push_size:=@Heap.get?_push_size
theorem Xa:type_of% @List.nodup_append:=@List.nodup_append
theorem Xb:type_of% @decide_eq_false:=@decide_eq_false
theorem Xd:type_of% @Nat.le_refl:=@Nat.le_refl
theorem Xe:type_of% @Heap.lt_size:=@Heap.lt_size
theorem Xf:type_of% @if_pos:=@if_pos
theorem Xg:type_of% @Nat.lt_of_lt_of_le:=@Nat.lt_of_lt_of_le
theorem Xh:type_of% @List.mem_map_of_mem:=@List.mem_map_of_mem
theorem Xi:type_of% @List.length_append:=@List.length_append
theorem Xj:type_of% @if_neg:=@if_neg
theorem Xk:type_of% @List.not_mem_nil:=@List.not_mem_nil
theorem Xl:type_of% @Int.emod_lt_of_pos:=@Int.emod_lt_of_pos
theorem Xm:type_of% @List.append_assoc:=@List.append_assoc
theorem Xn:type_of% @Nat.ne_of_lt:=@Nat.ne_of_lt
theorem Xp:type_of% @Array.length_toList:=@Array.length_toList
theorem Xq:type_of% @Int.emod_nonneg:=@Int.emod_nonneg
theorem Xr:type_of% @List.mem_cons:=@List.mem_cons
theorem Xs:type_of% @List.length_singleton:=@List.length_singleton
theorem Xu:type_of% @List.getElem?_map:=@List.getElem?_map
theorem Xv:type_of% @Int.toNat_natCast:=@Int.toNat_natCast
theorem Xw:type_of% @List.getElem?_append_left:=@List.getElem?_append_left
theorem Xx:type_of% @List.length_replicate:=@List.length_replicate
theorem Xy:type_of% @wpAny_newObj_type:=@wpAny_newObj_type
theorem Xz:type_of% @List.getElem?_set_ne:=@List.getElem?_set_ne
theorem Y0:type_of% @List.append_nil:=@List.append_nil
theorem Y1:type_of% @List.nodup_nil:=@List.nodup_nil
theorem Y2:type_of% @Heap.get?_update_self:=@Heap.get?_update_self
theorem Y3:type_of% @List.map_map:=@List.map_map
theorem Y4:type_of% @List.mem_or_eq_of_mem_set:=@List.mem_or_eq_of_mem_set
theorem Y5:type_of% @PySem.W.kia_one:=@PySem.W.kia_one
theorem Y6:type_of% @List.getElem_mem:=@List.getElem_mem
theorem Y7:type_of% @PySem.W.mg_none_of:=@PySem.W.mg_none_of
theorem Y8:type_of% @PyProof.Rows.callWith_type1:=@PyProof.Rows.callWith_type1
theorem Y9:type_of% @List.length_take:=@List.length_take
theorem Ya:type_of% @List.length_cons:=@List.length_cons
theorem Yb:type_of% @wpAny_holding:=@wpAny_holding
theorem Yc:type_of% @List.getElem?_append_right:=@List.getElem?_append_right
theorem Yd:type_of% @List.map_append:=@List.map_append
theorem Ye:type_of% @List.getElem?_set_self:=@List.getElem?_set_self
theorem Yf:type_of% @wpAny_call_entry:=@wpAny_call_entry
theorem Yg:type_of% @Heap.SameBut.update:=@Heap.SameBut.update
theorem Yh:type_of% @List.flatten_cons:=@List.flatten_cons
theorem Yi:type_of% @Array.getElem?_toList:=@Array.getElem?_toList
theorem Yj:type_of% @List.getElem?_eq_none:=@List.getElem?_eq_none
theorem Yk:type_of% @Nat.le_trans:=@Nat.le_trans
theorem Yl:type_of% @wpAny_Call_Name_kw:=@wpAny_Call_Name_kw
theorem Ym:type_of% @List.length_drop:=@List.length_drop
theorem Yn:type_of% @PySem.mem_of_lookup:=@PySem.mem_of_lookup
theorem Yo:type_of% @List.getElem_of_mem:=@List.getElem_of_mem
theorem Yp:type_of% @Nat.lt_irrefl:=@Nat.lt_irrefl
theorem Yq:type_of% @wpAny_setField:=@wpAny_setField
theorem Yr:type_of% @List.mem_of_mem_take:=@List.mem_of_mem_take
theorem Ys:type_of% @wpAny_truthy_bool:=@wpAny_truthy_bool
theorem Yt:type_of% @wpAny_callSpecial?_slot:=@wpAny_callSpecial?_slot
theorem Yu:type_of% @List.length_range:=@List.length_range
theorem Yv:type_of% @List.eraseIdx_cons_succ:=@List.eraseIdx_cons_succ
theorem Yw:type_of% @Heap.get?_update_ne:=@Heap.get?_update_ne
theorem Yx:type_of% @List.length_set:=@List.length_set
theorem Yy:type_of% @codeAny_builtin:=@codeAny_builtin
theorem Yz:type_of% @wpAny_setState_of:=@wpAny_setState_of
theorem Z0:type_of% @Nat.lt_succ_of_lt:=@Nat.lt_succ_of_lt
theorem Z1:type_of% @List.lookup_cons:=@List.lookup_cons
theorem Z2:type_of% @List.all_eq_true:=@List.all_eq_true
theorem Z3:type_of% @wpAny_askSetting:=@wpAny_askSetting
theorem Z4:type_of% @wpAny_field:=@wpAny_field
theorem Z5:type_of% @Nat.zero_le:=@Nat.zero_le
theorem Z6:type_of% @Ne.symm:=@Ne.symm
end
noncomputable section
namespace L2
open PySem PySem.Spec PyProof.Rows
abbrev Key:=Sum Int Str
def vwm:Key->Value->Bool
 |.inl k,v=>Value.isInt k v
 |.inr x,v=>Value.isStrOf x v
def keyH(w:World):Key->Int
 |.inl k=>hashInt k
 |.inr x=>hashStr w x
theorem Q0:∀{k:Key} {v:Value},vwm k v=true->(∃i t,k=Sum.inl i/\v=Value.int i t)\/(∃x t,k=Sum.inr x/\v=Value.str x t)
 |.inl i,v,h=>by
  obtain⟨t,e⟩:=Value.isInt_shape (k:=i) (v:=v) h;exact .inl ⟨i,t,rfl,e⟩
 |.inr x,v,h=>by
  obtain⟨t,e⟩:=Value.isStrOf_shape (x:=x) (v:=v) h;exact .inr ⟨x,t,rfl,e⟩
theorem vwl(a b:Int):decide ((Sum.inl a:Key)=Sum.inl b)=(a==b):=by
 by_cases e:a=b
 ·subst e;simp
 ·have h:¬(Sum.inl a:Key)=Sum.inl b:=λq=>e (Sum.inl.inj q)
  rw[Xb h];exact(beq_eq_false_iff_ne.mpr e).symm
theorem vwi(a b:Str):decide ((Sum.inr a:Key)=Sum.inr b)=decide (a=b):=by
 by_cases e:a=b
 ·subst e;simp
 ·have h:¬(Sum.inr a:Key)=Sum.inr b:=λq=>e (Sum.inr.inj q)
  rw[Xb h,Xb e]
theorem vwk(a:Int)(b:Str):decide ((Sum.inl a:Key)=Sum.inr b)=false:=Xb (λq=>nomatch q)
theorem vwj(a:Str)(b:Int):decide ((Sum.inr a:Key)=Sum.inl b)=false:=Xb (λq=>nomatch q)
noncomputable def kqm(prog:Program)(w:World):PySem.KeyKind prog w Key where
 is:=vwm
 hash:=keyH w
 inj:=λv a b ha hb=>by
  rcases Q0 ha with⟨i,t,rfl,rfl⟩|⟨x,t,rfl,rfl⟩
  ·rcases Q0 hb with⟨j,u,rfl,e⟩|⟨y,u,rfl,e⟩
   ·injection e with e1 _;rw[e1]
   ·exact nomatch e
  ·rcases Q0 hb with⟨j,u,rfl,e⟩|⟨y,u,rfl,e⟩
   ·exact nomatch e
   ·injection e with e1 _;rw[e1]
 byValue:=λk v h=>by
  rcases Q0 h with⟨i,t,rfl,rfl⟩|⟨x,t,rfl,rfl⟩<;>rfl
 pyHash:=λhv h=>by
  rcases Q0 hv with⟨i,t,rfl,rfl⟩|⟨x,t,rfl,rfl⟩
  ·exact wpAny_pyHash_int h
  ·exact wpAny_pyHash_str h
 eqBool:=λhu hv h=>by
  rcases Q0 hu with⟨i,t,rfl,rfl⟩|⟨x,t,rfl,rfl⟩
  ·rcases Q0 hv with⟨j,u,rfl,rfl⟩|⟨y,u,rfl,rfl⟩
   ·rw[vwl]at h;exact wpAny_eqBool_int h
   ·rw[vwk]at h;exact SeqAt.EqAt.int_str i t y u _ _ _ _ h
  ·rcases Q0 hv with⟨j,u,rfl,rfl⟩|⟨y,u,rfl,rfl⟩
   ·rw[vwj]at h;exact SeqAt.EqAt.str_int x t j u _ _ _ _ h
   ·rw[vwi]at h;exact wpAny_eqBool_str h
 «strs»:=λk x t v h=>by
  rcases Q0 h with⟨i,u,rfl,e⟩|⟨y,u,rfl,e⟩
  ·exact nomatch e
  ·injection e with e1 _;subst e1;cases v<;>rfl
inductive V where
 |non|bl (b:Bool)|int (i:Int)|str (x:Str)|byt (b:Array UInt8)|flt (b:UInt64)|ref (a:Addr)|ty (n:String)
 deriving DecidableEq
noncomputable def RelV:V->Value->Prop
 |.non,u=>u=Value.none
 |.bl b,u=>u=Value.bool b
 |.int i,u=>∃t,u=Value.int i t
 |.str x,u=>∃t,u=Value.str x t
 |.byt b,u=>∃t,u=Value.bytes b t
 |.flt b,u=>∃t,u=Value.float b t
 |.ref a,u=>u=Value.ref a
 |.ty n,u=>u=Value.type n
abbrev Vals:List V->List Value->Prop:=Paired RelV
theorem Vals.length{xs:List V}{us:List Value}(r:Vals xs us):xs.length=us.length:=Paired.length r
theorem Vals.get:∀{xs:List V} {us:List Value} {i:Nat} {x:V},Vals xs us->xs[i]?=some x->∃u,us[i]?=some u/\RelV x u
 |_,_,_,_,.nil,e=>by simp at e
 |_,_,0,_,.cons r _,e=>by simp at e;subst e;exact⟨_,rfl,r⟩
 |_,_,i+1,x,.cons _ t,e=>by
  obtain⟨u,h1,h2⟩:=Vals.get (i:=i) (x:=x) t (by simpa using e);exact⟨u,by simpa using h1,h2⟩
theorem Vals.set{x:V}{u:Value}(r:RelV x u):∀{xs:List V} {us:List Value} (i:Nat),Vals xs us->Vals (xs.set i x) (us.set i u)
 |_,_,_,.nil=>.nil
 |_,_,0,.cons _ t=>.cons r t
 |_,_,i+1,.cons q t=>.cons q (Vals.set r i t)
theorem Vals.append:∀{xs ys:List V} {us ws:List Value},Vals xs us->Vals ys ws->Vals (xs++ys) (us++ws)
 |_,_,_,_,.nil,s=>s
 |_,_,_,_,.cons r t,s=>.cons r (Vals.append t s)
theorem Vals.take:∀{xs:List V} {us:List Value} (n:Nat),Vals xs us->Vals (xs.take n) (us.take n)
 |_,_,0,_=>.nil
 |_,_,_+1,.nil=>.nil
 |_,_,n+1,.cons r t=>.cons r (Vals.take n t)
theorem Vals.drop:∀{xs:List V} {us:List Value} (n:Nat),Vals xs us->Vals (xs.drop n) (us.drop n)
 |_,_,0,r=>r
 |_,_,_+1,.nil=>.nil
 |_,_,n+1,.cons _ t=>Vals.drop n t
def wk5:Option V->Option Value->Prop
 |some v,some u=>RelV v u
 |none,none=>True
 |_,_=>False
def KV{κ:Type}:List (κ×V)->List (κ×Value)->Prop:=Paired λ(p:κ×V) (q:κ×Value)=>p.1=q.1/\RelV p.2 q.2
def kV:Key->V
 |.inl i=>.int i
 |.inr x=>.str x
inductive HO where
 |lst (xs:List V)
 |tup (xs:List V)
 |dK (ak:List (Key×V))|dT (ak:List (List Key×V))
 |set (S:Int->Bool) (n:Nat)
 |ins (C dx:Addr) (fs:List (Str×V))
 |own (x:Addr)
 |xd (fs:List (Str×V))
 |met (f x:Addr)
 |rng (lo hi:Int)
 |frz (o:Obj) (u:HO)
 |tbl (ps:Array Value)
 |ext (φ:World->Heap->Prop)
abbrev Hp:=Addr->Option HO
noncomputable def IsTupD(h:Heap)(a:Addr)(items:Array Value):Prop:=∃o,h.get? a=some o/\o.cls=.type "tuple"/\o.dict=none/\∃n,o.data=.seq items n
theorem IsTupD.tup{h:Heap}{a:Addr}{items:Array Value}(p:IsTupD h a items):IsTup h a items:=by
 obtain⟨o,e,c,_,n,d⟩:=p;exact⟨o,e,c,n,d⟩
theorem IsTupD.new(h:Heap)(xs:Array Value):IsTupD (h.push { cls:=.type "tuple",data:=.seq xs }) h.objs.size xs:=⟨_,X9 _ rfl,rfl,rfl,0,rfl⟩
def upd(H:Hp)(a:Addr)(o:HO):Hp:=λb=>if b=a then some o else H b
theorem xq{H:Hp}{a:Addr}{o:HO}:upd H a o a=some o:=by unfold upd;rw[Xf rfl]
theorem kW{H:Hp}{a b:Addr}{o:HO}(h:b≠a):upd H a o b=H b:=by unfold upd;rw[Xj h]
theorem Jw{H:Hp}{a b:Addr}{o:HO}(h:H a=some o)(h':H b=none):a≠b:=by
 intro e;subst e;rw[h]at h';cases h'
section
variable (P:Program)(w:World)
noncomputable def ObjOk(H : Hp)(h : Heap)(a : Addr): HO -> Prop
  |.lst xs=>xs.length<=sizeLine /\ ∃(aa : List Value) (n : Nat), Vals xs aa /\ h.get? a = some { cls:= .type "list", data:= .seq aa.toArray n }
  |.tup xs=>xs.length<=sizeLine /\ ∃aa : List Value, Vals xs aa /\ IsTupD h a aa.toArray
  |.dK ak=>ak.length<=sizeLine /\ (a==sysModules) = false /\ ∃vs, KV ak vs /\ h.DictOf (kqm P w) a vs
  |.dT ak=>ak.length<=sizeLine /\ (a==sysModules) = false /\ ∃xs : List (List Key × Addr × Value),
      Paired (λ(p : List Key × V) (q : List Key × Addr × Value)=>p.1 = q.1 /\ H q.2.1 = some (.tup (p.1.map kV)) /\ RelV p.2 q.2.2) ak xs /\
      ∃o es ep, h.get? a = some o /\ o.ExactDict /\ o.data = .dict es ep /\ es.toList = xs.map (entryOfKey (tupleKind (kqm P w))) /\ (xs.map (·.1)).Nodup
  |.set S n=>h.SetOf (intKind P w) a S n
  |.ins C dx fs=>H dx = some (.own a) /\ fs.length<=1000 /\ dx≠a /\ h.get? a = some (PySem.W.instObj C dx) /\
      ∃mA, h.Ns1 dx mA /\ (∀f, wk5 (fs.lookup f) (mA f)) /\ PySem.Within mA (fs.map (·.1))
  |.own _=> ∃o, h.get? a = some o
  |.xd fs=> ∃mA, h.Ns1 a mA /\ ∀f, wk5 (fs.lookup f) (mA f)
  |.rng lo hi=> ∃t u v, h.get? a = some { cls:= .type "range", data:= .fields #[.int lo t, .int hi u, .int 1 v] }
  |.frz o u=>h.get? a = some o /\ ObjOk H h a u
  |.tbl ps=>h.get? a = some { cls:= .none, data:= .fields ps }
  |.met f x=>h.get? a = some (PySem.W.methodObj (.ref f) (.ref x))
  |.ext φ=>φ w h /\ (∃o, h.get? a = some o) /\ ∀h1 h2 : Heap, φ w h1 -> (∀o, h1.get? a = some o -> h2.get? a = some o) -> φ w h2
def HOk(H:Hp)(h:Heap):Prop:=∀a o,H a=some o->ObjOk P w H h a o
end
section
variable {P:Program}{w:World}{H H':Hp}{h h':Heap}{a:Addr}{o:HO}
theorem ObjOk.lt(x:ObjOk P w H h a o):a<h.objs.size:=by
 cases o with
 |lst xs=>obtain⟨_,_,_,_,e⟩:=x;exact Xe e
 |tup xs=>obtain⟨_,_,_,p⟩:=x;exact p.tup.lt
 |dK ak=>obtain⟨_,_,_,_,o,_,_,e,_⟩:=x;exact Xe e
 |dT ak=>obtain⟨_,_,_,_,o,_,_,e,_⟩:=x;exact Xe e
 |set S n=>obtain⟨o,_,_,_,e,_⟩:=x;exact Xe e
 |ins C dx fs=>obtain⟨_,_,_,e,_⟩:=x;exact Xe e
 |own y=>obtain⟨_,e⟩:=x;exact Xe e
 |xd fs=>obtain⟨_,⟨_,_,_,e,_⟩,_⟩:=x;exact Xe e
 |rng lo hi=>obtain⟨_,_,_,e⟩:=x;exact Xe e
 |frz ob u=>obtain⟨e,_⟩:=x;exact Xe e
 |tbl ps=>exact Xe (show h.get? a=some _ from x)
 |met f y=>exact Xe (show h.get? a=some _ from x)
 |ext φ=>obtain⟨_,⟨_,e⟩,_⟩:=x;exact Xe e
theorem Paired.mapP{α β:Type}{F G:α->β->Prop}:∀{l₁:List α} {l₂:List β},Paired F l₁ l₂->(∀a b,F a b->G a b)->Paired G l₁ l₂
 |_,_,.nil,_=>.nil
 |_,_,.cons r t,f=>.cons (f _ _ r) (Paired.mapP t f)
theorem ObjOk.stay(x:ObjOk P w H h a o)(k:∀b u,(b=a\/H b=some (.own a))->h.get? b=some u->h'.get? b=some u)
  (ho:∀b,H b=some (.own a)->H' b=some (.own a)) (ht:∀b xs,H b=some (.tup xs)->H' b=some (.tup xs)):ObjOk P w H' h' a o:=by
 induction o with
 |lst xs=>obtain⟨z,aa,n,r,e⟩:=x;exact⟨z,aa,n,r,k _ _ (.inl rfl) e⟩
 |tup xs=>obtain⟨z,aa,r,ob,e,c⟩:=x;exact⟨z,aa,r,ob,k _ _ (.inl rfl) e,c⟩
 |dK ak=>obtain⟨z,y,vs,r,ob,es,ep,e,c⟩:=x;exact⟨z,y,vs,r,ob,es,ep,k _ _ (.inl rfl) e,c⟩
 |dT ak=>
  obtain⟨z,y,xs,r,ob,es,ep,e,c⟩:=x;exact⟨z,y,xs,Paired.mapP r λp q z=>⟨z.1,ht _ _ z.2.1,z.2.2⟩,ob,es,ep,k _ _ (.inl rfl) e,c⟩
 |set S n=>obtain⟨ob,es,ep,t,e,c⟩:=x;exact⟨ob,es,ep,t,k _ _ (.inl rfl) e,c⟩
 |ins C dx fs=>
  obtain⟨d,z,ne,e,mA,⟨od,es,ep,e2,c⟩,r⟩:=x;exact⟨ho _ d,z,ne,k _ _ (.inl rfl) e,mA,⟨od,es,ep,k _ _ (.inr d) e2,c⟩,r⟩
 |own y=>obtain⟨ob,e⟩:=x;exact⟨ob,k _ _ (.inl rfl) e⟩
 |xd fs=>obtain⟨mA,⟨od,es,ep,e,c⟩,r⟩:=x;exact⟨mA,⟨od,es,ep,k _ _ (.inl rfl) e,c⟩,r⟩
 |rng lo hi=>obtain⟨t,u,v,e⟩:=x;exact⟨t,u,v,k _ _ (.inl rfl) e⟩
 |frz ob u ih=>obtain⟨e,q⟩:=x;exact⟨k _ _ (.inl rfl) e,ih q⟩
 |tbl ps=>
  have e:h.get? a=some { cls:=.none,data:=.fields ps }:=x;show h'.get? a=some { cls:=.none,data:=.fields ps };exact k a _ (.inl rfl) e
 |met f y=>
  have e:h.get? a=some (PySem.W.methodObj (.ref f) (.ref y)):=x;show h'.get? a=some (PySem.W.methodObj (.ref f) (.ref y));exact k a _ (.inl rfl) e
 |ext φ=>obtain⟨p,⟨o,e⟩,st⟩:=x;exact⟨st _ _ p λo q=>k _ _ (.inl rfl) q,⟨o,k _ _ (.inl rfl) e⟩,st⟩
theorem HOk.lt(x:HOk P w H h)(e:H a=some o):a<h.objs.size:=(x a o e).lt
theorem HOk.fresh(x:HOk P w H h)(e:h.objs.size<=a):H a=none:=by
 cases q:H a with
 |none=>rfl
 |some u=>exact absurd (Xg (x.lt q) e) (Yp _)
theorem HOk.kept(x:HOk P w H h)(k:∀b u,h.get? b=some u->h'.get? b=some u):HOk P w H h':=λa o e=>
 (x a o e).stay (λb u _ q=>k b u q) (λ_ q=>q) λ_ _ q=>q
theorem HOk.laid(x:HOk P w H h)(k:∀b u,h.get? b=some u->h'.get? b=some u)(hp:h.objs.size<=a)(new:ObjOk P w (upd H a o) h' a o):HOk P w (upd H a o) h':=λb u e=>by
 have hn:=x.fresh hp
 by_cases hb:b=a
 ·subst hb;rw[xq]at e;cases e;exact new
 ·rw[kW hb]at e;exact(x b u e).stay (λc v _ q=>k c v q) (λc q=>by rw[kW (Jw q hn)];exact q) λc xs q=>by rw[kW (Jw q hn)];exact q
end
def Rd(H:Hp)(a:Addr)(u:HO):Prop:=H a=some u\/∃o,H a=some (.frz o u)
theorem Rd.ok{P:Program}{w:World}{H:Hp}{h:Heap}{a:Addr}{u:HO}(r:Rd H a u)(x:HOk P w H h):ObjOk P w H h a u:=by
 rcases r with r|⟨o,r⟩
 ·exact x a u r
 ·obtain⟨_,q⟩:=x a _ r;exact q
noncomputable def Mut:Option HO->Prop
 |some (.lst _)=>True
 |some (.dK _)=>True
 |some (.dT _)=>True
 |some (.set _ _)=>True
 |some (.ins _ _ _)=>True
 |some (.ext _)=>True
 |_=>False
section
variable {P:Program}{w:World}{H:Hp}{h h':Heap}{x e:Addr}{o':HO}
theorem HOk.write(ok:HOk P w H h)(mu:Mut (H x))(he:e=x\/H e=some (.own x))(k:∀b u,b≠e->h.get? b=some u->h'.get? b=some u)(mn:∃u,h'.get? e=some u)
  (new:ObjOk P w (upd H x o') h' x o'):HOk P w (upd H x o') h':=λb u q=>by
 have qe:∀c y,H c=some (.own y)->c≠x:=λc y r z=>by subst z;rw[r]at mu;exact mu
 have ntup:∀c xs,H c=some (.tup xs)->c≠x:=λc xs r z=>by subst z;rw[r]at mu;exact mu
 by_cases hb:b=x
 ·subst hb;rw[xq]at q;cases q;exact new
 ·rw[kW hb]at q
  by_cases hbe:b=e
  ·have q':H b=some (.own x):=by
    rcases he with z|z
    ·exact absurd (hbe.trans z) hb
    ·rw[hbe];exact z
   rw[q]at q';cases q';obtain⟨v,hv⟩:=mn;exact⟨v,by rw[hbe];exact hv⟩
  ·refine(ok b u q).stay (λc v hc r=>k c v ?_ r) (λc r=>by rw[kW (qe c b r)];exact r) λc xs r=>by rw[kW (ntup c xs r)];exact r
   rcases hc with rfl|hc
   ·exact hbe
   ·rintro rfl;rcases he with z|z
    ·exact qe c b hc z
    ·rw[hc]at z;cases z;exact hb rfl
end
structure Un (fs ex:List Addr)(H H':Hp)(h h':Heap):Prop where
 keep:∀b o,h.get? b=some o->H b=none->b∉fs->b∉ex->h'.get? b=some o
 slot:∀b o,h.get? b=some o->H b=none->b∈fs->b∉ex->∃sl,h'.get? b=some { o with slots:=sl }
 free:∀b o,h.get? b=some o->H b=none->b∉ex->H' b=none
 there:∀b o,h.get? b=some o->b∉ex->∃o',h'.get? b=some o'
 tups:∀b xs,H b=some (.tup xs)->H' b=some (.tup xs)
 frzs:∀b o u,H b=some (.frz o u)->H' b=some (.frz o u)
 tbls:∀b ps,H b=some (.tbl ps)->∃more,H' b=some (.tbl (ps++more))
section
variable {fs fs' ex ex':List Addr}{H H1 H2:Hp}{h h1 h2 h':Heap}{a x e:Addr}{o:HO}
theorem Un.any(u:Un fs ex H H1 h h1){b:Addr}{ob:Obj}(q:h.get? b=some ob)(n:H b=none)(hx:b∉ex):∃sl,h1.get? b=some { ob with slots:=sl }:=by
 by_cases hb:b∈fs
 ·exact u.slot b ob q n hb hx
 ·exact⟨ob.slots,u.keep b ob q n hb hx⟩
theorem Un.kept(k:∀b u,h.get? b=some u->h'.get? b=some u):Un fs ex H H h h':=
 ⟨λb ob q _ _ _=>k b ob q,λb ob q _ _ _=>⟨ob.slots,k b ob q⟩,λ_ _ _ n _=>n,λb ob q _=>⟨ob,k b ob q⟩,λ_ _ q=>q,λ_ _ _ q=>q,λ_ ps q=>⟨#[],by rw[q];simp⟩⟩
theorem Un.refl:Un fs ex H H h h:=Un.kept λ_ _ q=>q
theorem Un.laid(k:∀b u,h.get? b=some u->h'.get? b=some u)(hp:h.objs.size<=a)(hn:H a=none):Un fs ex H (upd H a o) h h' where
 keep:=λb u q _ _ _=>k b u q
 slot:=λb u q _ _ _=>⟨u.slots,k b u q⟩
 free:=λb u q n _=>by rw[kW (Xn (Xg (Xe q) hp))];exact n
 there:=λb u q _=>⟨u,k b u q⟩
 tups:=λb xs q=>by rw[kW (Jw q hn)];exact q
 frzs:=λb u xs q=>by rw[kW (Jw q hn)];exact q
 tbls:=λb ps q=>⟨#[],by rw[kW (Jw q hn),q];simp⟩
theorem Un.write(mu:Mut (H x))(he:e=x\/H e=some (.own x))(k:∀b u,b≠e->h.get? b=some u->h'.get? b=some u)(mn:∃u,h'.get? e=some u):Un fs ex H (upd H x o) h h':=by
 have hx:∀b,H b=none->b≠x:=λb n z=>by subst z;rw[n]at mu;exact mu
 have hb:∀b,H b=none->b≠e:=λb n z=>by
  subst z;rcases he with r|r
  ·exact hx b n r
  ·rw[n]at r;cases r
 have hm:∀b u,H b=some u->¬Mut (some u)->b≠x:=λb u q nm z=>by subst z;rw[q]at mu;exact nm mu
 refine⟨λb u q n _ _=>k b u (hb b n) q,λb u q n _ _=>⟨u.slots,k b u (hb b n) q⟩,λb u q n _=>by rw[kW (hx b n)];exact n,λb u q _=>?_,
  λb xs q=>by rw[kW (hm b _ q λz=>z)];exact q,λb u xs q=>by rw[kW (hm b _ q λz=>z)];exact q,λb ps q=>⟨#[],by rw[kW (hm b _ q λz=>z),q];simp⟩⟩
 by_cases hbe:b=e
 ·subst hbe;exact mn
 ·exact⟨u,k b u hbe q⟩
end
def trk(h:Heap)(H:Hp):List Addr:=(List.range h.objs.size).filter λa=>(H a).isSome
def Kv(h:Heap)(H:Hp):Heap:=PySem.W.hideAll h (trk h H)
theorem qqw(h:Heap)(H:Hp):(Kv h H).objs.size=h.objs.size:=PySem.W.hideAll_size _ _
theorem qx7{h:Heap}{H:Hp}{b:Addr}{o:Obj}(e:h.get? b=some o)(n:H b=none):(Kv h H).get? b=some o:=
 PySem.W.hideAll_get _ e λhm=>by
  have q:(H b).isSome=true:=(List.mem_filter.mp hm).2;rw[n]at q;simp at q
theorem vjl{h:Heap}{H:Hp}{b:Addr}{o:Obj}(e:(Kv h H).get? b=some o):h.get? b=some o/\H b=none:=by
 have e':h.get? b=some o:=PySem.W.of_hideAll (trk h H) e;refine⟨e',?_⟩;cases q:H b with
 |none=>rfl
 |some x=>
  have hm:b∈trk h H:=List.mem_filter.mpr ⟨List.mem_range.mpr (Xe e'),by simp[q]⟩;have z:(Kv h H).get? b=none:=PySem.W.hideAll_none (trk h H) hm;rw[z]at e;cases e
noncomputable def vki(g h:Heap)(L:Addr):List (Addr×Obj):=(List.range h.objs.size).filterMap λa=>if a=L\/(g.get? a).isSome=true then none else(h.get? a).map λo=>(a,o)
def j8(g h:Heap)(L d:Addr):List (Addr×Obj):=(vki g h L).filter λp=>decide (p.1≠d)
structure Mod (K:PySem.W.Frag)(mg:Str->Option Value)(base:Heap):Prop where
 kin:K.In base
 glob:base.Ns mainGlobals mg
 blt:∃mb,base.Ns builtinsNs mb/\∀x:Str,x≠"__name__"->mb x=bootBuiltins x
 nolimit:base.NoLimit
structure Cx where
 prog:Program
 w:World
 K:PySem.W.Frag
 mg:Str->Option Value
 base:Heap
 A:Around
 N:List Str
 s₀:Shared
 H₀:Hp
 env:Env
 outer:List Env
 stack:List Env
 ex:List Addr
 fn:Str->Bool
 calm:Bool
 pn:List (Addr×Obj)
 xe:Value->Shared->Prop
def frs(l:List Env):List Addr:=l.filterMap (·.frame)
abbrev Cx.fs(X:Cx):List Addr:=frs X.outer
noncomputable def Vis(sc:Scope)(x:Str):Prop:=sc.names.lookup x=some .local\/sc.names.lookup x=some .cell\/sc.names.lookup x=some .free
def Loc(sc:Scope)(x:Str):Prop:=sc.names.lookup x=some .local\/sc.names.lookup x=some .cell
noncomputable def Look(env:Env)(h:Heap)(m:Str->Option Value)(x:Str)(u:Value):Prop:=
 (env.kindOf x=some .local/\m x=some u)\/((env.kindOf x=some .cell\/env.kindOf x=some .free)/\∃c,env.cells.lookup x=some c/\h.IsCell c (some u))
structure Cx.Ok (X:Cx):Prop where
 mod:Mod X.K X.mg X.base
 kind:X.env.scope.kind=.function
 glob:X.env.globals=mainGlobals
 blt:X.env.builtins=builtinsNs
 above:X.s₀.heap.objs.size<=X.env.locals
 inj:∀x y c,X.env.cells.lookup x=some c->X.env.cells.lookup y=some c->x=y
 has:∀x,(X.env.kindOf x=some .cell\/X.env.kindOf x=some .free)->∃c,X.env.cells.lookup x=some c
 cab:∀x c,X.fn x=true->X.env.cells.lookup x=some c->X.s₀.heap.objs.size<=c
 hd:X.calm=true->X.A.handled=none
 frames:X.A.frames=some X.stack
 stk:X.stack=X.outer\/(X.stack=X.env::X.outer/\X.env.frame=some X.env.locals)
 exf:∀b∈X.ex,b≠X.env.locals/\∀x c,X.env.cells.lookup x=some c->c≠b
 bs:∀b o,X.base.get? b=some o->X.s₀.heap.get? b=some o/\X.H₀ b=none
 bsz:X.base.objs.size<=X.s₀.heap.objs.size
 noex:∀b o,X.base.get? b=some o->b∉X.ex
 exfs:∀b∈X.ex,b∉X.fs
 funs:X.s₀.heap.FunFrames X.base X.outer
 frf:∀b∈X.fs,X.H₀ b=none
structure Inv (X:Cx)(pins:List (Addr×Obj))(σ:List (Option V))(H:Hp)(s:Shared):Prop where
 ok:X.Ok
 os:s.os=X.s₀.os
 bare:AllBare s.gens
 base:Un X.fs X.ex X.H₀ H X.s₀.heap s.heap
 loc:∃m,s.heap.Ns X.env.locals m/\∀(i:Nat) (x:Str) (v:V),X.N[i]?=some x->σ[i]?=some (some v)->Vis X.env.scope x->∃u,RelV v u/\Look X.env s.heap m x u
 cell:∀x c,X.env.cells.lookup x=some c->∃v,s.heap.IsCell c v
 free:H X.env.locals=none
 freeC:∀x c,X.env.cells.lookup x=some c->H c=none
 pin:∀p∈X.pn++pins,s.heap.get? p.1=some p.2/\H p.1=none/\p.1≠X.env.locals/\p.1∉X.fs/\∀v,p.2.data≠.cell v
 hok:HOk X.prog X.w H s.heap
 len:σ.length=X.N.length
section
variable {X:Cx}{pins:List (Addr×Obj)}{σ:List (Option V)}{H H':Hp}{s:Shared}{h':Heap}
theorem Cx.Ok.nofr(ok:X.Ok){b:Addr}{o:Obj}(e:X.base.get? b=some o):b∉X.fs:=λhb=>by
 have:=(ok.funs.mem hb).1;rw[e]at this;cases this
theorem Inv.bs(I:Inv X pins σ H s):∀b o,X.base.get? b=some o->s.heap.get? b=some o/\H b=none:=λb o e=>
 ⟨I.base.keep b o (I.ok.bs b o e).1 (I.ok.bs b o e).2 (I.ok.nofr e) (I.ok.noex b o e),I.base.free b o (I.ok.bs b o e).1 (I.ok.bs b o e).2 (I.ok.noex b o e)⟩
theorem Inv.bk(I:Inv X pins σ H s):∀b o,X.base.get? b=some o->s.heap.get? b=some o:=λb o e=>(I.bs b o e).1
theorem Inv.mod(I:Inv X pins σ H s):Mod X.K X.mg X.base:=I.ok.mod
theorem Inv.kIn(I:Inv X pins σ H s):X.K.In s.heap:=I.ok.mod.kin.keeps I.bk
theorem Inv.lt(I:Inv X pins σ H s):X.env.locals<s.heap.objs.size:=let ⟨_,hn,_⟩:=I.loc;hn.lt
theorem Inv.sz(I:Inv X pins σ H s):X.s₀.heap.objs.size<=s.heap.objs.size:=Yk I.ok.above (Nat.le_of_lt I.lt)
theorem Inv.nofs(I:Inv X pins σ H s){a:Addr}(h:s.heap.objs.size<=a):a∉X.fs:=λhb=>by
 obtain⟨_,o,ho,_⟩:=I.ok.funs.mem hb;exact absurd (Xg (Xe ho) (Yk I.sz h)) (Yp _)
theorem Inv.cne(I:Inv X pins σ H s):∀x c,X.env.cells.lookup x=some c->c≠X.env.locals:=λx c e z=>by
 obtain⟨v,o,ho,hd⟩:=I.cell x c e;obtain⟨m,⟨o',es,ep,fq,i',_⟩,_⟩:=I.loc;rw[z,fq]at ho;cases ho;rw[i']at hd;cases hd
theorem Inv.funs(I:Inv X pins σ H s):s.heap.FunFrames X.base X.outer:=by
 have all:∀(l:List Env),(∀b∈frs l,b∈X.fs)->X.s₀.heap.FunFrames X.base l->s.heap.FunFrames X.base l:=by
  intro l
  induction l with
  |nil=>intro _ _;trivial
  |cons env r ih=>
   intro hs hl;obtain⟨hk,⟨L,o,hf,hn,ho,hd⟩,hr⟩:=hl;have hL:L∈X.fs:=hs L (by unfold frs;rw[List.filterMap_cons,hf];exact X3);obtain⟨sl,e⟩:=I.base.slot L o ho (I.ok.frf L hL) hL λz=>I.ok.exfs L z hL
   exact⟨hk,⟨L,_,hf,hn,e,hd⟩,ih (λb hb=>hs b (by unfold frs;rw[List.filterMap_cons,hf];exact lc9 _ hb)) hr⟩
 exact all X.outer (λ_ hb=>hb) I.ok.funs
theorem Inv.stack(I:Inv X pins σ H s):s.heap.FunFrames X.base X.stack:=by
 rcases I.ok.stk with e|⟨e,hf⟩
 ·rw[e];exact I.funs
 ·rw[e];obtain⟨m,hn,_⟩:=I.loc;refine .cons (by rw[I.ok.kind];decide) hf hn ?_ I.funs;exact Heap.get?_none_of_le (Yk I.ok.bsz I.ok.above)
theorem Inv.stkSub(I:Inv X pins σ H s):∀b∈frs X.stack,b∈X.env.locals::X.fs:=λb hb=>by
 rcases I.ok.stk with e|⟨e,hf⟩
 ·rw[e]at hb;exact lc9 _ hb
 ·rw[e]at hb;unfold frs at hb;rw[List.filterMap_cons,hf]at hb;exact hb
theorem Inv.stkFree(I:Inv X pins σ H s):∀b∈frs X.stack,H b=none:=λb hb=>by
 rcases List.mem_cons.mp (I.stkSub b hb)with e|hb
 ·rw[e];exact I.free
 ·obtain⟨_,o,ho,_⟩:=I.ok.funs.mem hb;exact I.base.free b o ho (I.ok.frf b hb) λz=>I.ok.exfs b z hb
theorem Inv.step{g':Array GenState}{t':Nat}{d':Drawn}{ch:List Addr}(I:Inv X pins σ H s)
  (fg:∀b∈ch,(b∈X.ex\/X.s₀.heap.objs.size<=b)/\b≠X.env.locals/\(∀x c,X.env.cells.lookup x=some c->c≠b)/\∀p∈X.pn++pins,p.1≠b)
  (keep:∀b o,b≠X.env.locals->b∉X.fs->b∉ch->s.heap.get? b=some o->H b=none->h'.get? b=some o)
  (slot:∀b o,b≠X.env.locals->b∈X.fs->b∉ch->s.heap.get? b=some o->H b=none->∃sl,h'.get? b=some { o with slots:=sl }) (free:∀b o,b∉ch->s.heap.get? b=some o->H b=none->H' b=none)
  (there:∀b o,b∉ch->s.heap.get? b=some o->∃o',h'.get? b=some o')
  (tups:∀b xs,H b=some (.tup xs)->H' b=some (.tup xs)) (frzs:∀b o u,H b=some (.frz o u)->H' b=some (.frz o u)) (tbls:∀b ps,H b=some (.tbl ps)->∃more,H' b=some (.tbl (ps++more)))
  (ns:∀m,s.heap.Ns X.env.locals m->h'.Ns X.env.locals m) (hok:HOk X.prog X.w H' h') (hg:AllBare g'):
  Inv X pins σ H' { s with heap:=h',gens:=g',drawn:=d',toks:=t' }:=by
 have qt:∀b o,X.s₀.heap.get? b=some o->b≠X.env.locals:=λb o e=>Xn (Xg (Xe e) I.ok.above)
 have kd:∀b o,X.s₀.heap.get? b=some o->b∉X.ex->b∉ch:=λb o e hx hb=>by
  rcases(fg b hb).1 with z|z
  ·exact hx z
  ·exact absurd (Xg (Xe e) z) (Yp _)
 have fw:∀x c,X.env.cells.lookup x=some c->∀v,s.heap.IsCell c v->h'.IsCell c v:=λx c e v ⟨o,ho,hd⟩=>by
  have je:c∉ch:=λz=>(fg c z).2.2.1 x c e rfl
  by_cases hc:c∈X.fs
  ·obtain⟨sl,q⟩:=slot c o (I.cne x c e) hc je ho (I.freeC x c e);exact⟨_,q,hd⟩
  ·exact⟨o,keep c o (I.cne x c e) hc je ho (I.freeC x c e),hd⟩
 refine⟨I.ok,I.os,hg,⟨λb o e n hb hx=>?_,λb o e n hb hx=>?_,λb o e n hx=>?_,λb o e hx=>?_,λb xs e=>tups b xs (I.base.tups b xs e),λb o xs e=>frzs b o xs (I.base.frzs b o xs e),λb ps e=>?_⟩,?_,λx c e=>?_,?_,λx c e=>?_,λp hp=>?_,hok,I.len⟩
 ·exact keep b o (qt b o e) hb (kd b o e hx) (I.base.keep b o e n hb hx) (I.base.free b o e n hx)
 ·obtain⟨sl,e1⟩:=I.base.slot b o e n hb hx;obtain⟨sl',e2⟩:=slot b _ (qt b o e) hb (kd b o e hx) e1 (I.base.free b o e n hx);exact⟨sl',e2⟩
 ·obtain⟨o',e1⟩:=I.base.there b o e hx;exact free b o' (kd b o e hx) e1 (I.base.free b o e n hx)
 ·obtain⟨o',e1⟩:=I.base.there b o e hx;exact there b o' (kd b o e hx) e1
 ·obtain⟨m1,e1⟩:=I.base.tbls b ps e;obtain⟨m2,e2⟩:=tbls b _ e1;exact⟨m1++m2,by rw[e2,Array.append_assoc]⟩
 ·obtain⟨m,hn,hl⟩:=I.loc;refine⟨m,ns m hn,λi x v e1 e2 e3=>?_⟩;obtain⟨u,r,l⟩:=hl i x v e1 e2 e3;refine⟨u,r,?_⟩;rcases l with l|⟨k,c,e,z⟩
  ·exact .inl l
  ·exact .inr ⟨k,c,e,fw x c e _ z⟩
 ·obtain⟨v,z⟩:=I.cell x c e;exact⟨v,fw x c e v z⟩
 ·obtain⟨m,⟨o,_,_,ho,_⟩,_⟩:=I.loc;exact free _ o (λz=>(fg _ z).2.1 rfl) ho I.free
 ·obtain⟨v,o,ho,hd⟩:=I.cell x c e;exact free c o (λz=>(fg c z).2.2.1 x c e rfl) ho (I.freeC x c e)
 ·obtain⟨e,n,ne,nf,d⟩:=I.pin p hp;have je:p.1∉ch:=λz=>(fg p.1 z).2.2.2 p hp rfl
  exact⟨keep p.1 p.2 ne nf je e n,free p.1 p.2 je e n,ne,nf,d⟩
theorem Inv.un{t':Nat}(I:Inv X pins σ H s)(u:Un X.fs [] H H' s.heap h')(hok:HOk X.prog X.w H' h'):Inv X pins σ H' { s with heap:=h',toks:=t' }:=by
 obtain⟨m,⟨o,es,ep,ho,r⟩,_⟩:=id I.loc;obtain⟨sl,hL⟩:=u.any ho I.free (by simp);exact I.step (g':=s.gens) (d':=s.drawn) (ch:=[]) (λ_ z=>nomatch z) (λb o _ hb _ e n=>u.keep b o e n hb (by simp)) (λb o _ hb _ e n=>u.slot b o e n hb (by simp)) (λb o _ e n=>u.free b o e n (by simp)) (λb o _ e=>u.there b o e (by simp)) u.tups u.frzs u.tbls (λm' hm=>by
  obtain⟨o',es',n9,fq,r'⟩:=hm;rw[ho]at fq;cases fq;exact⟨_,es',n9,hL,r'⟩) hok I.bare
theorem Inv.call{g':Array GenState}{t':Nat}{d':Drawn}{ch:List Addr}(I:Inv X pins σ H s)(u:Un (frs X.stack) ch H H' s.heap h')(hok:HOk X.prog X.w H' h')(hg:AllBare g')
  (fg:∀b∈ch,(b∈X.ex\/X.s₀.heap.objs.size<=b)/\b≠X.env.locals/\(∀x c,X.env.cells.lookup x=some c->c≠b)/\∀p∈X.pn++pins,p.1≠b):
  Inv X pins σ H' { s with heap:=h',gens:=g',drawn:=d',toks:=t' }:=by
 obtain⟨m,⟨o,es,ep,ho,r⟩,_⟩:=id I.loc;obtain⟨sl,hL⟩:=u.any ho I.free λz=>(fg _ z).2.1 rfl
 exact I.step (ch:=ch) fg (λb o hL hb hc e n=>u.keep b o e n (λz=>(List.mem_cons.mp (I.stkSub b z)).elim hL hb) hc) (λb o _ _ hc e n=>u.any e n hc) (λb o hc e n=>u.free b o e n hc) (λb o hc e=>u.there b o e hc) u.tups u.frzs u.tbls (λm' hm=>by
  obtain⟨o',es',n9,fq,r'⟩:=hm;rw[ho]at fq;cases fq;exact⟨_,es',n9,hL,r'⟩) hok hg
theorem Inv.turned{t':Nat}{it:Addr}(I:Inv X pins σ H s)(k:∀b o,b≠it->s.heap.get? b=some o->h'.get? b=some o)(hn:H it=none)(hL:it≠X.env.locals)
  (h1:it∈X.ex\/X.s₀.heap.objs.size<=it) (h2:∀x c,X.env.cells.lookup x=some c->c≠it) (h3:∀p∈X.pn++pins,p.1≠it):Inv X pins σ H { s with heap:=h',toks:=t' }:=by
 have nit:∀b u,H b=some u->b≠it:=λb u e z=>by rw[z,hn]at e;cases e
 refine I.step (g':=s.gens) (d':=s.drawn) (ch:=[it]) (λb hb=>?_) (λb o _ _ hc e _=>k b o (λz=>hc (by simp[z])) e) (λb o _ _ hc e _=>⟨o.slots,k b o (λz=>hc (by simp[z])) e⟩) (λ_ _ _ _ n=>n)
  (λb o hc e=>⟨o,k b o (λz=>hc (by simp[z])) e⟩) (λ_ _ e=>e) (λ_ _ _ e=>e) (λb ps e=>⟨#[],by rw[e];simp⟩) (λm hm=>?_) (λb u e=>?_) I.bare
 ·have e:b=it:=by simpa using hb
  subst e;exact⟨h1,hL,h2,h3⟩
 ·obtain⟨o,es,ep,ho,r⟩:=hm;exact⟨o,es,ep,k _ o (Z6 hL) ho,r⟩
 ·refine(I.hok b u e).stay (λc v hc q=>k c v ?_ q) (λ_ q=>q) λ_ _ q=>q
  rcases hc with z|z
  ·rw[z];exact nit b u e
  ·exact nit c _ z
theorem Inv.tok(I:Inv X pins σ H s)(t:Nat):Inv X pins σ H { s with toks:=t }:=I.un (h':=s.heap) (t':=t) Un.refl I.hok
theorem Inv.kept{t':Nat}(I:Inv X pins σ H s)(k:∀b u,s.heap.get? b=some u->h'.get? b=some u):Inv X pins σ H { s with heap:=h',toks:=t' }:=I.un (Un.kept k) (I.hok.kept k)
theorem Inv.laid{a:Addr}{o:HO}{t':Nat}(I:Inv X pins σ H s)(k:∀b u,s.heap.get? b=some u->h'.get? b=some u)(hp:s.heap.objs.size<=a)(new:ObjOk X.prog X.w (upd H a o) h' a o):
  Inv X pins σ (upd H a o) { s with heap:=h',toks:=t' }:=I.un (Un.laid k hp (I.hok.fresh hp)) (I.hok.laid k hp new)
theorem Inv.write{x e:Addr}{o:HO}{t':Nat}(I:Inv X pins σ H s)(mu:Mut (H x))(he:e=x\/H e=some (.own x))(k:∀b u,b≠e->s.heap.get? b=some u->h'.get? b=some u)(mn:∃u,h'.get? e=some u)
  (new:ObjOk X.prog X.w (upd H x o) h' x o):Inv X pins σ (upd H x o) { s with heap:=h',toks:=t' }:=I.un (Un.write mu he k mn) (I.hok.write mu he k mn new)
theorem Inv.pins_of{cm:List (Addr×Obj)}(I:Inv X pins σ H s)(h:∀p∈cm,s.heap.get? p.1=some p.2/\H p.1=none/\p.1≠X.env.locals/\p.1∉X.fs/\∀v,p.2.data≠.cell v):Inv X cm σ H s:=
 ⟨I.ok,I.os,I.bare,I.base,I.loc,I.cell,I.free,I.freeC,λp hp=>(List.mem_append.mp hp).elim (λz=>I.pin p (ll9 _ z)) (h p),I.hok,I.len⟩
theorem kza{N:List Str}(hN:N.Nodup){i j:Nat}{x:Str}(a:N[i]?=some x)(b:N[j]?=some x):i=j:=by
 obtain⟨h1,e1⟩:=List.getElem?_eq_some_iff.mp a;obtain⟨h2,e2⟩:=List.getElem?_eq_some_iff.mp b;exact(List.getElem_inj hN).mp (e1.trans e2.symm)
theorem qk0{M:Model}{A:Around}{E:Value->Shared->Prop}{i:Nat}{x:Str}{v:V}{u:Value}{Q:Unit->Shared->Prop}(I:Inv X pins σ H s)(hN:X.N.Nodup)(hi:X.N[i]?=some x)(hx:Loc X.env.scope x)(r:RelV v u)
  (h:∀s',Inv X pins (σ.set i (some v)) H s'->(∃a,Heap.SameBut a s.heap s'.heap/\(a=X.env.locals\/X.env.cells.lookup x=some a))->Q () s') (hf:autoParam (X.fn x=true\/X.env.scope.names.lookup x=some .local) Ř):wpAny M A (storeName X.env x u) Q E s:=by
 obtain⟨m,hn,hl⟩:=id I.loc;have hcls:(X.env.scope.kind == .class||(X.env.scope.kind == .module&&X.env.locals != X.env.globals))=false:=by rw[I.ok.kind];rfl
 have hiσ:i < σ.length:=by rw[I.len];exact(List.getElem?_eq_some_iff.mp hi).1
 have cne:=I.cne;have i8:∀{a:Addr} {h':Heap},(∃o,s.heap.get? a=some o/\H a=none)->Heap.SameBut a s.heap h'->HOk X.prog X.w H h':=fun {a h'} ha hs b ob e=>by
  obtain⟨_,_,be⟩:=ha;refine(I.hok b ob e).stay (λc w' hc q=>(hs.2 c ?_).trans q) (λ_ q=>q) λ_ _ q=>q
  rintro rfl;rcases hc with rfl|hc
  ·rw[be]at e;cases e
  ·rw[be]at hc;cases hc
 rcases hx with hk|hk
 ·refine wpAny_storeName_local hk hn (λh' hn' hs=>?_) hcls;obtain⟨oL,_,_,om,_⟩:=id hn;refine h _ ⟨I.ok,I.os,I.bare,⟨λb o e n hb hx=>?_,λb o e n hb hx=>?_,I.base.free,λb o e hx=>?_,I.base.tups,I.base.frzs,I.base.tbls⟩,⟨_,hn',λj y v' e1 e2 e3=>?_⟩,λy c e=>?_,I.free,I.freeC,λp hp=>?_,i8 ⟨oL,om,I.free⟩ hs,by simpa using I.len⟩ ⟨_,hs,.inl rfl⟩
  ·exact(hs.2 b (Xn (Xg (Xe e) I.ok.above))).trans (I.base.keep b o e n hb hx)
  ·obtain⟨sl,e1⟩:=I.base.slot b o e n hb hx;exact⟨sl,(hs.2 b (Xn (Xg (Xe e) I.ok.above))).trans e1⟩
  ·obtain⟨o',e1⟩:=I.base.there b o e hx;exact⟨o',(hs.2 b (Xn (Xg (Xe e) I.ok.above))).trans e1⟩
  ·by_cases hj:j=i
   ·subst hj;rw[hi]at e1;cases e1;rw[Ye hiσ]at e2;cases e2;exact⟨u,r,.inl ⟨hk,by simp⟩⟩
   ·rw[Xz (Z6 hj)]at e2;obtain⟨u',r',q⟩:=hl j y v' e1 e2 e3;refine⟨u',r',?_⟩;rcases q with⟨k,e⟩|⟨k,c,e,z⟩
    ·refine .inl ⟨k,?_⟩;have:y≠x:=λe=>hj (kza hN e1 (e▸hi))
     simp[this,e]
    ·exact .inr ⟨k,c,e,z.sameBut hs (cne y c e)⟩
  ·obtain⟨w',z⟩:=I.cell y c e;exact⟨w',z.sameBut hs (cne y c e)⟩
  ·obtain⟨e,n,ne,nf,d⟩:=I.pin p hp;exact⟨(hs.2 p.1 ne).trans e,n,ne,nf,d⟩
 ·have hfn:X.fn x=true:=by
   rcases hf with z|z
   ·exact z
   ·rw[z]at hk;cases hk
  obtain⟨c,hc⟩:=I.ok.has x (.inl hk);obtain⟨w',z⟩:=I.cell x c hc;refine wpAny_storeName_cell I.ok.kind hk hc z (λh' lc hs=>?_);obtain⟨oc,hoc,hocd⟩:=id z;refine h { s with heap:=h' } ⟨I.ok,I.os,I.bare,⟨λb o e n hb hx=>?_,λb o e n hb hx=>?_,I.base.free,λb o e hx=>?_,I.base.tups,I.base.frzs,I.base.tbls⟩,⟨m,hn.sameBut hs (Z6 (cne x c hc)),λj y v' e1 e2 e3=>?_⟩,λy c' e=>?_,I.free,I.freeC,λp hp=>?_,i8 ⟨oc,hoc,I.freeC x c hc⟩ hs,by simpa using I.len⟩ ⟨c,hs,.inr hc⟩
  ·exact(hs.2 b (Xn (Xg (Xe e) (I.ok.cab x c hfn hc)))).trans (I.base.keep b o e n hb hx)
  ·obtain⟨sl,e1⟩:=I.base.slot b o e n hb hx;exact⟨sl,(hs.2 b (Xn (Xg (Xe e) (I.ok.cab x c hfn hc)))).trans e1⟩
  ·obtain⟨o',e1⟩:=I.base.there b o e hx;exact⟨o',(hs.2 b (Xn (Xg (Xe e) (I.ok.cab x c hfn hc)))).trans e1⟩
  ·by_cases hj:j=i
   ·subst hj;rw[hi]at e1;cases e1;rw[Ye hiσ]at e2;cases e2;exact⟨u,r,.inr ⟨.inl hk,c,hc,lc⟩⟩
   ·rw[Xz (Z6 hj)]at e2;obtain⟨u',r',q⟩:=hl j y v' e1 e2 e3;refine⟨u',r',?_⟩;rcases q with q|⟨k,c',e,z'⟩
    ·exact .inl q
    ·refine .inr ⟨k,c',e,z'.sameBut hs ?_⟩;rintro rfl;exact hj (kza hN e1 (I.ok.inj _ _ _ e hc▸hi))
  ·by_cases i4:c'=c
   ·subst i4;exact⟨_,lc⟩
   ·obtain⟨w2,z2⟩:=I.cell y c' e;exact⟨w2,z2.sameBut hs i4⟩
  ·obtain⟨e,n,ne,nf,d⟩:=I.pin p hp;refine⟨(hs.2 p.1 ?_).trans e,n,ne,nf,d⟩;intro q;rw[q,hoc]at e;have q':oc=p.2:=oq9 e;exact d w' (by rw[<-q'];exact hocd)
theorem kq4{M:Model}{A:Around}{E:Value->Shared->Prop}{i:Nat}{x:Str}{v:V}{u:Value}{Q:Unit->Shared->Prop}(I:Inv X pins σ H s)(hN:X.N.Nodup)(hi:X.N[i]?=some x)(hx:Loc X.env.scope x)(r:RelV v u)
  (h:∀s',Inv X pins (σ.set i (some v)) H s'->Q () s') (hf:autoParam (X.fn x=true\/X.env.scope.names.lookup x=some .local) Ř):wpAny M A (storeName X.env x u) Q E s:=
 qk0 I hN hi hx r (λs' I' _=>h s' I') hf
theorem Inv.call'{s':Shared}{ch:List Addr}(I:Inv X pins σ H s)(ho:s'.os=s.os)(u:Un (frs X.stack) ch H H' s.heap s'.heap)(hok:HOk X.prog X.w H' s'.heap)(hg:AllBare s'.gens)
  (fg:∀b∈ch,(b∈X.ex\/X.s₀.heap.objs.size<=b)/\b≠X.env.locals/\(∀x c,X.env.cells.lookup x=some c->c≠b)/\∀p∈X.pn++pins,p.1≠b):Inv X pins σ H' s':=by
 obtain⟨h',g',d',t',o'⟩:=s';have e:o'=s.os:=ho;subst e;exact I.call (g':=g') (t':=t') (d':=d') u hok hg fg
end
abbrev XK:=Value->Option Addr->Hp->Prop
abbrev St:=List (Option V)
abbrev VK:=V->Hp->Prop
abbrev TE:=St->Hp->VK->Prop
abbrev TT:=St->Hp->(Bool->Hp->Prop)->Prop
abbrev TA:=St->Hp->(List V->Hp->Prop)->Prop
structure Ends where
 nx:St->Hp->Prop
 rt:VK
 bk:St->Hp->Prop:=λ_ _=>False
 ct:St->Hp->Prop:=λ_ _=>False
abbrev TS:=Ends->St->Hp->Prop
noncomputable def EP(X:Cx)(pins:List (Addr×Obj))(σ:St)(Q:VK)(u:Value)(s':Shared):Prop:=∃v H',Inv X pins σ H' s'/\RelV v u/\Q v H'
noncomputable def TP(X:Cx)(pins:List (Addr×Obj))(σ:St)(Q:Bool->Hp->Prop)(b:Bool)(s':Shared):Prop:=∃H',Inv X pins σ H' s'/\Q b H'
noncomputable def AP(X:Cx)(pins:List (Addr×Obj))(σ:St)(Q:List V->Hp->Prop)(us:List Value)(s':Shared):Prop:=∃vs H',Inv X pins σ H' s'/\Vals vs us/\Q vs H'
noncomputable def SP(X:Cx)(pins:List (Addr×Obj))(D:Ends)(f:Flow)(s':Shared):Prop:=
 match f with
 |.next=>∃ σ' H',Inv X pins σ' H' s'/\D.nx σ' H'
 |.brk=>∃ σ' H',Inv X pins σ' H' s'/\D.bk σ' H'
 |.cont=>∃ σ' H',Inv X pins σ' H' s'/\D.ct σ' H'
 |.ret u=>∃v σ' H',Inv X pins σ' H' s'/\RelV v u/\D.rt v H'
noncomputable def PE(X:Cx)(e:Expr)(t:TE):Prop:=
 ∀(pins:List (Addr×Obj)) (s:Shared) (σ:St) (H:Hp) (Q:VK),Inv X pins σ H s->t σ H Q->wpAny (model X.prog X.w) X.A (eval e X.env) (EP X pins σ Q) X.xe s
noncomputable def PT(X:Cx)(e:Expr)(t:TT):Prop:=
 ∀(pins:List (Addr×Obj)) (s:Shared) (σ:St) (H:Hp) (Q:Bool->Hp->Prop),Inv X pins σ H s->t σ H Q->wpAny (model X.prog X.w) X.A (isTrue e X.env (eval e X.env)) (TP X pins σ Q) X.xe s
noncomputable def PW(X:Cx)(e:Expr)(t:TT):Prop:=
 ∀(dw:Sem Value) (pins:List (Addr×Obj)) (s:Shared) (σ:St) (H:Hp) (Q:Bool->Hp->Prop),Inv X pins σ H s->t σ H Q->wpAny (model X.prog X.w) X.A (isTrue e X.env dw) (TP X pins σ Q) X.xe s
theorem PW.pt{X:Cx}{e:Expr}{t:TT}(h:PW X e t):PT X e t:=h _
noncomputable def PA(X:Cx)(es:List Expr)(t:TA):Prop:=
 ∀(pos:Pos) (pins:List (Addr×Obj)) (s:Shared) (σ:St) (H:Hp) (Q:List V->Hp->Prop),Inv X pins σ H s->t σ H Q->wpAny (model X.prog X.w) X.A (spliced (backTo pos (starEach es X.env))) (AP X pins σ Q) X.xe s
noncomputable def PS(X:Cx)(st:Stmt)(t:TS):Prop:=
 ∀(pins:List (Addr×Obj)) (s:Shared) (σ:St) (H:Hp) (D:Ends),Inv X pins σ H s->t D σ H->wpAny (model X.prog X.w) X.A (exec st X.env) (SP X pins D) X.xe s
noncomputable def PSs(X:Cx)(st:List Stmt)(t:TS):Prop:=
 ∀(pins:List (Addr×Obj)) (s:Shared) (σ:St) (H:Hp) (D:Ends),Inv X pins σ H s->t D σ H->wpAny (model X.prog X.w) X.A (execs st X.env) (SP X pins D) X.xe s
theorem thn{α:Type}{t:Sem α}{Q Q':α->Shared->Prop}{M:Model}{A:Around}{E:Value->Shared->Prop}{s:Shared}(h:wpAny M A t Q E s)(hQ:∀a s,Q a s->Q' a s):wpAny M A t Q' E s:=wpAny_mono h hQ λ_ _ x=>x
section
variable {X:Cx}
abbrev xW(i:Nat):TE:=fun σ H Q=>∃v,σ[i]?=some (some v)/\Q v H
abbrev tC(v:V):TE:=λ_ H Q=>Q v H
theorem vvj{i:Nat}{x:Str}{pos:Pos}(hN:X.N[i]?=some x)(hv:Vis X.env.scope x)(hd:autoParam ((x==("__debug__":Str))=false) ŕ)(gk:autoParam ((x==("__classdict__":Str))=false) ŕ):PE X (.Name x pos) (xW i):=by
 intro pins s σ H Q I h;obtain⟨v,e,h⟩:=h;obtain⟨m,hn,hl⟩:=I.loc;obtain⟨u,r,l⟩:=hl i x v hN e hv;have fin:EP X pins σ Q u s:=⟨v,H,I,r,h⟩;rcases l with⟨hk,hm⟩|⟨hk,c,hc,hcell⟩
 ·exact wpAny_Name (wpAny_loadName_local I.ok.kind hk hn hm fin) hd
 ·rcases hk with hk|hk
  ·exact wpAny_Name (wpAny_loadName_cell I.ok.kind hk hc hcell fin) hd
  ·exact wpAny_Name (wpAny_loadName_free I.ok.kind hk hc hcell fin gk) hd
theorem qku{i j pos}:PE X (.Constant (.int i) j pos) (tC (.int i)):=λ_ _ _ H _ I h=>wpAny_Constant_int ⟨.int i,H,I.tok _,⟨_,rfl⟩,h⟩
theorem vQ{b j pos}:PE X (.Constant (.bool b) j pos) (tC (.bl b)):=λ_ _ _ H _ I h=>Constant_bool ⟨.bl b,H,I,rfl,h⟩
theorem vvp{j pos}:PE X (.Constant .none j pos) (tC .non):=λ_ _ _ H _ I h=>Constant_none ⟨.non,H,I,rfl,h⟩
theorem vvm{x j pos}:PE X (.Constant (.str x) j pos) (tC (.str x)):=λ_ _ _ H _ I h=>Calls.Constant_str ⟨.str x,H,I.tok _,⟨_,rfl⟩,h⟩
def Gl(X:Cx)(x:Str):Prop:=X.env.kindOf x=some .globalImplicit
theorem qqh{E:Value->Shared->Prop}{pins:List (Addr×Obj)}{s:Shared}{σ:St}{H:Hp}{x:Str}{u:Value}{pos:Pos}{Q:Value->Shared->Prop}(I:Inv X pins σ H s)(hg:Gl X x)(hm:X.mg x=some u)(h:Q u s)
  (hd:autoParam ((x==("__debug__":Str))=false) ŕ):wpAny (model X.prog X.w) X.A (eval (.Name x pos) X.env) Q E s:=
 Calls.Name_function_global I.ok.kind hg (Calls.loadGlobal_global (by rw[I.ok.glob];exact I.mod.glob.keeps I.bk) hm h) hd
theorem Jq{E:Value->Shared->Prop}{pins:List (Addr×Obj)}{s:Shared}{σ:St}{H:Hp}{x:Str}{u:Value}{pos:Pos}{Q:Value->Shared->Prop}(I:Inv X pins σ H s)(hg:Gl X x)(hm:X.mg x=none)(hv:bootBuiltins x=some u)(h:Q u s)
  (hn:autoParam (x≠"__name__") ŕ) (hd:autoParam ((x==("__debug__":Str))=false) ŕ):wpAny (model X.prog X.w) X.A (eval (.Name x pos) X.env) Q E s:=by
 obtain⟨mb,h1,h2⟩:=I.mod.blt;exact Calls.Name_function_global I.ok.kind hg (Calls.loadGlobal_builtin (by rw[I.ok.glob];exact I.mod.glob.keeps I.bk) hm (by rw[I.ok.blt];exact h1.keeps I.bk) ((h2 x hn).trans hv) h) hd
theorem vjc{x:Str}{v:V}{u:Value}{pos:Pos}(hg:Gl X x)(hm:X.mg x=some u)(r:RelV v u)(hd:autoParam ((x==("__debug__":Str))=false) ŕ):PE X (.Name x pos) (tC v):=
 λ_ _ _ H _ I h=>qqh I hg hm ⟨v,H,I,r,h⟩ hd
theorem qky{x:Str}{v:V}{u:Value}{pos:Pos}(hg:Gl X x)(hm:X.mg x=none)(hv:bootBuiltins x=some u)(r:RelV v u)(hn:autoParam (x≠"__name__") ŕ)(hd:autoParam ((x==("__debug__":Str))=false) ŕ):PE X (.Name x pos) (tC v):=
 λ_ _ _ H _ I h=>Jq I hg hm hv ⟨v,H,I,r,h⟩ hn hd
variable {a b:Expr}{ta tb:TE}{pos:Pos}
variable {tA tB':TT}{j8:List Expr}
abbrev Z8(t u:TT):TT:=fun σ H Q=>t σ H λc H1=>if c=true then u σ H1 Q else Q false H1
abbrev tOr(t u:TT):TT:=fun σ H Q=>t σ H λc H1=>if c=true then Q true H1 else u σ H1 Q
abbrev tNot(t:TT):TT:=fun σ H Q=>t σ H λc H1=>Q (!c) H1
theorem vv9(ha:PT X a tA):PW X (.BoolOp .Or [a] pos) tA:=by
 intro wh pins s σ H Q I h;refine isTrue_or (thn (ha pins s σ H Q I h) λc s1 e=>?_);cases c with
 |false=>exact isTrue_or_nil e
 |true=>exact e
theorem vzu(ha:PT X a tA)(hb:PW X (.BoolOp .Or (b::j8) pos) tB'):PW X (.BoolOp .Or (a::b::j8) pos) (tOr tA tB'):=by
 intro wh pins s σ H Q I h;refine isTrue_or (thn (ha pins s σ H _ I h) λc s1 ⟨H1,I1,q1⟩=>?_);cases c with
 |true=>exact⟨H1,I1,q1⟩
 |false=>exact hb wh pins s1 σ H1 Q I1 q1
theorem vvc(ha:PT X a tA):PT X (.UnaryOp .Not a pos) (tNot tA):=by
 intro pins s σ H Q I h;exact isTrue_not (ha pins s σ H (λc H1=>Q (!c) H1) I h)
abbrev vzb(ta tb:TE):TE:=fun σ H Q=>ta σ H λx H1=>∃c,x=.bl c/\if c=true then tb σ H1 Q else Q (.bl false) H1
theorem vvo{op}{t:TE}(h:PE X a t):PE X (.BoolOp op [a] pos) t:=λpins s σ H Q I hw=>BoolOp_one (h pins s σ H Q I hw)
theorem vvs(ha:PE X a ta)(hb:PE X (.BoolOp .And (b::j8) pos) tb):PE X (.BoolOp .And (a::b::j8) pos) (vzb ta tb):=by
 intro pins s σ H Q I h;refine BoolOp_and (thn (ha pins s σ H _ I h) λv s1 ⟨x,H1,I1,r1,q1⟩=>?_);obtain⟨c,rfl,q1⟩:=q1;cases r1;refine Ys ?_;cases c with
 |true=>exact hb pins s1 σ H1 Q I1 q1
 |false=>exact⟨.bl false,H1,I1,rfl,q1⟩
end
noncomputable def SqL(K:PySem.W.Frag)(H:Hp)(a:Addr)(xs:List V):Prop:=
 Rd H a (.lst xs) \/
  ∃(o:Obj) (aa:Array Value) (n:Nat),K.lookup a=some o/\o.cls=.type "list"/\o.dict=none/\o.data=.seq aa n/\aa.size<=sizeLine/\Vals xs aa.toList
noncomputable def SqT(K:PySem.W.Frag)(H:Hp)(a:Addr)(xs:List V):Prop:=
 Rd H a (.tup xs) \/
  ∃(o:Obj) (aa:Array Value) (n:Nat),K.lookup a=some o/\o.cls=.type "tuple"/\o.dict=none/\o.data=.seq aa n/\aa.size<=sizeLine/\Vals xs aa.toList
noncomputable def absV:Value->Option V
 |.none=>some .non
 |.bool b=>some (.bl b)
 |.int i _=>some (.int i)
 |.str x _=>some (.str x)
 |.bytes b _=>some (.byt b)
 |.float b _=>some (.flt b)
 |.ref a=>some (.ref a)
 |.type n=>some (.ty n)
 |_=>none
theorem RelV.abs{x:V}{u:Value}(r:RelV x u):absV u=some x:=by
 cases x with
 |non=>cases r;rfl
 |bl _=>cases r;rfl
 |int _=>obtain⟨t,rfl⟩:=r;rfl
 |str _=>obtain⟨t,rfl⟩:=r;rfl
 |byt _=>obtain⟨t,rfl⟩:=r;rfl
 |flt _=>obtain⟨t,rfl⟩:=r;rfl
 |ref _=>cases r;rfl
 |ty _=>cases r;rfl
theorem RelV.inj{x y:V}{u:Value}(r:RelV x u)(q:RelV y u):x=y:=oq9 (r.abs.symm.trans q.abs)
theorem Vals.inj:∀{xs ys:List V} {us:List Value},Vals xs us->Vals ys us->xs=ys
 |_,_,_,.nil,.nil=>rfl
 |_,_,_,.cons r t,.cons r' t'=>by rw[r.inj r',Vals.inj t t']
section
variable {X:Cx}{pins:List (Addr×Obj)}{σ:St}{H:Hp}{s:Shared}{a:Addr}{xs ys:List V}
theorem SqL.of{K:PySem.W.Frag}(h:H a=some (.lst xs)):SqL K H a xs:=.inl (.inl h)
theorem SqT.of{K:PySem.W.Frag}(h:H a=some (.tup xs)):SqT K H a xs:=.inl (.inl h)
theorem Inv.list(I:Inv X pins σ H s)(h:SqL X.K H a xs):∃aa:List Value,Vals xs aa/\PlainL s.heap a aa.toArray/\xs.length<=sizeLine:=by
 rcases h with h|⟨o,aa,n,hk,hc,hd,hs,hz,r⟩
 ·obtain⟨z,aa,n,r,e⟩:=h.ok I.hok;exact⟨aa,r,⟨_,n,e,rfl,rfl,rfl⟩,z⟩
 ·refine⟨aa.toList,r,⟨o,n,I.kIn a o hk,hc,hd,by simpa using hs⟩,?_⟩;have e:=r.length;simp only[Xp]at e;lia
theorem Inv.tuple(I:Inv X pins σ H s)(h:SqT X.K H a xs):∃aa:List Value,Vals xs aa/\IsTup s.heap a aa.toArray/\xs.length<=sizeLine:=by
 rcases h with h|⟨o,aa,n,hk,hc,_,hs,hz,r⟩
 ·obtain⟨z,aa,r,p⟩:=h.ok I.hok;exact⟨aa,r,p.tup,z⟩
 ·refine⟨aa.toList,r,⟨o,I.kIn a o hk,hc,n,by simpa using hs⟩,?_⟩;have e:=r.length;simp only[Xp]at e;lia
theorem Inv.list_inj(I:Inv X pins σ H s)(h:SqL X.K H a xs)(h':SqL X.K H a ys):xs=ys:=by
 obtain⟨aa,r,⟨o,n,e,_,_,d⟩,_⟩:=I.list h;obtain⟨its',r',⟨o',n',e',_,_,d'⟩,_⟩:=I.list h';rw[e]at e';cases e';rw[d]at d';injection d' with d1 _;have:aa=its':=by simpa using congrArg Array.toList d1
 subst this;exact r.inj r'
theorem Inv.tuple_inj(I:Inv X pins σ H s)(h:SqT X.K H a xs)(h':SqT X.K H a ys):xs=ys:=by
 obtain⟨aa,r,⟨o,e,_,n,d⟩,_⟩:=I.tuple h;obtain⟨its',r',⟨o',e',_,n',d'⟩,_⟩:=I.tuple h';rw[e]at e';cases e';rw[d]at d';injection d' with d1 _;have:aa=its':=by simpa using congrArg Array.toList d1
 subst this;exact r.inj r'
end
abbrev Cx.wish(X:Cx)(E:Value->Shared->Prop):Cx:={ X with xe:=E }
theorem Cx.Ok.wish{X:Cx}(ok:X.Ok)(E:Value->Shared->Prop):(X.wish E).Ok:=
 ⟨ok.mod,ok.kind,ok.glob,ok.blt,ok.above,ok.inj,ok.has,ok.cab,ok.hd,ok.frames,ok.stk,ok.exf,ok.bs,ok.bsz,ok.noex,ok.exfs,ok.funs,ok.frf⟩
theorem Cx.Ok.unwish{X:Cx}{E:Value->Shared->Prop}(ok:(X.wish E).Ok):X.Ok:=
 ⟨ok.mod,ok.kind,ok.glob,ok.blt,ok.above,ok.inj,ok.has,ok.cab,ok.hd,ok.frames,ok.stk,ok.exf,ok.bs,ok.bsz,ok.noex,ok.exfs,ok.funs,ok.frf⟩
section
variable {X:Cx}{pins:List (Addr×Obj)}{σ:St}{H:Hp}{s:Shared}{E:Value->Shared->Prop}
theorem Inv.wish(I:Inv X pins σ H s)(E:Value->Shared->Prop):Inv (X.wish E) pins σ H s:=⟨I.ok.wish E,I.os,I.bare,I.base,I.loc,I.cell,I.free,I.freeC,I.pin,I.hok,I.len⟩
theorem Inv.unwish(I:Inv (X.wish E) pins σ H s):Inv X pins σ H s:=⟨I.ok.unwish,I.os,I.bare,I.base,I.loc,I.cell,I.free,I.freeC,I.pin,I.hok,I.len⟩
theorem SP.unwish{D:Ends}{f:Flow}{s':Shared}(h:SP (X.wish E) pins D f s'):SP X pins D f s':=by
 cases f with
 |next=>obtain⟨σ',H',I,q⟩:=h;exact⟨σ',H',I.unwish,q⟩
 |brk=>obtain⟨σ',H',I,q⟩:=h;exact⟨σ',H',I.unwish,q⟩
 |cont=>obtain⟨σ',H',I,q⟩:=h;exact⟨σ',H',I.unwish,q⟩
 |ret u=>obtain⟨v,σ',H',I,r,q⟩:=h;exact⟨v,σ',H',I.unwish,r,q⟩
end
section
variable {X:Cx}{st:Stmt}{j8:List Stmt}{t u:TS}{e:Expr}{te:TE}{pos:Pos}
abbrev vz8:TS:=λD σ H=>D.nx σ H
abbrev tSeq(t u:TS):TS:=λD σ H=>t { D with nx:=u D } σ H
theorem vj7:PSs X [] vz8:=λ_ _ σ H _ I h=>wpAny_execs_nil ⟨σ,H,I,h⟩
theorem jxl(h1:PS X st t)(h2:PSs X j8 u):PSs X (st::j8) (tSeq t u):=by
 intro pins s σ H D I h;refine wpAny_execs_cons (thn (h1 pins s σ H { D with nx:=u D } I h) λf s1 q=>?_);cases f with
 |next=>
  obtain⟨σ',H',I',q⟩:=q;exact h2 pins s1 σ' H' D I' q
 |ret v=>exact q
 |brk=>exact q
 |cont=>exact q
theorem vj6(h1:PS X st t):PSs X [st] t:=by
 intro pins s σ H D I h;refine wpAny_execs_cons (thn (h1 pins s σ H D I h) λf s1 q=>?_);cases f with
 |next=>exact wpAny_execs_nil q
 |ret v=>exact q
 |brk=>exact q
 |cont=>exact q
theorem Inv.quiet{pins:List (Addr×Obj)}{σ:St}{H:Hp}{s:Shared}(I:Inv X pins σ H s):interactive X.env=false:=by simp[interactive,I.ok.kind]
abbrev vz9(te:TE):TS:=λD σ H=>te σ H λ_ H1=>D.nx σ H1
theorem qko(he:PE X e te)(hs:autoParam (swapsWith e none pos.line X.env=pure false) Ŕ):PS X (.Expr e pos) (vz9 te):=by
 intro pins s σ H D I h;exact wpAny_Expr_any (thn (he pins s σ H _ I h) λv s1 ⟨x,H1,I1,r1,q1⟩=>⟨σ,H1,I1,q1⟩) I.quiet hs
abbrev tRet(te:TE):TS:=λD σ H=>te σ H D.rt
theorem vvd(he:PE X e te):PS X (.Return (some e) pos) (tRet te):=by
 intro pins s σ H D I h;exact wpAny_Return_some (thn (he pins s σ H _ I h) λv s1 ⟨x,H1,I1,r1,q1⟩=>⟨x,σ,H1,I1,r1,q1⟩)
abbrev tIfS(c:TT)(t u:TS):TS:=λD σ H=>c σ H λb H1=>if b=true then t D σ H1 else u D σ H1
theorem vzw{c:Expr}{a b:List Stmt}{tc:TT}(hc:PT X c tc)(ha:PSs X a t)(hb:PSs X b u):PS X (.If c a b pos) (tIfS tc t u):=by
 intro pins s σ H D I h;refine wpAny_If (thn (hc pins s σ H _ I h) λd s1 ⟨H1,I1,q1⟩=>?_);cases d with
 |true=>exact ha pins s1 σ H1 D I1 q1
 |false=>exact hb pins s1 σ H1 D I1 q1
end
abbrev TG:=V->St->Hp->(St->Hp->Prop)->Prop
abbrev TGs:=List V->St->Hp->(St->Hp->Prop)->Prop
noncomputable def PG(X:Cx)(d7:Expr)(t:TG):Prop:=
 ∀(pins:List (Addr×Obj)) (s:Shared) (σ:St) (H:Hp) (v:V) (u:Value) (Q:St->Hp->Prop),Inv X pins σ H s->RelV v u->t v σ H Q ->
  wpAny (model X.prog X.w) X.A (assign d7 X.env u) (λ_ s'=>∃ σ' H',Inv X pins σ' H' s'/\Q σ' H') X.xe s
noncomputable def PGs(X:Cx)(ts:List Expr)(t:TGs):Prop:=
 ∀(pins:List (Addr×Obj)) (s:Shared) (σ:St) (H:Hp) (vs:List V) (us:List Value) (Q:St->Hp->Prop),Inv X pins σ H s->Vals vs us->t vs σ H Q ->
  wpAny (model X.prog X.w) X.A (assignInOrder ((assignEach ts X.env).map (·.2)) us) (λ_ s'=>∃ σ' H',Inv X pins σ' H' s'/\Q σ' H') X.xe s
abbrev wk4:=V->V->V->Hp->(Hp->Prop)->Prop
noncomputable def wqd(X:Cx)(t:wk4):Prop:=
 ∀(pins:List (Addr×Obj)) (s:Shared) (σ:St) (H:Hp) (o i v:V) (ov iv u:Value) (Q:Hp->Prop),Inv X pins σ H s->RelV o ov->RelV i iv->RelV v u->t o i v H Q ->
  wpAny (model X.prog X.w) X.A (setItem ov iv u) (λ_ s'=>∃H',Inv X pins σ H' s'/\Q H') X.xe s
section
variable {X:Cx}{pos:Pos}
abbrev qqy(i:Nat):TG:=λv σ H Q=>Q (σ.set i (some v)) H
theorem ZK{i:Nat}{x:Str}(hN:X.N.Nodup)(hi:X.N[i]?=some x)(hx:Loc X.env.scope x)(hf:autoParam (X.fn x=true\/X.env.scope.names.lookup x=some .local) Ř):PG X (.Name x pos) (qqy i):=by
 intro pins s σ H v u Q I r h;exact wpAny_assign_Name (kq4 I hN hi hx r (λs' I'=>⟨_,H,I',h⟩) hf)
abbrev wq5:TGs:=λvs σ H Q=>vs=[]/\Q σ H
abbrev vwx(t:TG)(u:TGs):TGs:=λvs σ H Q=>∃v r,vs=v::r/\t v σ H fun σ' H'=>u r σ' H' Q
theorem W8:PGs X [] wq5:=by
 intro pins s σ H vs us Q I r h;obtain⟨e,h⟩:=h;subst e;cases r;exact assignInOrder_nil ⟨σ,H,I,h⟩
theorem wY{e:Expr}{es:List Expr}{t:TG}{u:TGs}(h1:PG X e t)(h2:PGs X es u)
  (hs:autoParam ((assignEach (e::es) X.env).map (·.2)=assign e X.env::(assignEach es X.env).map (·.2)) Ŕ):PGs X (e::es) (vwx t u):=by
 intro pins s σ H vs us Q I r h;obtain⟨v,vr,e1,h⟩:=h;subst e1;cases r with
 |cons r rr=>
  rw[hs];refine assignInOrder_cons (thn (h1 pins s σ H _ _ _ I r h) λ_ s1 ⟨σ1,H1,I1,q1⟩=>?_);exact h2 pins s1 σ1 H1 _ _ Q I1 rr q1
abbrev gSub(to ti:TE)(t:wk4):TG:=λv σ H Q=>to σ H λo H1=>ti σ H1 λi H2=>t o i v H2 λH3=>Q σ H3
theorem qxs{o i:Expr}{to ti:TE}{t:wk4}(ho:PE X o to)(hi:PE X i ti)(hs:wqd X t)
  (ha:autoParam (∀v,assign (.Subscript o i pos) X.env v=(do
   let ov <-holding [v] (eval o X.env)
   let iv <-holding [v,ov] (eval i X.env)
   standAt pos
   holding [v,ov,iv] (setItem ov iv v)
   release [v,ov,iv] [])) Ŗ):PG X (.Subscript o i pos) (gSub to ti t):=by
 intro pins s σ H v u Q I r h;rw[ha];refine X0 (Yb (thn (ho pins s σ H _ I h) λov s1 ⟨x,H1,I1,r1,q1⟩=>?_));refine X0 (Yb (thn (hi pins s1 σ H1 _ I1 q1) λiv s2 ⟨y,H2,I2,r2,q2⟩=>?_));refine X0 (wpAny_standAt (X0 (Yb (thn (hs pins s2 σ H2 x y v ov iv u _ I2 r1 r2 r q2) λ_ s3 ⟨H3,I3,q3⟩=>?_))));exact wpAny_release ⟨σ,H3,I3,q3⟩
abbrev wkb(te:TE)(g:TG):TS:=λD σ H=>te σ H λx H1=>g x σ H1 D.nx
theorem kz3{tg e:Expr}{te:TE}{g:TG}(he:PE X e te)(hg:PG X tg g)(hs:autoParam (swapsWithSole [tg] e pos.line X.env=pure false) Ŕ)(hw:autoParam (swappedStores [tg] e X.env=pure none) Ŕ)
  (h1:autoParam ((assignEach [tg] X.env).map (·.2)=[assign tg X.env]) Ŕ):PS X (.Assign [tg] e pos) (wkb te g):=by
 intro pins s σ H D I h;refine wpAny_Assign_stores (thn (he pins s σ H _ I h) λv s1 ⟨x,H1,I1,r1,q1⟩=>?_) hs hw;rw[h1];exact thn (hg pins s1 σ H1 x v _ I1 r1 q1) λ_ s2 q=>q
theorem qkn{i:Nat}{x:Str}{e:Expr}{te:TE}{bj:Pos}(hN:X.N.Nodup)(hi:X.N[i]?=some x)(hx:Loc X.env.scope x)(he:PE X e te)(hs:autoParam (swapsWith e (some (.Name x bj)) pos.line X.env=pure false) Ŕ)(hf:autoParam (X.fn x=true\/X.env.scope.names.lookup x=some .local) Ř):
  PS X (.Assign [.Name x bj] e pos) (wkb te (qqy i)):=by
 intro pins s σ H D I h;refine wpAny_Assign_Name (thn (he pins s σ H _ I h) λv s1 ⟨y,H1,I1,r1,q1⟩=>?_) hs;exact kq4 I1 hN hi hx r1 (λs2 I2=>⟨_,H1,I2,q1⟩) hf
end
structure It where
 go:Nat->Hp->Prop
 yld:Nat->Hp->V->Hp->Prop
 stop:Nat->Hp->Prop
noncomputable def wK(X:Cx)(pins:List (Addr×Obj))(H:Hp)(b:Addr):Prop:=
 H b=none/\b≠X.env.locals/\b∉X.fs/\(b∈X.ex\/X.s₀.heap.objs.size<=b)/\(∀x c,X.env.cells.lookup x=some c->c≠b)/\∀p∈X.pn++pins,p.1≠b
theorem Inv.fpOk{X:Cx}{pins:List (Addr×Obj)}{σ:St}{H H':Hp}{s:Shared}{b:Addr}(I:Inv X pins σ H s)(hb:s.heap.objs.size<=b)(hn:H' b=none):wK X pins H' b:=by
 refine⟨hn,Nat.ne_of_gt (Xg I.lt hb),I.nofs hb,.inr (Yk I.sz hb),λx c e z=>?_,λp hp z=>?_⟩
 ·obtain⟨v,q⟩:=I.cell x c e;exact absurd (Xg q.lt (by rw[z];exact hb)) (Yp _)
 ·exact absurd (Xg (Xe (I.pin p hp).1) (by rw[z];exact hb)) (Yp _)
structure Turn (P:Program)(w:World)(K:PySem.W.Frag)(tg:Expr)(J:It)(fp:List Addr)(it:Addr)(tn:Nat->Heap->Prop):Prop where
 mem:it∈fp
 obj:∀i h,tn i h->∀b∈fp,∃o,h.get? b=some o/\∀v,o.data≠.cell v
 keep:∀i h h',tn i h->(∀b∈fp,∀o,h.get? b=some o->h'.get? b=some o)->tn i h'
 item:∀(X:Cx),X.prog=P->X.w=w->X.K=K->X.calm=true->∀(i:Nat) (pins:List (Addr×Obj)) (s:Shared) (σ:St) (H:Hp) (E:Value->Shared->Prop),Inv X pins σ H s->(∀b∈fp,wK X pins H b)->tn i s.heap->J.go i H ->
  wpAny (model P w) X.A (pyNext (.ref it)) (λr s1=>∃u,r=some u /\
   wpAny (model P w) X.A (letOwnedTupleGo tg (.ref it) u) (λ_ s2=>∃x H',Inv X pins σ H' s2/\RelV x u/\J.yld i H x H'/\tn (i+1) s2.heap/\∀b∈fp,H' b=none) E s1) E s
 done:∀(X:Cx),X.prog=P->X.w=w->X.K=K->X.calm=true->∀(i:Nat) (pins:List (Addr×Obj)) (s:Shared) (σ:St) (H:Hp) (E:Value->Shared->Prop),Inv X pins σ H s->(∀b∈fp,wK X pins H b)->tn i s.heap->J.stop i H ->
  wpAny (model P w) X.A (pyNext (.ref it)) (λr s1=>r=none/\Inv X pins σ H s1) E s
 self:∀(A:Around) (i:Nat) (s:Shared) (Q:Value->Shared->Prop) (E:Value->Shared->Prop),tn i s.heap->Q (.ref it) s->wpAny (model P w) A (pyIter (.ref it)) Q E s
abbrev TI:=St->Hp->(It->Hp->Prop)->Prop
noncomputable def PIE(X:Cx)(pins:List (Addr×Obj))(σ:St)(tg:Expr)(R:It->Hp->Prop)(itv:Value)(s2:Shared):Prop:=
 ∃(it:Addr) (fp:List Addr) (tn:Nat->Heap->Prop) (J:It) (H':Hp),itv=.ref it/\Inv X pins σ H' s2/\Turn X.prog X.w X.K tg J fp it tn/\tn 0 s2.heap/\(∀b∈fp,wK X pins H' b)/\R J H'
noncomputable def PI(X:Cx)(tg au:Expr)(wi:TI):Prop:=
 ∀(pins:List (Addr×Obj)) (s:Shared) (σ:St) (H:Hp) (R:It->Hp->Prop),Inv X pins σ H s->wi σ H R ->
  wpAny (model X.prog X.w) X.A (eval au X.env) (λv s1=>wpAny (model X.prog X.w) X.A (pyIter v) (PIE X pins σ tg R) X.xe s1) X.xe s
theorem qx9 {M : Model} {A : Around} {E : Value -> Shared -> Prop} {s : Shared} {tg : Expr} {it : Addr} {u : Value} {o : Obj} {n : String} {vs : Array Value} {Q : Unit -> Shared -> Prop} (ho : s.heap.get? it = some o) (hc : o.cls = .type n) (hd : o.data = .fields vs)
    (hn : ["enumerate", "zip", "dict_itemiterator", "dict_reverseitemiterator", "odict_iterator", "itertools.zip_longest", "itertools.pairwise"].contains n = false) (hQ : Q () s): wpAny M A (letOwnedTupleGo tg (.ref it) u) Q E s:= by
  unfold letOwnedTupleGo;cases tg <;> first
    |exact X4 hQ
    |(cases u <;> first
        |exact X4 hQ
        | (refine X0 (wpAny_load ho ?_)
           rw[hc, hd];show wpAny M A (if(["enumerate", "zip", "dict_itemiterator", "dict_reverseitemiterator", "odict_iterator", "itertools.zip_longest", "itertools.pairwise"].contains n&&vs[0]? == some (rawInt _)) = true then _ else _) Q E s;rw[Xj (by intro h; rw[hn, Bool.false_and]at h; cases h)];exact X4 hQ))
noncomputable def Itl(K:PySem.W.Frag)(a:Addr):It:=
 ⟨λi H=>∃xs x,SqL K H a xs/\xs[i]?=some x,λi H x H'=>H'=H/\∀xs,SqL K H a xs->xs[i]?=some x,λi H=>∃xs,SqL K H a xs/\xs.length<=i⟩
noncomputable def Itt(K:PySem.W.Frag)(a:Addr):It:=
 ⟨λi H=>∃xs x,SqT K H a xs/\xs[i]?=some x,λi H x H'=>H'=H/\∀xs,SqT K H a xs->xs[i]?=some x,λi H=>∃xs,SqT K H a xs/\xs.length<=i⟩
def Itr(lo:Int)(n:Nat):It:=⟨λi _=>i<n,λi H x H'=>H'=H/\x=.int (lo+i),λi _=>n<=i⟩
theorem qjv{P:Program}{w:World}{K:PySem.W.Frag}{tg:Expr}(a it:Addr):Turn P w K tg (Itl K a) [it] it (λi h=>h.IsListIter it a i) where
 mem:=by simp
 obj:=λi h st b hb=>by
  have e:b=it:=by simpa using hb
  subst e;obtain⟨o,e,c,d⟩:=st;exact⟨o,e,λv z=>by rw[d]at z;cases z⟩
 keep:=λi h h' st k=>st.at λo e=>k it (by simp) o e
 item:=by
  intro X hP hw hK hc i pins s σ H E I hf st hg;subst hP hw hK;obtain⟨xs,x,hq,hx⟩:=hg;obtain⟨aa,rv,p,hz⟩:=I.list hq;obtain⟨u,hu,ru⟩:=rv.get hx;obtain⟨f0,f1,f2,f3,f4,f5⟩:=hf it (by simp);refine wpAny_pyNext_list_item st p.isList (x:=u) (by simpa using hu) λh' fu sb=>?_
  have I1:Inv X pins σ H { s with heap:=h' }:=I.turned (t':=s.toks) (λb o hb e=>(sb.2 b hb).trans e) f0 f1 f3 f4 f5;obtain⟨o,e,c,d⟩:=id fu;exact⟨u,rfl,qx9 (s:={ s with heap:=h' }) e c d (by decide) ⟨x,H,I1,ru,⟨rfl,λys hy=>by rw[I.list_inj hy hq];exact hx⟩,fu,λb hb=>(hf b hb).1⟩⟩
 done:=by
  intro X hP hw hK hc i pins s σ H E I hf st hg;subst hP hw hK;obtain⟨xs,hq,hx⟩:=hg;obtain⟨aa,rv,p,hz⟩:=I.list hq;obtain⟨f0,f1,f2,f3,f4,f5⟩:=hf it (by simp);have hl:=rv.length;exact wpAny_pyNext_list_end (I.ok.hd hc) st p.isList (by simp;lia) λh' eb=>⟨rfl,I.turned (t':=s.toks) (λb o hb e=>eb b o hb e) f0 f1 f3 f4 f5⟩
 self:=λ_ _ _ _ _ st h=>wpAny_pyIter_listiter st h
theorem kzy{P:Program}{w:World}{K:PySem.W.Frag}{tg:Expr}(a it:Addr):Turn P w K tg (Itt K a) [it] it (λi h=>h.IsTupleIter it a i) where
 mem:=by simp
 obj:=λi h st b hb=>by
  have e:b=it:=by simpa using hb
  subst e;obtain⟨o,e,c,d⟩:=st;exact⟨o,e,λv z=>by rw[d]at z;cases z⟩
 keep:=λi h h' st k=>st.at λo e=>k it (by simp) o e
 item:=by
  intro X hP hw hK hc i pins s σ H E I hf st hg;subst hP hw hK;obtain⟨xs,x,hq,hx⟩:=hg;obtain⟨aa,rv,p,hz⟩:=I.tuple hq;obtain⟨u,hu,ru⟩:=rv.get hx;obtain⟨f0,f1,f2,f3,f4,f5⟩:=hf it (by simp);refine wpAny_pyNext_tuple_item st (show s.heap.IsTuple a aa.toArray from p) (x:=u) (by simpa using hu) λh' fu sb=>?_
  have I1:Inv X pins σ H { s with heap:=h' }:=I.turned (t':=s.toks) (λb o hb e=>(sb.2 b hb).trans e) f0 f1 f3 f4 f5;obtain⟨o,e,c,d⟩:=id fu;exact⟨u,rfl,qx9 (s:={ s with heap:=h' }) e c d (by decide) ⟨x,H,I1,ru,⟨rfl,λys hy=>by rw[I.tuple_inj hy hq];exact hx⟩,fu,λb hb=>(hf b hb).1⟩⟩
 done:=by
  intro X hP hw hK hc i pins s σ H E I hf st hg;subst hP hw hK;obtain⟨xs,hq,hx⟩:=hg;obtain⟨aa,rv,p,hz⟩:=I.tuple hq;obtain⟨f0,f1,f2,f3,f4,f5⟩:=hf it (by simp);have hl:=rv.length;exact wpAny_pyNext_tuple_end (I.ok.hd hc) st (show s.heap.IsTuple a aa.toArray from p) (by simp;lia) λh' eb=>⟨rfl,I.turned (t':=s.toks) (λb o hb e=>eb b o hb e) f0 f1 f3 f4 f5⟩
 self:=λ_ _ _ _ _ st h=>wpAny_pyIter_tupleiter st h
theorem kzz{P:Program}{w:World}{K:PySem.W.Frag}{tg:Expr}(it:Addr)(lo:Int)(n:Nat):Turn P w K tg (Itr lo n) [it] it (λi h=>IsRangeIter h it (lo+(i:Nat)*1) ((n:Int) - (i:Nat)) 1) where
 mem:=by simp
 obj:=λi h st b hb=>by
  have e:b=it:=by simpa using hb
  subst e;exact⟨_,st,λv z=>by
   have z':Data.fields _=Data.cell v:=z;cases z'⟩
 keep:=λi h h' st k=>k it (by simp) _ st
 item:=by
  intro X hP hw hK hc i pins s σ H E I hf st hg;subst hP hw hK;obtain⟨f0,f1,f2,f3,f4,f5⟩:=hf it (by simp);have W:=Walks.range (prog:=X.prog) (w:=X.w) (I.ok.hd hc) it lo 1 n;refine W.item i s _ _ hg st λv h' tk hv fu kk=>?_
  obtain⟨t,rfl⟩:=hv;have I1:Inv X pins σ H { s with heap:=h',toks:=tk }:=I.turned (λb o hb e=>kk b o (by simpa using hb) e) f0 f1 f3 f4 f5;refine⟨_,rfl,qx9 (s:={ s with heap:=h',toks:=tk }) (n:="range_iterator") fu rfl rfl (by decide) ⟨.int (lo+i),H,I1,⟨t,?_⟩,⟨rfl,rfl⟩,fu,λb hb=>(hf b hb).1⟩⟩;rw[Int.mul_one]
 done:=by
  intro X hP hw hK hc i pins s σ H E I hf st hg;subst hP hw hK;obtain⟨f0,f1,f2,f3,f4,f5⟩:=hf it (by simp);exact wpAny_pyNext_range_end (I.ok.hd hc) st (by have:n<=i:=hg;lia) λh' eb=>⟨rfl,I.turned (t':=s.toks) (λb o hb e=>eb b o hb e) f0 f1 f3 f4 f5⟩
 self:=λ_ _ _ _ _ st h=>wpAny_pyIter_rangeiter st h
section
variable {X:Cx}{tg:Expr}
theorem kxx{pins:List (Addr×Obj)}{σ:St}{H:Hp}{s:Shared}{R:It->Hp->Prop}{E:Value->Shared->Prop}{lo hi:Int}{t u v:Tok}{tk:Nat}(I:Inv X pins σ H s)(h1:-(2 ^ 62)<=lo)(h2:lo<2 ^ 62)(h3:-(2 ^ 62)<=hi)(h4:hi<2 ^ 62)
  (q:R (Itr lo (hi - lo).toNat) H):wpAny (model X.prog X.w) X.A (pyIter (.ref s.heap.objs.size)) (PIE X pins σ tg R) E { s with heap:=s.heap.push { cls:=.type "range",data:=.fields #[.int lo t,.int hi u,.int 1 v] },toks:=tk }:=by
 refine wpAny_pyIter_range (IsRange.new ..) (small_one h1 h2 h3 h4) ?_;have I1:Inv X pins σ H { s with heap:=s.heap.push { cls:=.type "range",data:=.fields #[.int lo t,.int hi u,.int 1 v] },toks:=tk }:=I.kept λb o e=>X2 _ e
 refine⟨(s.heap.push { cls:=.type "range",data:=.fields #[.int lo t,.int hi u,.int 1 v] }).objs.size,[(s.heap.push { cls:=.type "range",data:=.fields #[.int lo t,.int hi u,.int 1 v] }).objs.size],_,_,H,rfl,
  I1.kept (t':=tk) λb o e=>X2 _ e,kzz _ lo (hi - lo).toNat,?_,λb hb=>?_,q⟩
 ·have e1:lo+((0:Nat):Int)*1=lo:=by simp
  have e2:(((hi - lo).toNat:Nat):Int) - ((0:Nat):Int)=Builtin.Range.rangeSize lo hi 1:=by rw[rangeSize_one];split<;>lia
  show IsRangeIter _ _ (lo+((0:Nat):Int)*1) ((((hi - lo).toNat:Nat):Int) - ((0:Nat):Int)) 1;rw[e1,e2];exact X9 _ rfl
 ·have e:b=(s.heap.push { cls:=.type "range",data:=.fields #[.int lo t,.int hi u,.int 1 v] }).objs.size:=by simpa using hb
  subst e;exact I1.fpOk (Xd _) (I1.hok.fresh (Xd _))
abbrev wje(ta:TA):TI:=fun σ H R=>ta σ H λvs H1=>∃j:Int,vs=[.int j]/\-(2 ^ 62)<=j/\j<2 ^ 62/\R (Itr 0 j.toNat) H1
abbrev wjd(ta:TA):TI:=fun σ H R=>ta σ H λvs H1=>∃i j:Int,vs=[.int i,.int j]/\(-(2 ^ 62)<=i/\i<2 ^ 62/\-(2 ^ 62)<=j/\j<2 ^ 62)/\R (Itr i (j - i).toNat) H1
theorem qkt{a:Expr}{ta:TA}{p pos:Pos}(hg:Gl X "range")(hm:X.mg "range"=none)(ha:PA X [a] ta)(hs:autoParam (starEach [a] X.env=[(false,eval a X.env)]) Ŕ):PI X tg (.Call (.Name "range" p) [a] [] pos) (wje ta):=by
 intro pins s σ H R I h;refine Call_ (Jq I hg hm boot_range (Y8 (thn (ha pos pins s σ H _ I h) λus s1 ⟨vs,H1,I1,r1,q1⟩=>?_) hs rfl));obtain⟨j,e,q1,q2,q⟩:=q1;subst e;cases r1 with
 |cons r rr=>
  cases rr;obtain⟨t,rfl⟩:=r;exact call_range_1 (kxx I1 (by lia) (by lia) q1 q2 (by simpa using q))
theorem qks{a b:Expr}{ta:TA}{p pos:Pos}(hg:Gl X "range")(hm:X.mg "range"=none)(ha:PA X [a,b] ta)(hs:autoParam (starEach [a,b] X.env=[(false,eval a X.env),(false,eval b X.env)]) Ŕ)(lf:autoParam (starEach [b] X.env=[(false,eval b X.env)]) Ŕ):
  PI X tg (.Call (.Name "range" p) [a,b] [] pos) (wjd ta):=by
 intro pins s σ H R I h;refine Call_ (Jq I hg hm boot_range (Y8 (thn (ha pos pins s σ H _ I h) λus s1 ⟨vs,H1,I1,r1,q1⟩=>?_) (by rw[hs,lf]) (by rw[lf];rfl)));obtain⟨i,j,e,⟨q1,q2,q3,q4⟩,q⟩:=q1;subst e;cases r1 with
 | cons r rr=>
  cases rr with
  |cons r' rr=>
   cases rr;obtain⟨t,rfl⟩:=r;obtain⟨t',rfl⟩:=r';exact call_range_2 (kxx I1 q1 q2 q3 q4 q)
abbrev tFor(wi:TI)(g:TG)(tb:TS):TS:=λD σ H=>wi σ H λJ H1=>∃W:Nat->Nat->St->Hp->Prop,(∃m,W 0 m σ H1)/\∀i m σ H,W i m σ H ->
 (J.stop i H/\D.nx σ H)\/(J.go i H/\∃N:St->Hp->Prop,(∀ σ' H',N σ' H'->∃m',m'<m/\W (i+1) m' σ' H')/\∀x H',J.yld i H x H'->g x σ H' fun σ2 H2=>tb { D with nx:=N,ct:=N,bk:=D.nx } σ2 H2)
def Q4(fp:List Addr)(h:Heap):List (Addr×Obj):=fp.filterMap λb=>(h.get? b).map λo=>(b,o)
theorem jzj{fp:List Addr}{h:Heap}{b:Addr}{o:Obj}(hb:b∈fp)(e:h.get? b=some o):(b,o)∈Q4 fp h:=List.mem_filterMap.mpr ⟨b,hb,by rw[e];rfl⟩
theorem kvv{fp:List Addr}{h:Heap}{p:Addr×Obj}(hp:p∈Q4 fp h):p.1∈fp/\h.get? p.1=some p.2:=by
 obtain⟨b,hb,e⟩:=List.mem_filterMap.mp hp;cases q:h.get? b with
 |none=>rw[q]at e;cases e
 |some o=>
  rw[q]at e;have e':(b,o)=p:=oq9 e;subst e';exact⟨hb,q⟩
theorem Inv.pinned{pins:List (Addr×Obj)}{σ:St}{H:Hp}{s:Shared}{fp:List Addr}(I:Inv X pins σ H s)(hf:∀b∈fp,wK X pins H b)(ho:∀b∈fp,∃o,s.heap.get? b=some o/\∀v,o.data≠.cell v):Inv X (pins++Q4 fp s.heap) σ H s:=
 I.pins_of λp hp=>(List.mem_append.mp hp).elim (λz=>I.pin p (lr9 _ z)) λz=>by
  obtain⟨hb,e⟩:=kvv z;obtain⟨f0,f1,f2,_⟩:=hf p.1 hb;obtain⟨o,e',d⟩:=ho p.1 hb;rw[e]at e';cases e';exact⟨e,f0,f1,f2,d⟩
theorem Inv.unpinned{pins pl:List (Addr×Obj)}{σ:St}{H:Hp}{s:Shared}(I:Inv X (pins++pl) σ H s):Inv X pins σ H s:=I.pins_of λp hp=>I.pin p (lr9 _ (ll9 _ hp))
theorem vve{au:Expr}{body:List Stmt}{wi:TI}{g:TG}{tb:TS}{pos:Pos}(hp:PassesOwn (model X.prog X.w) X.A X.env X.xe)(hc:X.calm=true)(hi:PI X tg au wi)(hg:PG X tg g)(hb:PSs X body tb)
  (hs:autoParam (∀x,foldedSetIterable au X.env x=pure x) Ŗ):PS X (.For tg au body [] pos) (tFor wi g tb):=by
 intro pins s σ H D I h;refine wpAny_For (thn (hi pins s σ H _ I h) λv s1 h1=>thn h1 λitv s2 h2=>?_) hs;obtain⟨it,fp,tn,J,H2,e,I2,T,bm,f2,W,⟨m0,w0⟩,fj⟩:=h2;subst e;have gp:∀{H':Hp},(∀b∈fp,H' b=none)->∀b∈fp,wK X pins H' b:=λhn b hb=>⟨hn b hb,(f2 b hb).2⟩
 refine codeAny_forLoop_any (λn s'=>∃i σ' H',Inv X pins σ' H' s'/\tn i s'.heap/\(∀b∈fp,H' b=none)/\W i n σ' H') ?_ m0 ⟨0,σ,H2,I2,bm,λb hb=>(f2 b hb).1,w0⟩;rintro n s3 ⟨i,σ3,H3,I3,d3,lv,w3⟩;rcases fj i n σ3 H3 w3 with⟨stop,qn⟩|⟨go,N,hN,step⟩
 ·refine wpAny_passesOwn hp (thn (T.done X rfl rfl rfl hc i pins s3 σ3 H3 X.xe I3 (gp lv) d3 stop) λr s4 ⟨hr,I4⟩=>?_);subst hr;exact wpAny_execs_nil ⟨σ3,H3,I4,qn⟩
 ·refine wpAny_passesOwn hp (thn (T.item X rfl rfl rfl hc i pins s3 σ3 H3 X.xe I3 (gp lv) d3 go) λr s4 ⟨u,hr,h4⟩=>?_);subst hr;refine wpAny_passesOwn hp (thn h4 λ_ s5 ⟨x,H5,I5,r5,y5,il,fr5⟩=>?_);have I5':=I5.pinned (gp fr5) (T.obj _ _ il);refine wpAny_passesOwn hp (thn (hg _ s5 σ3 H5 x u _ I5' r5 (step x H5 y5)) λ_ s6 ⟨σ6,H6,I6,q6⟩=>?_);refine wpAny_passesOwn hp (thn (hb _ s6 σ6 H6 _ I6 q6) λf s7 q7=>?_);have again:∀{σ7:St} {H7:Hp},Inv X (pins++Q4 fp s5.heap) σ7 H7 s7->N σ7 H7->∃m,m<n/\∃i σ' H',Inv X pins σ' H' s7/\tn i s7.heap/\(∀b∈fp,H' b=none)/\W i m σ' H':=fun {σ7 H7} I7 n7=>by
   obtain⟨m',hm,w7⟩:=hN σ7 H7 n7;refine⟨m',hm,i+1,σ7,H7,I7.unpinned,T.keep _ _ _ il λb hb o e=>(I7.pin (b,o) (lr9 _ (lr9 _ (jzj hb e)))).1,λb hb=>?_,w7⟩;obtain⟨o,e,d⟩:=T.obj _ _ il b hb;exact(I7.pin (b,o) (lr9 _ (lr9 _ (jzj hb e)))).2.1
  cases f with
  |next=>obtain⟨σ7,H7,I7,n7⟩:=q7;exact again I7 n7
  |cont=>obtain⟨σ7,H7,I7,n7⟩:=q7;exact again I7 n7
  |brk=>obtain⟨σ7,H7,I7,q7⟩:=q7;exact⟨σ7,H7,I7.unpinned,q7⟩
  |ret v=>obtain⟨x7,σ7,H7,I7,r7,q7⟩:=q7;exact⟨x7,σ7,H7,I7.unpinned,r7,q7⟩
end
abbrev R2:=V->V->Hp->VK->Prop
noncomputable def OpR(X:Cx)(f:Value->Value->Sem Value)(r:R2):Prop:=
 ∀(pins:List (Addr×Obj)) (s:Shared) (σ:St) (H:Hp) (x y:V) (v u:Value) (Q:VK),Inv X pins σ H s->RelV x v->RelV y u->r x y H Q ->
  wpAny (model X.prog X.w) X.A (f v u) (EP X pins σ Q) X.xe s
noncomputable def UnR(X:Cx)(f:Value->Sem Value)(r:V->Hp->VK->Prop):Prop:=
 ∀(pins:List (Addr×Obj)) (s:Shared) (σ:St) (H:Hp) (x:V) (v:Value) (Q:VK),Inv X pins σ H s->RelV x v->r x H Q ->
  wpAny (model X.prog X.w) X.A (f v) (EP X pins σ Q) X.xe s
noncomputable def CallR(X:Cx)(f:Value)(r:List V->Hp->VK->Prop):Prop:=
 ∀(pins:List (Addr×Obj)) (s:Shared) (σ:St) (H:Hp) (xs:List V) (us:List Value) (Q:VK),Inv X pins σ H s->Vals xs us->r xs H Q ->
  wpAny (model X.prog X.w) X.A (call f us) (EP X pins σ Q) X.xe s
noncomputable def TruR(X:Cx)(r:V->Hp->(Bool->Hp->Prop)->Prop):Prop:=
 ∀(pins:List (Addr×Obj)) (s:Shared) (σ:St) (H:Hp) (x:V) (v:Value) (Q:Bool->Hp->Prop),Inv X pins σ H s->RelV x v->r x H Q ->
  wpAny (model X.prog X.w) X.A (truthy v) (TP X pins σ Q) X.xe s
abbrev tOp(r:R2)(ta tb:TE):TE:=fun σ H Q=>ta σ H λx H1=>tb σ H1 λy H2=>r x y H2 Q
abbrev tUn(r:V->Hp->VK->Prop)(ta:TE):TE:=fun σ H Q=>ta σ H λx H1=>r x H1 Q
def rI(C:Int->Int->Prop)(g:Int->Int->V):R2:=λx y H Q=>∃i j,x=.int i/\y=.int j/\C i j/\Q (g i j) H
def rI0(g:Int->Int->V):R2:=λx y H Q=>∃i j,x=.int i/\y=.int j/\Q (g i j) H
def rU(g:Int->V):V->Hp->VK->Prop:=λx H Q=>∃i,x=.int i/\Q (g i) H
section
variable {X:Cx}{a b c:Expr}{ta tb tc:TE}{pos:Pos}
theorem wjy(ha:PE X a ta)(hb:PE X b tb){pins:List (Addr×Obj)}{s:Shared}{σ:St}{H:Hp}{R:V->V->Hp->Prop}(I:Inv X pins σ H s)
  (h:ta σ H λx H1=>tb σ H1 λy H2=>R x y H2) {Q:Value->Shared->Prop} {f:Value->Value->Sem Value}
  (hf:∀v u s2 x y H2,Inv X pins σ H2 s2->RelV x v->RelV y u->R x y H2->wpAny (model X.prog X.w) X.A (f v u) Q X.xe s2):
  wpAny (model X.prog X.w) X.A (eval a X.env) (λv s₁=>wpAny (model X.prog X.w) X.A (eval b X.env) (λu s₂=>wpAny (model X.prog X.w) X.A (f v u) Q X.xe s₂) X.xe s₁) X.xe s:=by
 refine thn (ha pins s σ H _ I h) λv s1 ⟨x,H1,I1,r1,q1⟩=>?_
 refine thn (hb pins s1 σ H1 _ I1 q1) λu s2 ⟨y,H2,I2,r2,q2⟩=>?_
 exact hf v u s2 x y H2 I2 r1 r2 q2
theorem vzx{op:Operator}{r:R2}(ho:OpR X (binaryOp op) r)(ha:PE X a ta)(hb:PE X b tb):PE X (.BinOp a op b pos) (tOp r ta tb):=by
 intro pins s σ H Q I h;exact wpAny_BinOp (wjy ha hb I h λv u s2 x y H2 I2 rx ry q=>ho pins s2 σ H2 x y v u Q I2 rx ry q)
theorem vvk{op:UnaryOp}{r:V->Hp->VK->Prop}(ho:UnR X (unaryOp op) r)(ha:PE X a ta):PE X (.UnaryOp op a pos) (tUn r ta):=by
 intro pins s σ H Q I h;exact UnaryOp_ (thn (ha pins s σ H _ I h) λv s1 ⟨x,H1,I1,r1,q1⟩=>ho pins s1 σ H1 x v Q I1 r1 q1)
theorem opI{f:Value->Value->Sem Value}{C:Int->Int->Prop}{g:Int->Int->Int}
  (rule:∀(i j:Int) (t u:Tok) (s:Shared) (Q:Value->Shared->Prop) (E:Value->Shared->Prop),C i j->Q (.int (g i j) s.toks) { s with toks:=s.toks+1 }->wpAny (model X.prog X.w) X.A (f (.int i t) (.int j u)) Q E s):
  OpR X f (rI C λi j=>.int (g i j)):=by
 intro pins s σ H x y v u Q I rx ry h;obtain⟨i,j,rfl,rfl,hc,q⟩:=h;obtain⟨t,rfl⟩:=rx;obtain⟨t',rfl⟩:=ry;exact rule i j t t' s _ _ hc ⟨.int (g i j),H,I.tok _,⟨_,rfl⟩,q⟩
theorem wkt{f:Value->Value->Sem Value}{g:Int->Int->Int}
  (rule:∀(i j:Int) (t u:Tok) (s:Shared) (Q:Value->Shared->Prop) (E:Value->Shared->Prop),Q (.int (g i j) s.toks) { s with toks:=s.toks+1 }->wpAny (model X.prog X.w) X.A (f (.int i t) (.int j u)) Q E s):
  OpR X f (rI0 λi j=>.int (g i j)):=by
 intro pins s σ H x y v u Q I rx ry h;obtain⟨i,j,rfl,rfl,q⟩:=h;obtain⟨t,rfl⟩:=rx;obtain⟨t',rfl⟩:=ry;exact rule i j t t' s _ _ ⟨.int (g i j),H,I.tok _,⟨_,rfl⟩,q⟩
theorem wj3{f:Value->Value->Sem Value}{g:Int->Int->Bool}
  (rule:∀(i j:Int) (t u:Tok) (s:Shared) (Q:Value->Shared->Prop) (E:Value->Shared->Prop),Q (.bool (g i j)) s->wpAny (model X.prog X.w) X.A (f (.int i t) (.int j u)) Q E s):
  OpR X f (rI0 λi j=>.bl (g i j)):=by
 intro pins s σ H x y v u Q I rx ry h;obtain⟨i,j,rfl,rfl,q⟩:=h;obtain⟨t,rfl⟩:=rx;obtain⟨t',rfl⟩:=ry;exact rule i j t t' s _ _ ⟨.bl (g i j),H,I,rfl,q⟩
def wqf(i j:Int):Prop:=0<=j/\j<=1000000/\i.natAbs<2 ^ 64
theorem op_add:OpR X (binaryOp .Add) (rI0 λi j=>.int (i+j)):=wkt λ_ _ _ _ _ _ _ q=>add_int q
theorem W3:OpR X (binaryOp .Sub) (rI0 λi j=>.int (i - j)):=wkt λ_ _ _ _ _ _ _ q=>sub_int q
theorem vvz:OpR X (binaryOp .Mod) (rI (λ_ j=>0<j) λi j=>.int (i % j)):=opI λi j _ _ _ _ _ hc q=>by
 have h1:(0:Int)<j:=hc;exact mod_int' (by lia) (by rw[Int.fmod_eq_emod_of_nonneg i (by lia)];exact q)
theorem qxu:OpR X (binaryOp .Pow) (rI wqf λi j=>.int (i ^ j.toNat)):=opI λ_ _ _ _ _ _ _ hc q=>pow_int_small hc.1 hc.2.1 hc.2.2 q
theorem unI{f:Value->Sem Value}{g:Int->Int}
  (rule:∀(i:Int) (t:Tok) (s:Shared) (Q:Value->Shared->Prop) (E:Value->Shared->Prop),Q (.int (g i) s.toks) { s with toks:=s.toks+1 }->wpAny (model X.prog X.w) X.A (f (.int i t)) Q E s):
  UnR X f (rU λi=>.int (g i)):=by
 intro pins s σ H x v Q I rx h;obtain⟨i,rfl,q⟩:=h;obtain⟨t,rfl⟩:=rx;exact rule i t s _ _ ⟨.int (g i),H,I.tok _,⟨_,rfl⟩,q⟩
theorem qju:UnR X (unaryOp .USub) (rU λi=>.int (-i)):=unI λ_ _ _ _ _ q=>neg_int q
end
section
variable {X:Cx}{a b c:Expr}{ta tb tc:TE}{pos:Pos}
theorem qz4{pins:List (Addr×Obj)}{σ:St}{H:Hp}{s:Shared}{Q:VK}{k k':Bool}(I:Inv X pins σ H s)(q:Q (.bl k) H)(e:k=k'):EP X pins σ Q (.bool k') s:=by
 subst e;exact⟨.bl k,H,I,rfl,q⟩
theorem Wz:OpR X (compareOp .Lt) (rI0 λi j=>.bl (decide (i<j))):=wj3 λ_ _ _ _ _ _ _ q=>lt_int q
theorem VV:OpR X (compareOp .LtE) (rI0 λi j=>.bl (decide (i<=j))):=wj3 λ_ _ _ _ _ _ _ q=>le_int q
theorem vw1:OpR X (compareOp .Gt) (rI0 λi j=>.bl (decide (j<i))):=wj3 λ_ _ _ _ _ _ _ q=>gt_int q
theorem qq3:OpR X (compareOp .In) (λx y H Q=>∃i j,x=.str i/\y=.str j/\Q (.bl (!(Builtin.Str.occurrences j i 0 j.length 1).isEmpty)) H):=by
 intro pins s σ H x y v u Q I rx ry h;obtain⟨i,j,rfl,rfl,q⟩:=h;obtain⟨t,rfl⟩:=rx;obtain⟨t',rfl⟩:=ry;exact in_str (qz4 I q rfl)
theorem vw0 : OpR X (compareOp .Is) (λx y H Q=>y = .non /\ Q (.bl (decide (x = .non))) H):= by
  intro pins s σ H x y v u Q I rx ry h;obtain⟨rfl, q⟩:= h;cases ry;refine is_none_gen (qz4 I q ?_);cases x <;> first
    |(cases rx; rfl)
    |(obtain⟨t, rfl⟩:= rx; rfl)
theorem OpR.or{f:Value->Value->Sem Value}{r r':R2}(h:OpR X f r)(h':OpR X f r'):OpR X f (λx y H Q=>r x y H Q\/r' x y H Q):=by
 intro pins s σ H x y v u Q I rx ry q;rcases q with q|q
 ·exact h pins s σ H x y v u Q I rx ry q
 ·exact h' pins s σ H x y v u Q I rx ry q
theorem vK(b:Expr){op:CmpOp}(h:autoParam (op≠.In) ŕ)(h2:autoParam (op≠.NotIn) ŕ):behindInMarks op b=false:=by
 have e1:(op==CmpOp.In)=false:=by cases op<;>first|rfl|exact absurd rfl h
 have e2:(op==CmpOp.NotIn)=false:=by cases op<;>first|rfl|exact absurd rfl h2
 cases b<;>simp[behindInMarks,e1,e2]
theorem vje{op:CmpOp}{r:R2}(ho:OpR X (compareOp op) r)(ha:PE X a ta)(hb:PE X b tb)(hm:behindInMarks op b=false):PE X (.Compare a [op] [b] pos) (tOp r ta tb):=by
 intro pins s σ H Q I h;exact wpAny_Compare1 (wjy ha hb I h λv u s2 x y H2 I2 rx ry q=>ho pins s2 σ H2 x y v u Q I2 rx ry q) hm
abbrev vq1(t:TE):TT:=fun σ H Q=>t σ H λx H'=>∃k,x=.bl k/\Q k H'
theorem vj5{op:CmpOp}{r:R2}(ho:OpR X (compareOp op) r)(ha:PE X a ta)(hb:PE X b tb)(hm:behindInMarks op b=false):PT X (.Compare a [op] [b] pos) (vq1 (tOp r ta tb)):=by
 intro pins s σ H Q I h;refine wpAny_isTrue_Compare1 (thn (ha pins s σ H _ I h) λv s1 ⟨x,H1,I1,r1,q1⟩=>thn (hb pins s1 σ H1 _ I1 q1) λu s2 ⟨y,H2,I2,r2,q2⟩=>
  thn (ho pins s2 σ H2 x y v u _ I2 r1 r2 q2) λc s3 ⟨z,H3,I3,r3,k,e,q3⟩=>?_) hm
 subst e;cases r3;exact Ys ⟨H3,I3,q3⟩
abbrev qjy(r r':R2)(ta tb tc:TE):TE:=fun σ H Q=>ta σ H λx H1=>tb σ H1 λy H2=>r x y H2 λz H3=>∃k,z=.bl k /\
 (if k=true then tc σ H3 λw' H4=>r' y w' H4 Q else Q (.bl false) H3)
theorem qwr{op gz:CmpOp}{r r':R2}(ho:OpR X (compareOp op) r)(fq:OpR X (compareOp gz) r')(ha:PE X a ta)(hb:PE X b tb)(hc:PE X c tc)
  (hm:lastMarks [op,gz] [b,c]=false:=by with_unfolding_all rfl):PE X (.Compare a [op,gz] [b,c] pos) (qjy r r' ta tb tc):=by
 intro pins s σ H Q I h;refine Compare_chain (thn (ha pins s σ H _ I h) λv s1 ⟨x,H1,I1,r1,q1⟩=>chain_link (thn (hb pins s1 σ H1 _ I1 q1) λu s2 ⟨y,H2,I2,r2,q2⟩=>
  thn (ho pins s2 σ H2 x y v u _ I2 r1 r2 q2) λd s3 ⟨z,H3,I3,r3,k,e,q3⟩=>?_)) hm
 subst e;cases r3;refine Ys ?_;cases k with
 |false=>exact ite_ff ⟨.bl false,H3,I3,rfl,q3⟩
 |true=>exact ite_tt (chain_last (thn (hc pins s3 σ H3 _ I3 q3) λw' s4 ⟨z',H4,I4,r4,q4⟩=>fq pins s4 σ H4 y z' u w' Q I4 r2 r4 q4))
theorem qwm{op gz:CmpOp}{r r':R2}(ho:OpR X (compareOp op) r)(fq:OpR X (compareOp gz) r')(ha:PE X a ta)(hb:PE X b tb)(hc:PE X c tc)
  (hm:lastMarks [op,gz] [b,c]=false:=by with_unfolding_all rfl):PT X (.Compare a [op,gz] [b,c] pos) (vq1 (qjy r r' ta tb tc)):=by
 intro pins s σ H Q I h;refine isTrue_chain (thn (ha pins s σ H _ I h) λv s1 ⟨x,H1,I1,r1,q1⟩=>test_link (thn (hb pins s1 σ H1 _ I1 q1) λu s2 ⟨y,H2,I2,r2,q2⟩=>
  thn (ho pins s2 σ H2 x y v u _ I2 r1 r2 q2) λd s3 ⟨z,H3,I3,r3,k,e,q3⟩=>?_)) hm
 subst e;cases r3;refine Ys ?_;cases k with
 |false=>
  obtain⟨k',e',q'⟩:=q3;cases e';exact ite_ff ⟨H3,I3,q'⟩
 |true=>
  refine ite_tt (test_last (thn (hc pins s3 σ H3 _ I3 q3) λw' s4 ⟨z',H4,I4,r4,q4⟩=>thn (fq pins s4 σ H4 y z' u w' _ I4 r2 r4 q4) λd' s5 ⟨z2,H5,I5,r5,k2,e2,q5⟩=>?_));subst e2;cases r5;exact Ys ⟨H5,I5,q5⟩
noncomputable def vz5(K:PySem.W.Frag)(x:V)(H:Hp)(k:Bool):Prop:=
 match x with
 |.non=>k=false
 |.bl b=>k=b
 |.int i=>k=(i != 0)
 |.str y=>y.length<=sizeLine/\k=((y.length:Int) != 0)
 |.byt y=>y.size<=sizeLine/\k=((y.size:Int) != 0)
 |.ref p=>(∃xs,SqL K H p xs/\k=!xs.isEmpty)\/(∃xs,SqT K H p xs/\k=!xs.isEmpty)\/∃ak,H p=some (.dK ak)/\k=!ak.isEmpty
 |_=>False
theorem qjf{κ:Type}{ak:List (κ×V)}{vs:List (κ×Value)}(r:KV ak vs):(!vs.isEmpty)=!ak.isEmpty:=by
 cases r<;>rfl
theorem kks{xs:List V}{aa:List Value}(r:Vals xs aa):(!aa.toArray.isEmpty)=!xs.isEmpty:=by
 cases r<;>simp
theorem V2:(sizeLine:Nat)<2 ^ 63:=by rw[sizeLine_eq];decide
theorem qxl:TruR X (λx H Q=>∃k,vz5 X.K x H k/\Q k H):=by
 intro pins s σ H x v Q I rx h;obtain⟨k,e,q⟩:=h;have hl:=V2;have hs:sizeLine=16777216:=sizeLine_eq;cases x with
 | non=>
  cases rx;have e':k=false:=e;subst e';exact truthy_none ⟨H,I,q⟩
 | bl b=>
  cases rx;have e':k=b:=e;subst e';exact Ys ⟨H,I,q⟩
 | int i=>
  obtain⟨t,rfl⟩:=rx;have e':k=(i != 0):=e;subst e';exact PySem.P.truthy_int ⟨H,I,q⟩
 | str y=>
  obtain⟨t,rfl⟩:=rx;obtain⟨hy,e'⟩:y.length<=sizeLine/\k=((y.length:Int) != 0):=e;subst e';exact PySem.P.truthy_str (by lia) ⟨H,I.tok _,q⟩
 | byt y=>
  obtain⟨t,rfl⟩:=rx;obtain⟨hy,e'⟩:y.size<=sizeLine/\k=((y.size:Int) != 0):=e;subst e';exact PySem.W.truthy_bytes (by lia) ⟨H,I.tok _,q⟩
 | ref p=>
  cases rx;have e':(∃xs,SqL X.K H p xs/\k=!xs.isEmpty)\/(∃xs,SqT X.K H p xs/\k=!xs.isEmpty)\/∃ak,H p=some (.dK ak)/\k=!ak.isEmpty:=e;rcases e' with⟨xs,hx,e'⟩|⟨xs,hx,e'⟩|⟨ak,hx,e'⟩
  ·subst e';obtain⟨aa,r,pl,hz⟩:=I.list hx;have aj:=r.length;exact wpAny_truthy_list pl.isList (by simp only[X8];lia) ⟨H,I.tok _,by rw[kks r];exact q⟩
  ·subst e';obtain⟨aa,r,pl,hz⟩:=I.tuple hx;have aj:=r.length;exact truthy_tuple pl (by simp only[X8];lia) ⟨H,I.tok _,by rw[kks r];exact q⟩
  ·subst e';obtain⟨hz,hS,vs,r,m⟩:ak.length<=sizeLine/\(p==sysModules)=false/\∃vs,KV ak vs/\s.heap.DictOf (kqm X.prog X.w) p vs:=I.hok p _ hx;have aj:ak.length=vs.length:=Paired.length r;exact wpAny_truthy_dict hS m (by lia) ⟨H,I.tok _,by rw[qjf r];exact q⟩
 |_=>exact(show False from e).elim
theorem qwl(ha:PE X a ta)(he:∀dw,isTrue a X.env dw=(do let v <-dw;standAt a.pos;holding [v] (truthy v))):
  PT X a (fun σ H Q=>ta σ H λx H'=>∃k,vz5 X.K x H' k/\Q k H'):=by
 intro pins s σ H Q I h;exact isTrue_plain (thn (ha pins s σ H _ I h) λv s1 ⟨x,H1,I1,r1,q1⟩=>qxl pins s1 σ H1 x v Q I1 r1 q1) (he _)
theorem op_add_str:OpR X (binaryOp .Add) (λx y H Q=>∃i j,x=.str i/\y=.str j/\i.length+j.length<=sizeLine/\Q (.str (i++j)) H):=by
 intro pins s σ H x y v u Q I rx ry h;obtain⟨i,j,rfl,rfl,hz,q⟩:=h;obtain⟨t,rfl⟩:=rx;obtain⟨t',rfl⟩:=ry;exact add_str (λt' tk=>⟨.str (i++j),H,I.tok _,⟨_,rfl⟩,q⟩) hz
theorem xx{x:V}{us:List Value}(r:Vals [x] us):∃u,us=[u]/\RelV x u:=by
 cases r with
 |cons r1 r2=>cases r2;exact⟨_,rfl,r1⟩
theorem qw8{x y:V}{us:List Value}(r:Vals [x,y] us):∃u w',us=[u,w']/\RelV x u/\RelV y w':=by
 cases r with
 |cons r1 r2=>
  cases r2 with
  |cons r3 r4=>cases r4;exact⟨_,_,rfl,r1,r3⟩
theorem qvq:CallR X (.type "int") (λxs H Q=>(∃i,xs=[.int i]/\Q (.int i) H)\/∃k,xs=[.bl k]/\Q (.int (if k then 1 else 0)) H):=by
 intro pins s σ H xs us Q I r h;rcases h with⟨i,rfl,q⟩|⟨k,rfl,q⟩
 ·obtain⟨u,rfl,t,rfl⟩:=xx r;exact call_int_int ⟨.int i,H,I,⟨_,rfl⟩,q⟩
 ·obtain⟨u,rfl,r1⟩:=xx r;cases r1;exact call_int_bool ⟨.int (if k then 1 else 0),H,I.tok _,⟨_,rfl⟩,q⟩
end
structure ObjM (h:Heap)(x dx C:Addr)(mA:Str->Option Value):Prop where
 obj:h.get? x=some (PySem.W.instObj C dx)
 ns:h.Ns1 dx mA
 ne:dx≠x
theorem qqb{h:Heap}{dx:Addr}{mA:Str->Option Value}(n:h.Ns1 dx mA):∃od,h.get? dx=some od/\∀name,PySem.W.lookIn name od=some (mA name):=by
 obtain⟨o,es,ep,ho,hd,hk,_,hm⟩:=n;refine⟨o,ho,λname=>?_⟩;have e:=hm name;unfold nsFind findBy at e;rw[<-Array.find?_toList]at e;unfold PySem.W.lookIn;rw[hd];dsimp only
 split
 ·rename_i y q;rw[q]at e;exact congrArg some e
 ·rename_i q;rw[q]at e;have a:es.toList.any (·.refKey)=false:=by
   rw[List.any_eq_false];intro y hy;obtain⟨z,t,jp⟩:=hk y (Array.mem_toList_iff.mp hy);simp[DictEntry.refKey,jp]
  have a':¬es.toList.any (·.refKey)=true:=by rw[a];exact Bool.false_ne_true
  rw[Xj a'];exact congrArg some e
theorem ObjM.look{h:Heap}{x dx C:Addr}{mA:Str->Option Value}(I:ObjM h x dx C mA):∃od,PySem.W.InstAt h x (PySem.W.instObj C dx) C (some od)/\∀name,PySem.W.lookIn name od=some (mA name):=
 let ⟨od,ho,hl⟩:=qqb I.ns
 ⟨od,⟨I.obj,rfl,rfl,ho⟩,hl⟩
section
variable {P:Program}{w:World}{H H':Hp}{h h':Heap}{a C dx:Addr}{fs fs':List (Str×V)}
theorem vk2(hok:HOk P w H h)(e:H a=some (.ins C dx fs)):∃mA,ObjM h a dx C mA/\(∀f,wk5 (fs.lookup f) (mA f))/\PySem.Within mA (fs.map (·.1))/\fs.length<=1000/\H dx=some (.own a):=by
 obtain⟨d,z,ne,ob,mA,n,r,q⟩:=(show ObjOk P w H h a (.ins C dx fs)from hok a _ e);exact⟨mA,⟨ob,n,ne⟩,r,q,z,d⟩
end
structure Cls (K:PySem.W.Frag)(C:Addr):Prop where
 pg:PySem.W.plainGet K C Str.empty=true
 hd:PySem.W.hasDictIn K C=true
 po:PySem.W.plainOver K C=true
 sa:PySem.W.findIn K (.ref C) "__setattr__"=some (some (.builtin "object.__setattr__"))
theorem Cls.get{K:PySem.W.Frag}{C:Addr}(c:Cls K C)(f:Str):PySem.W.plainGet K C f=true:=c.pg
section
variable {X:Cx}{pins:List (Addr×Obj)}{σ:St}{H:Hp}{s:Shared}{A:Around}{E:Value->Shared->Prop}{Q:Value->Shared->Prop}{c:Value}{b:Bool}
inductive TyOf (K:PySem.W.Frag)(H:Hp):V->Value->Prop where
 | non:TyOf K H .non (.type "NoneType")
 | bl (x:Bool):TyOf K H (.bl x) (.type "bool")
 | int (i:Int):TyOf K H (.int i) (.type "int")
 | str (x:Str):TyOf K H (.str x) (.type "str")
 | flt (x:UInt64):TyOf K H (.flt x) (.type "float")
 | lst {a:Addr} {xs:List V} (e:H a=some (.lst xs)):TyOf K H (.ref a) (.type "list")
 | frz {a:Addr} {o:Obj} {xs:List V} (e:H a=some (.frz o (.lst xs))):TyOf K H (.ref a) (.type "list")
 | tup {a:Addr} {xs:List V} (e:H a=some (.tup xs)):TyOf K H (.ref a) (.type "tuple")
 | dK {a:Addr} {ak:List (Key×V)} (e:H a=some (.dK ak)):TyOf K H (.ref a) (.type "dict")
 | dT {a:Addr} {ak:List (List Key×V)} (e:H a=some (.dT ak)):TyOf K H (.ref a) (.type "dict")
 | ins {a C dx:Addr} {fs:List (Str×V)} (e:H a=some (.ins C dx fs)) (cl:Cls K C) (ha:PySem.W.findIn K (.ref C) "__class__"=some (some (.builtin "object.__class__")))
   (hn:PySem.W.specialIn K (.builtin "object.__class__") "__get__"=some (some (.builtin "getset_descriptor.__get__"))) (htk:PySem.W.takesIn K (.builtin "object.__class__")=some true)
   (hm:PySem.W.mroIn K C (.type "object")=some true):TyOf K H (.ref a) (.ref C)
theorem qqq{x:V}{u t:Value}(I:Inv X pins σ H s)(rx:RelV x u)(ty:TyOf X.K H x t)(e:PySem.W.kitOne X.K t c=some b)(h:∀tk,Q (.bool b) { s with toks:=tk }):
  wpAny (model X.prog X.w) A (call (.builtin "isinstance") [u,c]) Q E s:=by
 cases ty with
 |non=>cases(show u=Value.none from rx);exact Y5 PySem.W.kitx_none I.kIn True.intro e (λz=>nomatch z) h
 |bl y=>cases(show u=Value.bool y from rx);exact Y5 PySem.W.kitx_bool I.kIn True.intro e (λz=>nomatch z) h
 |int i=>obtain⟨t,q⟩:=(show ∃t,u=Value.int i t from rx);cases q;exact Y5 PySem.W.kitx_int I.kIn True.intro e (λz=>nomatch z) h
 |str y=>obtain⟨t,q⟩:=(show ∃t,u=Value.str y t from rx);cases q;exact Y5 PySem.W.kitx_str I.kIn True.intro e (λz=>nomatch z) h
 |flt y=>obtain⟨t,q⟩:=(show ∃t,u=Value.float y t from rx);cases q;exact Y5 PySem.W.kitx_float I.kIn True.intro e (λz=>nomatch z) h
 |@lst a xs ea=>
  cases(show u=Value.ref a from rx);obtain⟨_,_,n,_,h1⟩:=(show ObjOk X.prog X.w H s.heap a (.lst xs)from I.hok a _ ea);exact Y5 PySem.W.kitx_list I.kIn ⟨_,h1,rfl⟩ e (λz=>nomatch z) h
 |@frz a ob xs ea=>
  cases(show u=Value.ref a from rx);obtain⟨_,_,_,n,_,h1⟩:=(show ObjOk X.prog X.w H s.heap a (.frz ob (.lst xs))from I.hok a _ ea);exact Y5 PySem.W.kitx_list I.kIn ⟨_,h1,rfl⟩ e (λz=>nomatch z) h
 |@tup a xs ea=>
  cases(show u=Value.ref a from rx);obtain⟨_,_,_,p⟩:=(show ObjOk X.prog X.w H s.heap a (.tup xs)from I.hok a _ ea);obtain⟨o,h1,h2,_⟩:=p;exact Y5 PySem.W.kitx_tuple I.kIn ⟨o,h1,h2⟩ e (λz=>nomatch z) h
 |@dK a ak ea=>
  cases(show u=Value.ref a from rx);obtain⟨_,_,vs,_,p⟩:=(show ObjOk X.prog X.w H s.heap a (.dK ak)from I.hok a _ ea);obtain⟨o,es,ep,h1,h2,_⟩:=p;exact Y5 PySem.W.kitx_dict I.kIn ⟨o,h1,h2.1⟩ e (λz=>nomatch z) h
 |@dT a ak ea=>
  cases(show u=Value.ref a from rx);obtain⟨_,_,xs,_,o,es,ep,h1,h2,_⟩:=(show ObjOk X.prog X.w H s.heap a (.dT ak)from I.hok a _ ea);exact Y5 PySem.W.kitx_dict I.kIn ⟨o,h1,h2.1⟩ e (λz=>nomatch z) h
 |@ins a C dx fs ea cl ha hn htk hm=>
  cases(show u=Value.ref a from rx);obtain⟨mA,O,_⟩:=vk2 I.hok ea;obtain⟨od,J,_⟩:=O.look;exact Y5 (PySem.W.kitx_own (cl.get _) cl.hd ha hn htk hm) I.kIn J e (λz=>nomatch z) h
end
structure Room (k:Nat)(A:Around):Prop where
 hd:A.handled=none
 dp:A.depth+3*k+5<recursionLimit
 un:A.units+16*k+200<cLine
 gd:A.guards=some []
theorem Room.mono{j k:Nat}{A:Around}(r:Room k A)(h:j<=k):Room j A:=⟨r.hd,by have:=r.dp;lia,by have:=r.un;lia,r.gd⟩
theorem Room.deeper{k:Nat}{A:Around}(r:Room (k+1) A)(env:Env):Room k (A.deeper env):=
 ⟨r.hd,by have:=r.dp;show A.depth+1+3*k+5<_;lia,by have:=r.un;show A.units+3+16*k+200<_;lia,r.gd⟩
theorem Room.depth{k:Nat}{A:Around}(r:Room k A):A.depth<recursionLimit:=by have:=r.dp;lia
theorem Room.units{k:Nat}{A:Around}(r:Room k A):A.units+64<cLine:=by have:=r.un;lia
abbrev vz7:TA:=λ_ H Q=>Q [] H
abbrev qzo(ta:TE)(tr:TA):TA:=fun σ H Q=>ta σ H λx H1=>tr σ H1 λxs H2=>Q (x::xs) H2
section
variable {X:Cx}{e:Expr}{es:List Expr}{te:TE}{t:TA}{pos:Pos}
theorem xj:PA X [] vz7:=λ_ _ _ _ H Q I h=>Calls.spliced_nil ⟨[],H,I,.nil,h⟩
theorem wj(ha:PE X e te)(hr:PA X es t)(hs:autoParam (starEach (e::es) X.env=(false,eval e X.env)::starEach es X.env) Ŕ):PA X (e::es) (qzo te t):=by
 intro pos pins s σ H Q I h;rw[hs];show wpAny _ _ (spliced ((false,eval e X.env)::backTo pos (starEach es X.env))) _ _ s;refine Calls.spliced_cons (thn (ha pins s σ H _ I h) λu s1 ⟨x,H1,I1,r1,q1⟩=>?_);exact thn (hr pos pins s1 σ H1 _ I1 q1) λus s2 ⟨xs,H2,I2,r2,q2⟩=>⟨x::xs,H2,I2,.cons r1 r2,q2⟩
abbrev tTup(t:TA):TE:=fun σ H Q=>t σ H λxs H1=>xs.length<=sizeLine/\∀p,H1 p=none->Q (.ref p) (upd H1 p (.tup xs))
abbrev tLst(t:TA):TE:=fun σ H Q=>t σ H λxs H1=>xs.length<=sizeLine/\∀p,H1 p=none->Q (.ref p) (upd H1 p (.lst xs))
theorem vvl{x1}(h:PA X es t):PE X (.Tuple es x1 pos) (tTup t):=by
 intro pins s σ H Q I hq;refine wpAny_Tuple_spliced (thn (h pos pins s σ H _ I hq) λus s1 ⟨xs,H1,I1,r,z,q⟩=>⟨by rw[<-r.length];exact z,?_⟩);have hf:H1 s1.heap.objs.size=none:=I1.hok.fresh (Xd _);refine⟨.ref s1.heap.objs.size,upd H1 s1.heap.objs.size (.tup xs),I1.laid (t':=s1.toks) (λb u e=>X2 _ e) (Xd _) ?_,rfl,q _ hf⟩;exact⟨z,us,r,⟨_,X9 _ rfl,rfl,rfl,_,rfl⟩⟩
theorem vvq(h:PA X es t):PE X (.List es pos) (tLst t):=by
 intro pins s σ H Q I hq;refine wpAny_List_spliced (thn (h pos pins s σ H _ I hq) λus s1 ⟨xs,H1,I1,r,z,q⟩=>⟨by rw[<-r.length];exact z,?_⟩);have hf:H1 s1.heap.objs.size=none:=I1.hok.fresh (Xd _);refine⟨.ref s1.heap.objs.size,upd H1 s1.heap.objs.size (.lst xs),I1.laid (t':=s1.toks) (λb u e=>X2 _ e) (Xd _) ?_,rfl,q _ hf⟩;exact⟨z,us,0,r,X9 _ rfl⟩
end
abbrev Sp:=List V->Hp->VK->XK->Prop
abbrev CXT:=List Env->Hp->Shared->XK->Value->Shared->Prop
structure Env0 (P:Program)(w:World)(K:PySem.W.Frag)(mg:Str->Option Value)(base:Heap)(A:Around)(outer:List Env)(s:Shared)(H:Hp):Prop where
 frames:A.frames=some outer
 mod:Mod K mg base
 bs:∀b o,base.get? b=some o->s.heap.get? b=some o/\H b=none
 bsz:base.objs.size<=s.heap.objs.size
 funs:s.heap.FunFrames base outer
 frf:∀b∈frs outer,H b=none
 hok:HOk P w H s.heap
 bare:AllBare s.gens
noncomputable def CE(outer:List Env)(P:Program)(w:World)(H:Hp)(s:Shared)(Q:VK)(u:Value)(s':Shared):Prop:=
 ∃v H',s'.os=s.os/\AllBare s'.gens/\Un (frs outer) [] H H' s.heap s'.heap/\HOk P w H' s'.heap/\RelV v u/\Q v H'
noncomputable def CR(CX:CXT)(outer:List Env)(P:Program)(w:World)(H:Hp)(s:Shared)(Q:VK)(E:XK)(r:Result)(s':Shared):Prop:=
 match r with
 |.ok (.ret u)=>CE outer P w H s Q u s'
 |.ok _=>False
 |.error e=>CX outer H s E e s'
structure FnOk (P:Program)(w:World)(K:PySem.W.Frag)(mg:Str->Option Value)(base:Heap)(CX:CXT)(k:Nat)(f:Addr)(fd:FuncData)(ps:List Str)(sp:Sp):Prop where
 len:∀vs H Q E,sp vs H Q E->vs.length=ps.length
 run:∀(A:Around) (outer:List Env) (s:Shared) (H:Hp) (args:Args) (us:List Value) (vs:List V) (Q:VK) (E:XK),Room k A->Env0 P w K mg base A outer s H->BindsTo s fd args (ps.zip us)->Vals vs us->sp vs H Q E ->
  codeAny (model P w) A (.call (.ref f) args) (CR CX outer P w H s Q E) s
section
variable {X:Cx}{pins:List (Addr×Obj)}{σ:St}{H:Hp}{s s':Shared}
theorem Inv.env0(I:Inv X pins σ H s):Env0 X.prog X.w X.K X.mg X.base X.A X.stack s H:=
 ⟨I.ok.frames,I.ok.mod,I.bs,Yk I.ok.bsz I.sz,I.stack,I.stkFree,I.hok,I.bare⟩
theorem Inv.after{Q:VK}{u:Value}(I:Inv X pins σ H s)(h:CE X.stack X.prog X.w H s Q u s'):EP X pins σ Q u s':=by
 obtain⟨v,H',os,bare,un,hok,r,q⟩:=h;obtain⟨hh,g,d,t,qc⟩:=s';obtain rfl:qc=s.os:=os;exact⟨v,H',I.call (h':=hh) (g':=g) (d':=d) (t':=t) (ch:=[]) un hok bare (λb z=>absurd z (by simp)),r,q⟩
end
abbrev vq3(sp:Sp)(ln:List V)(E:XK)(t:TA):TE:=fun σ H Q=>t σ H λvs H1=>sp (vs++ln) H1 Q E
noncomputable def Binds(K:PySem.W.Frag)(fd:FuncData)(ps:List Str)(ds:List Value):Prop:=
 ∀(s:Shared) (us:List Value),K.In s.heap->(us++ds).length=ps.length->BindsTo s fd ⟨us,[]⟩ (ps.zip (us++ds))
theorem Binds.all{K:PySem.W.Frag}{fd:FuncData}{ps:List Str}(h:∀us:List Value,us.length=ps.length->bindArgs fd ⟨us,[]⟩=pure (ps.zip us)):Binds K fd ps []:=λs us _ hl=>by
 rw[Y0]at hl ⊢;exact .of_eq (h us hl)
noncomputable def qw1(CX:CXT)(X:Cx)(E:XK):Prop:=∀(pins:List (Addr×Obj)) (σ:St) (H:Hp) (s:Shared) (e:Value) (s':Shared),Inv X pins σ H s->CX X.stack H s E e s'->X.xe e s'
section
variable {X:Cx}{CX:CXT}{k:Nat}{f C:Addr}{fd:FuncData}{ps:List Str}{sp:Sp}{ln:List V}{ds:List Value}{E:XK}{x m:Str}{p pos c8:Pos}{e o:Expr}{es:List Expr}{ta:TE}{t:TA}
theorem vqj{pins:List (Addr×Obj)}{σ:St}{H:Hp}{s:Shared}{Q:VK}{us:List Value}{vs:List V}(F:FnOk X.prog X.w X.K X.mg X.base CX k f fd ps sp)(hr:Room k X.A)(hb:Binds X.K fd ps ds)(hd:Vals ln ds)(hx:qw1 CX X E)
  (I:Inv X pins σ H s) (r:Vals vs us) (h:sp (vs++ln) H Q E):wpAny (model X.prog X.w) X.A (call (.ref f) us) (EP X pins σ Q) X.xe s:=by
 have r2:Vals (vs++ln) (us++ds):=r.append hd;have hl:(us++ds).length=ps.length:=by rw[<-r2.length];exact F.len _ _ _ _ h
 refine wpAny_call (codeAny_mono (F.run X.A X.stack s H ⟨us,[]⟩ (us++ds) (vs++ln) Q E hr I.env0 (hb s us I.kIn hl) r2 h) λr s' hq=>?_);cases r with
 |error e=>exact hx pins σ H s e s' I hq
 |ok fl=>
  cases fl with
  |ret u=>exact I.after hq
  |next=>exact False.elim hq
  |brk=>exact False.elim hq
  |cont=>exact False.elim hq
theorem vjf(F:FnOk X.prog X.w X.K X.mg X.base CX k f fd ps sp)(hr:Room k X.A)(hg:Gl X x)(hm:X.mg x=some (.ref f))(hk:PySem.W.keepIn X.K (.ref f)=true)(hb:Binds X.K fd ps ds)(hd:Vals ln ds)(hx:qw1 CX X E)
  (ha:PA X (e::es) t) (f9:autoParam ((x==("__debug__":Str))=false) ŕ) (he:autoParam (starEach (e::es) X.env=(false,eval e X.env)::starEach es X.env) Ŕ) (bn:autoParam ((backTo pos (starEach es X.env)).any (·.1)=false) Ŕ):
  PE X (.Call (.Name x p) (e::es) [] pos) (vq3 sp ln E t):=by
 intro pins s σ H Q I h;refine Yl (qqh I hg hm ?_ f9);refine PySem.W.callWith_K (h₀:=X.base) I.ok.mod.kin hk (thn (ha pos pins s σ H _ I h) λus s1 ⟨vs,H1,I1,r,q⟩=>⟨I1.kIn,?_⟩) he bn;exact vqj F hr hb hd hx I1 r q
end
structure FnScope (N P:List Str)(sc:Scope):Prop where
 kind:sc.kind=.function
 co:sc.isCoroutine=false
 gen:sc.isGenerator=false
 nd:N.Nodup
 pre:N.take P.length=P
 par:∀x∈P,sc.names.lookup x=some .local\/sc.names.lookup x=some .cell
 nofree:∀y∈sc.names,y.2≠.free
theorem kwd{kindOf : Str -> Option NameKind}{x : Str}: ∀{binds : List (Str × Value)} {m : Str -> Option Value}, (∀v, (x, v)∉binds) -> bindL kindOf binds m x = m x
  | [], _, _=>rfl
  | (n, v)::r, m, h=>by
    unfold bindL;rw[kwd λw hw=>h w (lc9 _ hw)]
    split
    · have : x≠n:= by rintro rfl; exact h v X3
      simp[this]
    · rfl
theorem kwf{kindOf : Str -> Option NameKind}{x : Str}: ∀{binds : List (Str × Value)} {m : Str -> Option Value}, (∀v, (x, v)∉binds) -> bindC kindOf binds m x = m x
  | [], _, _=>rfl
  | (n, v)::r, m, h=>by
    unfold bindC;rw[kwf λw hw=>h w (lc9 _ hw)]
    split
    · rfl
    · have : x≠n:= by rintro rfl; exact h v X3
      simp[this]
theorem kwe{kindOf:Str->Option NameKind}{x:Str}{v:Value}:∀{P:List Str} {vs:List Value} {i:Nat} {m:Str->Option Value},P.Nodup->P[i]?=some x->vs[i]?=some v->kindOf x=some .local ->
  bindL kindOf (P.zip vs) m x=some v
 |[],_,_,_,_,h,_,_=>by simp at h
 |_::_,[],_,_,_,_,h,_=>by simp at h
 |p::P,w::vs,0,m,nd,h1,h2,hk=>by
  simp at h1 h2;subst h1;subst h2;show bindL kindOf ((p,w)::P.zip vs) m p=_;unfold bindL;rw[kwd λv hv=>(List.nodup_cons.mp nd).1 (List.of_mem_zip hv).1,Xf hk];simp
 |p::P,w::vs,i+1,m,nd,h1,h2,hk=>by
  show bindL kindOf ((p,w)::P.zip vs) m x=_;unfold bindL;exact kwe (i:=i) (List.nodup_cons.mp nd).2 (by simpa using h1) (by simpa using h2) hk
theorem kwg{kindOf:Str->Option NameKind}{x:Str}{v:Value}:∀{P:List Str} {vs:List Value} {i:Nat} {m:Str->Option Value},P.Nodup->P[i]?=some x->vs[i]?=some v->kindOf x≠some .local ->
  bindC kindOf (P.zip vs) m x=some v
 |[],_,_,_,_,h,_,_=>by simp at h
 |_::_,[],_,_,_,_,h,_=>by simp at h
 |p::P,w::vs,0,m,nd,h1,h2,hk=>by
  simp at h1 h2;subst h1;subst h2;show bindC kindOf ((p,w)::P.zip vs) m p=_;unfold bindC;rw[kwf λv hv=>(List.nodup_cons.mp nd).1 (List.of_mem_zip hv).1,Xj hk];simp
 |p::P,w::vs,i+1,m,nd,h1,h2,hk=>by
  show bindC kindOf ((p,w)::P.zip vs) m x=_;unfold bindC;exact kwg (i:=i) (List.nodup_cons.mp nd).2 (by simpa using h1) (by simpa using h2) hk
def start(N:List Str)(vs:List V):St:=vs.map some++List.replicate (N.length - vs.length) none
noncomputable def JQ(CX:CXT)(P:Program)(w:World)(K:PySem.W.Frag)(mg:Str->Option Value)(base:Heap)(N:List Str)(qual:Str)(scope:Scope)(f:Addr)(cd:Value)(A:Around)(outer:List Env)(s:Shared)(H:Hp)(E:XK):Cx where
 prog:=P
 w:=w
 K:=K
 mg:=mg
 base:=base
 A:=A.deeper (envOfC qual scope s.heap.objs.size f cd)
 N:=N
 s₀:=s
 H₀:=H
 env:=envOfC qual scope s.heap.objs.size f cd
 outer:=outer
 stack:=envOfC qual scope s.heap.objs.size f cd::outer
 ex:=[]
 calm:=true
 fn:=λ_=>true
 pn:=[]
 xe:=λe s'=>wpAny (model P w) (A.deeper (envOfC qual scope s.heap.objs.size f cd)) (leaving (envOfC qual scope s.heap.objs.size f cd) e) (λ_ j'=>CX outer H s E e j') (λe' j'=>CX outer H s E e' j') s'
theorem kzr{sc:Scope}{n:Nat}{x:Str}(h:sc.names.lookup x=some .cell):∃c,(cellsFrom n sc.names []).lookup x=some c:=by
 have q:=PySem.W.cellsFrom_some sc.names n [] (.inl h);exact Option.isSome_iff_exists.mp q
theorem qqr{CX:CXT}{P:Program}{w:World}{K:PySem.W.Frag}{mg:Str->Option Value}{base:Heap}{N ps:List Str}{qual:Str}{scope:Scope}{f:Addr}{cd:Value}{A:Around}{outer:List Env}{s s1:Shared}{H:Hp}{E:XK}{us:List Value}{vs:List V}
  (S:FnScope N ps scope) (hd:A.handled=none) (e0:Env0 P w K mg base A outer s H) (hl:vs.length=ps.length) (r:Vals vs us)
  (x:InCallC s s.heap.objs.size (bindL (envOfC qual scope s.heap.objs.size f cd).kindOf (ps.zip us) λ_=>none) (cellsFrom (s.heap.objs.size+1) scope.names []) (bindC (envOfC qual scope s.heap.objs.size f cd).kindOf (ps.zip us) λ_=>none) s1):
  Inv (JQ CX P w K mg base N qual scope f cd A outer s H E) [] (start N vs) H s1:=by
 have bn:ps.length<=N.length:=by have:=congrArg List.length S.pre;rw[Y9]at this;lia
 obtain⟨h1,tk,rfl,hk⟩:=x.done;have qd:∀b:Addr,b∉(JQ CX P w K mg base N qual scope f cd A outer s H E).ex:=λb z=>absurd (show b∈([]:List Addr)from z) (by simp)
 refine⟨⟨e0.mod,S.kind,rfl,rfl,Xd _,λy z c h1 h2=>?_,λy hy=>?_,λy c _ h=>?_,λ_=>hd,Around.frames_deeper e0.frames,.inr ⟨rfl,rfl⟩,λb z=>absurd z (qd b),e0.bs,e0.bsz,λb _ _=>qd b,λb z=>absurd z (qd b),e0.funs,e0.frf⟩,
  rfl,e0.bare,Un.kept hk,⟨_,x.toInCall.ns,λi y v h1 h2 h3=>?_⟩,λy c h=>⟨_,x.cell y c h⟩,e0.hok.fresh (Xd _),λy c h=>?_,λp hp=>absurd (show p∈([]:List (Addr×Obj))from hp) (by simp),e0.hok.kept hk,?_⟩
 ·exact name_of_addr x.apart (Yn h1) (Yn h2)
 ·have hy:scope.names.lookup y=some .cell\/scope.names.lookup y=some .free:=hy;rcases hy with hy|hy
  ·exact kzr hy
  ·exact absurd rfl (S.nofree _ (Yn hy))
 ·exact Nat.le_of_lt (x.above y c (Yn h))
 ·have hi:i<vs.length:=by
   unfold start at h2
   by_cases hi:i<vs.length
   ·exact hi
   ·rw[Yc (by simpa using hi)]at h2;rw[List.getElem?_replicate]at h2
    split at h2<;>cases h2
  have ha:vs[i]?=some v:=by
   unfold start at h2;rw[Xw (by simpa using hi),Xu]at h2;cases e:vs[i]? with
   |none=>rw[e]at h2;cases h2
   |some a=>rw[e]at h2;cases h2;rfl
  obtain⟨u,hu,rv⟩:=r.get ha;have hp:ps[i]?=some y:=by
   rw[<-S.pre,List.getElem?_take_of_lt (by lia)];exact h1
  have ndP:ps.Nodup:=by rw[<-S.pre];exact S.nd.sublist (List.take_sublist _ _)
  refine⟨u,rv,?_⟩;rcases S.par y (List.mem_of_getElem? hp)with k|k
  ·exact .inl ⟨k,kwe ndP hp hu k⟩
  ·obtain⟨c,e⟩:=kzr (n:=s.heap.objs.size+1) k;refine .inr ⟨.inl k,c,e,?_⟩;have q:=x.cell y c e;rw[kwg ndP hp hu (by show scope.names.lookup y≠_;rw[k];decide)]at q;exact q
 ·exact e0.hok.fresh (Nat.le_of_lt (x.above y c (Yn h)))
 ·unfold start;show _=N.length;rw[Xi,X5,Xx];lia
theorem wji{CX:CXT}{P:Program}{w:World}{K:PySem.W.Frag}{mg:Str->Option Value}{base:Heap}{k:Nat}{f:Addr}{name qual:Str}{params:Arguments}{body:List Stmt}{scope:Scope}{dV kV fm pm bd ct oc:Value}{an od:Option Addr}
  {lj:Array (Option Value)} {N ps:List Str} {sp:Sp} (lk:K.lookup f=some ⟨oc,od,.func (PySem.W.fnOf name qual params body scope dV kV fm pm an bd ct),lj⟩) (gk:PySem.W.codeIn K bd qual=true) (S:FnScope N ps scope)
  (len:∀vs H Q E,sp vs H Q E->vs.length=ps.length)
  (iz:∀(A:Around) (outer:List Env) (s:Shared) (H:Hp) (vs:List V) (Q:VK) (E:XK),Room k (A.deeper (envOfC qual scope s.heap.objs.size f bd))->sp vs H Q E ->
   ∃t,PSs (JQ CX P w K mg base N qual scope f bd A outer s H E) body t/\t { nx:=λ_ H'=>Q .non H',rt:=Q } (start N vs) H):
  FnOk P w K mg base CX (k+1) f (PySem.W.fnOf name qual params body scope dV kV fm pm an bd ct) ps sp:=by
 refine⟨len,λA outer s H args us vs Q E hr e0 hb r lp=>?_⟩;have hl:=len _ _ _ _ lp;have KX:K.In s.heap:=e0.mod.kin.keeps λb o e=>(e0.bs b o e).1
 have lim:s.heap.NoLimit:=e0.mod.nolimit.keeps λb o e=>(e0.bs b o e).1
 have pj:∀y∈ps.zip us,scope.names.lookup y.1=some .local\/(scope.names.lookup y.1=some .cell/\((cellsFrom (s.heap.objs.size+1) scope.names []).lookup y.1).isSome=true):=λ⟨n,v⟩ hy=>by
  rcases S.par n (List.of_mem_zip hy).1 with q|q
  ·exact .inl q
  ·exact .inr ⟨q,PySem.W.cellsFrom_some _ _ _ (.inl q)⟩
 refine codeAny_call_function hr.depth (KX _ _ lk) rfl S.co S.gen rfl (PySem.W.codeRec_of KX gk) (hb _ _ _ _ ?_);refine wpAny_newFunctionEnv_cells S.kind pj λenv he s1 x=>?_
 subst he;refine⟨lim.keeps x.toInCall.keep,codeAny_func ?_⟩;obtain⟨t,ht,hq⟩:=iz A outer s H vs Q E (hr.deeper _) lp;have I:Inv (JQ CX P w K mg base N qual scope f bd A outer s H E) [] (start N vs) H s1:=qqr S hr.hd e0 hl r x;refine wpAny_mono (ht [] s1 (start N vs) H _ I hq) (λfl s' hs=>?_) λe s' hs=>hs
 have fin:∀{σ':St} {H':Hp} {v:V} {u:Value},Inv (JQ CX P w K mg base N qual scope f bd A outer s H E) [] σ' H' s'->RelV v u->Q v H'->CE outer P w H s Q u s':=
  fun {σ' H' v u} J rv q=>⟨v,H',J.os,J.bare,J.base,J.hok,rv,q⟩
 cases fl with
 |ret u=>
  obtain⟨v,σ',H',J,rv,q⟩:=hs;exact fin J rv q
 |next=>
  obtain⟨σ',H',J,q⟩:=hs;exact fin (v:=V.non) (u:=Value.none) J rfl q
 |brk=>
  obtain⟨_,_,_,q⟩:=hs;exact False.elim q
 |cont=>
  obtain⟨_,_,_,q⟩:=hs;exact False.elim q
section
variable {X:Cx}{x:Str}{p pos:Pos}{e:Expr}{es:List Expr}{t:TA}{id T:String}{r:List V->Hp->VK->Prop}
abbrev tCB(r:List V->Hp->VK->Prop)(t:TA):TE:=fun σ H Q=>t σ H λvs H1=>r vs H1 Q
theorem kqe(hc:CallR X (.builtin id) r)(hg:Gl X x)(hm:X.mg x=none)(hv:bootBuiltins x=some (.builtin id))(ha:PA X (e::es) t)(hn:autoParam (x≠"__name__") ŕ)(f9:autoParam ((x==("__debug__":Str))=false) ŕ)
  (he:autoParam (starEach (e::es) X.env=(false,eval e X.env)::starEach es X.env) Ŕ) (bn:autoParam ((backTo pos (starEach es X.env)).any (·.1)=false) Ŕ):PE X (.Call (.Name x p) (e::es) [] pos) (tCB r t):=by
 intro pins s σ H Q I h;refine Yl (Jq I hg hm hv ?_ hn f9);exact PyProof.Rows.callWith_builtin1 (thn (ha pos pins s σ H _ I h) λus s1 ⟨vs,H1,I1,r1,q1⟩=>hc pins s1 σ H1 vs us Q I1 r1 q1) he bn
theorem qkw(hc:CallR X (.type T) r)(hg:Gl X x)(hm:X.mg x=none)(hv:bootBuiltins x=some (.type T))(ha:PA X (e::es) t)(hn:autoParam (x≠"__name__") ŕ)(f9:autoParam ((x==("__debug__":Str))=false) ŕ)
  (he:autoParam (starEach (e::es) X.env=(false,eval e X.env)::starEach es X.env) Ŕ) (bn:autoParam ((backTo pos (starEach es X.env)).any (·.1)=false) Ŕ):PE X (.Call (.Name x p) (e::es) [] pos) (tCB r t):=by
 intro pins s σ H Q I h;refine Yl (Jq I hg hm hv ?_ hn f9);exact Y8 (thn (ha pos pins s σ H _ I h) λus s1 ⟨vs,H1,I1,r1,q1⟩=>hc pins s1 σ H1 vs us Q I1 r1 q1) he bn
end
end L2
namespace HT
open PySem PyProof.Rows
section
variable {prog:Program}{w:World}{A:Around}{E:Value->Shared->Prop}{s:Shared}
theorem cat_tup{t b:Addr}{vs ws:List Value}{Q:Value->Shared->Prop}(ht:IsTup s.heap t vs.toArray)(hb:IsTup s.heap b ws.toArray)(hv:vs≠[])
  (h1:ws=[]->Q (.ref t) s) (h2:ws≠[]->Q (.ref s.heap.objs.size) { s with heap:=s.heap.push { cls:=.type "tuple",data:=.seq (vs++ws).toArray } })
  (hsz:vs.length+ws.length<=sizeLine):wpAny (model prog w) A (binaryOp .Add (.ref t) (.ref b)) Q E s:=by
 obtain⟨⟨cls,dd,data,sl⟩,ho,hc,n,hd⟩:=id ht;obtain⟨⟨cls2,dd2,data2,lb⟩,ho2,hc2,n2,gi⟩:=id hb;simp only at hc hd hc2 gi;subst hc hd hc2 gi;have e:vs.toArray++ws.toArray=(vs++ws).toArray:=by simp
 by_cases hw:ws=[]
 ·exact concat_meets ⟨_,ho,rfl⟩ ⟨_,ho2,rfl⟩ noFill_tuple_add seq_tuple_add PySem.F.slot_tuple_add PySem.F.entry_tuple_add (PySem.F.args_tuple_add_2 _ _)
   (tuple_addW1 t b vs.toArray ws.toArray n n2 dd dd2 sl lb (by simpa using hv) (by simp[hw])) ⟨ho,ho2,h1 hw⟩
 ·refine concat_meets ⟨_,ho,rfl⟩ ⟨_,ho2,rfl⟩ noFill_tuple_add seq_tuple_add PySem.F.slot_tuple_add PySem.F.entry_tuple_add (PySem.F.args_tuple_add_2 _ _)
   (tuple_addW2 t b vs.toArray ws.toArray n n2 dd dd2 sl lb (by simpa using hv) (by simpa using hw) (by rw[X8,X8];exact hsz)) ⟨ho,ho2,?_⟩
  rw[e];exact h2 hw
def sIx(n d:Nat):Option Int->Nat
 |none=>d
 |some v=>if v<0 then(v+(n:Int)).toNat else min v.toNat n
theorem vqi(n d:Nat)(hd:d<=n)(o:Option Int):sIx n d o<=n:=by
 cases o with
 |none=>exact hd
 |some v=>
  show(if v<0 then(v+(n:Int)).toNat else min v.toNat n)<=n
  by_cases hv:v<0
  ·rw[Xf hv];lia
  ·rw[Xj hv];exact Nat.min_le_right _ _
theorem qvj(v:Int)(n d:Nat):(if v<0 then max (v+(n:Int)) 0 else min v (n:Int))=((sIx n d (some v):Nat):Int):=by
 show(if v<0 then max (v+(n:Int)) 0 else min v (n:Int))=(((if v<0 then(v+(n:Int)).toNat else min v.toNat n):Nat):Int)
 by_cases hv:v<0
 ·simp only[Xf hv];lia
 ·simp only[Xj hv];lia
theorem qjl(lo hi:Option Int)(n:Nat):Builtin.Slice.sliceAdjust lo hi 1 (n:Int)=(((sIx n 0 lo:Nat):Int),((sIx n n hi:Nat):Int)):=by
 have h1:¬((1:Int)<0):=by lia
 unfold Builtin.Slice.sliceAdjust;simp only[h1,if_false];refine Prod.ext ?_ ?_
 ·cases lo with
  |none=>rfl
  |some v=>exact qvj v n 0
 ·cases hi with
  |none=>rfl
  |some v=>exact qvj v n n
theorem qj8(i j:Nat):Builtin.Slice.slicePlaces (i:Int) (j:Int) 1=j - i:=by
 unfold Builtin.Slice.slicePlaces;have h1:(1:Int)>0:=by lia
 simp only[h1,if_true,Int.ediv_one]
 split<;>lia
theorem kkl{v:Value}{o:Option Int}{Q:Option Int->Shared->Prop}(p:IsPart v o)(h:Q o s):wpAny (model prog w) A (Builtin.Slice.slicePartIndex v) Q E s:=by
 cases p with
 |none=>exact slicePart_none h
 |int i t=>exact slicePart_int h
theorem jzw{sl:Addr}{vl vu:Value}{lo hi:Option Int}{n:Nat}{Q:Int×Int×Nat->Shared->Prop}(hs:s.heap.IsSliceOf sl vl vu .none)(pl:IsPart vl lo)(pu:IsPart vu hi)
  (h:Q (((sIx n 0 lo:Nat):Int),1,sIx n n hi - sIx n 0 lo) s):wpAny (model prog w) A (Builtin.Slice.sliceApplied (.ref sl) (pure (n:Int))) Q E s:=by
 obtain⟨os,ii,fv,ip⟩:=id hs;unfold Builtin.Slice.sliceApplied Builtin.Slice.sliceFields;refine X0 (X0 (Z4 ii ip (x:=vl) rfl (X0 (Z4 ii ip (x:=vu) rfl (X0 (Z4 ii ip (x:=.none) rfl (X4 ?_)))))));refine X0 (slicePart_none ?_);show wpAny _ _ (if((1:Int)==0)=true then _ else _) _ _ s;rw[Xj (by decide)];refine X0 (kkl pl (X0 (kkl pu (X0 (X4 ?_)))));show wpAny _ _ (match Builtin.Slice.sliceAdjust lo hi 1 (n:Int)with|(lo,hi)=>pure (lo,(1:Int),Builtin.Slice.slicePlaces lo hi 1)) _ _ s;rw[qjl lo hi n];show wpAny _ _ (pure (((sIx n 0 lo:Nat):Int),(1:Int),Builtin.Slice.slicePlaces ((sIx n 0 lo:Nat):Int) ((sIx n n hi:Nat):Int) 1)) _ _ s;rw[qj8];exact X4 h
theorem qwo(xs:Array Value)(i k:Nat):((List.range k).filterMap λ(m:Nat)=>xs[((i:Int)+(m:Int)*1).toNat]?).toArray=((xs.toList.drop i).take k).toArray:=by
 have e:(λ(m:Nat)=>xs[((i:Int)+(m:Int)*1).toNat]?)=λm=>xs[i+m]?:=by
  funext m;have:((i:Int)+(m:Int)*1).toNat=i+m:=by lia
  rw[this]
 rw[e];have:=pick_run xs i k;rw[List.filterMap_map]at this;have e2:((λx=>xs[x]?)∘λx=>i+x)=λm=>xs[i+m]?:=rfl
 rw[e2]at this;rw[this]
theorem getItem_tuple_cut{t sl:Addr}{items:Array Value}{vl vu:Value}{lo hi:Option Int}{Q:Value->Shared->Prop}(ht:IsTup s.heap t items)(hs:s.heap.IsSliceOf sl vl vu .none)(pl:IsPart vl lo)(pu:IsPart vu hi)
  (hw:¬(sIx items.size 0 lo=0/\sIx items.size items.size hi=items.size))
  (h:Q (.ref s.heap.objs.size) { s with heap:=s.heap.push { cls:=.type "tuple",data:=.seq ((items.toList.drop (sIx items.size 0 lo)).take (sIx items.size items.size hi - sIx items.size 0 lo)).toArray } })
  (hsz:items.size<=sizeLine):wpAny (model prog w) A (getItem (.ref t) (.ref sl)) Q E s:=by
 have i3:sizeOk (.seq ((items.toList.drop (sIx items.size 0 lo)).take (sIx items.size items.size hi - sIx items.size 0 lo)).toArray):=by
  show((items.toList.drop (sIx items.size 0 lo)).take (sIx items.size items.size hi - sIx items.size 0 lo)).toArray.size<=sizeLine;rw[X8,Y9,Ym,Xp];lia
 have hj:sIx items.size items.size hi<=items.size:=vqi _ _ (Xd _) hi;obtain⟨os,ii,fv,ip⟩:=id hs;have hTs:s.TypeIs (.ref sl) "slice":=⟨os,ii,fv⟩;unfold getItem
 try with_reducible refine Yb ?_
 first|refine X0 (X4 ?_)|skip
 refine X0 (wpAny_sequenceKey ht.typeIs (by decide) ?_);refine X0 (Yt (name:=Str.ofString "__getitem__") ht.typeIs PyProof.Rows.slot_tuple_getitem
  (Yf PyProof.Rows.slot_tuple_getitem ht.typeIs entry_tuple_getitem ?_ (args_tuple_getitem _ _)))
 show wpAny _ _ (Builtin.Tuple.tupleItemsOf (.ref t) >>= _) _ _ s;refine X0 (tupleItemsOf_ ht ?_);refine X0 (wpAny_typeOf hTs ?_);rw[Xf (by decide)];refine X0 (jzw hs pl pu ?_);have d9:¬((((sIx items.size 0 lo:Nat):Int)==0&&(1:Int)==1&&(sIx items.size items.size hi - sIx items.size 0 lo)==items.size)=true):=by
  intro q;rw[Bool.and_eq_true,Bool.and_eq_true]at q;have q1:((sIx items.size 0 lo:Nat):Int)=0:=eq_of_beq q.1.1;have q2:sIx items.size items.size hi - sIx items.size 0 lo=items.size:=eq_of_beq q.2;exact hw ⟨by lia,by lia⟩
 show wpAny _ _ (if(((sIx items.size 0 lo:Nat):Int)==0&&(1:Int)==1&&(sIx items.size items.size hi - sIx items.size 0 lo)==items.size)=true then _ else _) _ _ s;rw[Xj d9,qwo]
 first
  |exact X0 (m:=Builtin.Tuple.tupleExact _) (Xy (X4 ⟨_,rfl,X4 h⟩) i3)
  |exact X0 (m:=Builtin.Tuple.tupleExact _) (Xy (X0 (X4 (X4 ⟨_,rfl,X4 h⟩))) i3)
  |exact X0 (X0 (m:=Builtin.Tuple.tupleExact _) (Xy (X4 (X4 ⟨_,rfl,X4 h⟩)) i3))
  |exact X0 (X0 (m:=Builtin.Tuple.tupleExact _) (Xy (X4 ⟨_,rfl,X4 h⟩) i3))
end
end HT
namespace L2
open PySem PySem.Spec PyProof.Rows
abbrev TO:=St->Hp->(Option Int->Hp->Prop)->Prop
noncomputable def PO(X:Cx)(e:Option Expr)(t:TO):Prop:=
 ∀(pins:List (Addr×Obj)) (s:Shared) (σ:St) (H:Hp) (Q:Option Int->Hp->Prop),Inv X pins σ H s->t σ H Q ->
  wpAny (model X.prog X.w) X.A (evalPart e X.env) (λu s'=>∃o H',Inv X pins σ H' s'/\IsPart u o/\Q o H') X.xe s
abbrev qjx:TO:=λ_ H Q=>Q none H
abbrev vq2(t:TE):TO:=fun σ H Q=>t σ H λx H1=>∃i,x=.int i/\Q (some i) H1
theorem kkt{ns:List Int}:∀{us:List Value},Vals (ns.map V.int) us->IntsAre us ns:=by
 induction ns with
 | nil=>intro us r;rw[List.map_nil]at r;cases r;exact .nil
 | cons n ns ih=>
  intro us r;rw[List.map_cons]at r;cases r with
  |cons r1 r2=>
   obtain⟨t,e⟩:=r1;subst e;exact .cons n t (ih r2)
section
variable {X:Cx}{e:Expr}{te:TE}{lo hi:Option Expr}{tl th:TO}{pos p2:Pos}
theorem vja:PO X none qjx:=by
 intro pins s σ H Q I h;rw[evalPart_none];exact X4 ⟨none,H,I,.none,h⟩
theorem vj8(h:PE X e te):PO X (some e) (vq2 te):=by
 intro pins s σ H Q I hw;rw[evalPart_some];refine thn (h pins s σ H _ I hw) λu s1 ⟨x,H1,I1,r1,q1⟩=>?_
 obtain⟨i,rfl,q⟩:=q1;obtain⟨t,rfl⟩:=r1;exact⟨some i,H1,I1,.int i t,q⟩
noncomputable def SlR(X:Cx)(r:V->Option Int->Option Int->Hp->VK->Prop):Prop:=
 ∀(pins:List (Addr×Obj)) (s:Shared) (σ:St) (H:Hp) (x:V) (v vl vu:Value) (lo hi:Option Int) (sl:Addr) (Q:VK),Inv X pins σ H s->RelV x v->s.heap.IsSliceOf sl vl vu .none->IsPart vl lo->IsPart vu hi->r x lo hi H Q ->
  ∃T id,typeLookup (.type T) "__getitem__"=pure (some (.builtin id))/\s.TypeIs v T/\wpAny (model X.prog X.w) X.A (getItem v (.ref sl)) (EP X pins σ Q) X.xe s
theorem SlR.or{r r':V->Option Int->Option Int->Hp->VK->Prop}(h:SlR X r)(h':SlR X r'):SlR X (λx lo hi H Q=>r x lo hi H Q\/r' x lo hi H Q):=by
 intro pins s σ H x v vl vu lo hi sl Q I rx hs pl pu q;rcases q with q|q
 ·exact h pins s σ H x v vl vu lo hi sl Q I rx hs pl pu q
 ·exact h' pins s σ H x v vl vu lo hi sl Q I rx hs pl pu q
abbrev tSl(r:V->Option Int->Option Int->Hp->VK->Prop)(te:TE)(tl th:TO):TE:=fun σ H Q=>te σ H λx H1=>tl σ H1 λl H2=>th σ H2 λu H3=>r x l u H3 Q
theorem qwp{r:V->Option Int->Option Int->Hp->VK->Prop}(hr:SlR X r)(he:PE X e te)(hl:PO X lo tl)(hu:PO X hi th):PE X (.Subscript e (.Slice lo hi none p2) pos) (tSl r te tl th):=by
 intro pins s σ H Q I h;refine Subscript_ (thn (he pins s σ H _ I h) λv s1 ⟨x,H1,I1,r1,q1⟩=>?_);refine wpAny_Slice (thn (hl pins s1 σ H1 _ I1 q1) λvl s2 ⟨l,H2,I2,pl,q2⟩=>thn (hu pins s2 σ H2 _ I2 q2) λvu s3 ⟨u,H3,I3,pu,q3⟩=>?_);rw[evalPart_none];refine X4 ?_;have I4:Inv X pins σ H3 { s3 with heap:=s3.heap.push { cls:=.type "slice",data:=.fields #[vl,vu,.none] } }:=I3.kept (t':=s3.toks) λb ob q=>X2 _ q
 obtain⟨T,id,hT,ht,hg⟩:=hr pins { s3 with heap:=s3.heap.push { cls:=.type "slice",data:=.fields #[vl,vu,.none] } } σ H3 x v vl vu l u s3.heap.objs.size Q I4 r1 (Heap.IsSliceOf.new ..) pl pu q3;show wpAny (model X.prog X.w) X.A (subscriptTail e (.Slice lo hi none p2) v (.ref s3.heap.objs.size)) (EP X pins σ Q) X.xe { s3 with heap:=s3.heap.push { cls:=.type "slice",data:=.fields #[vl,vu,.none] } };exact tail_any (ops:=[.ref s3.heap.objs.size,v]) ht hT hg (by with_unfolding_all rfl)
noncomputable def QQ(xs:List V)(lo hi:Option Int):List V:=(xs.drop (HT.sIx xs.length 0 lo)).take (HT.sIx xs.length xs.length hi - HT.sIx xs.length 0 lo)
theorem kjt(xs:List V)(lo hi:Option Int):(QQ xs lo hi).length<=xs.length:=by
 unfold QQ;rw[Y9,Ym];lia
noncomputable def wki(K:PySem.W.Frag):V->Option Int->Option Int->Hp->VK->Prop:=λx lo hi H Q=>∃a xs,x=.ref a/\SqT K H a xs /\
 ¬(HT.sIx xs.length 0 lo=0/\HT.sIx xs.length xs.length hi=xs.length)/\∀p,H p=none->Q (.ref p) (upd H p (.tup (QQ xs lo hi)))
theorem sl_tup:SlR X (wki X.K):=by
 intro pins s σ H x v vl vu lo hi sl Q I rx hs pl pu h;obtain⟨a,xs,rfl,hx,hw,q⟩:=h;cases rx;obtain⟨aa,r,ht,hz⟩:=I.tuple hx;have aj:aa.toArray.size=xs.length:=by rw[X8];exact r.length.symm
 refine⟨"tuple",_,PyProof.Rows.slot_tuple_getitem.lookup,ht.typeIs,?_⟩;refine HT.getItem_tuple_cut ht hs pl pu (by rw[aj];exact hw) ?_ (by rw[aj];exact hz);rw[aj];refine⟨.ref s.heap.objs.size,_,I.laid (t':=s.toks) (o:=.tup (QQ xs lo hi)) (λb ob q=>X2 _ q) (Xd _) ?_,rfl,q _ (I.hok.fresh (Xd _))⟩;exact⟨Yk (kjt xs lo hi) hz,_,(r.drop (HT.sIx xs.length 0 lo)).take (HT.sIx xs.length xs.length hi - HT.sIx xs.length 0 lo),IsTupD.new _ _⟩
noncomputable def vqt(K:PySem.W.Frag):R2:=λx y H Q=>∃a b xs ys,x=.ref a/\y=.ref b/\SqT K H a xs/\SqT K H b ys/\xs≠[]/\xs.length+ys.length<=sizeLine /\
 (ys=[]->Q (.ref a) H)/\(ys≠[]->∀p,H p=none->Q (.ref p) (upd H p (.tup (xs++ys))))
theorem Vals.nil_iff{xs:List V}{us:List Value}(r:Vals xs us):us=[]↔xs=[]:=by
 cases r with
 |nil=>simp
 |cons _ _=>simp
theorem vjj:OpR X (binaryOp .Add) (vqt X.K):=by
 intro pins s σ H x y v u Q I rx ry h;obtain⟨a,b,xs,ys,rfl,rfl,ha,hb,hx,hz,q1,q2⟩:=h;cases rx;cases ry;obtain⟨aa,r1,p1,_⟩:=I.tuple ha;obtain⟨ja,r2,p2,_⟩:=I.tuple hb;refine HT.cat_tup p1 p2 (λz=>hx (r1.nil_iff.mp z)) (λz=>⟨.ref a,H,I,rfl,q1 (r2.nil_iff.mp z)⟩) (λz=>?_) (by rw[<-r1.length,<-r2.length];exact hz);refine⟨.ref s.heap.objs.size,_,I.laid (t':=s.toks) (o:=.tup (xs++ys)) (λb ob q=>X2 _ q) (Xd _) ?_,rfl,q2 (λw=>z (r2.nil_iff.mpr w)) _ (I.hok.fresh (Xd _))⟩;exact⟨by rw[Xi];exact hz,_,r1.append r2,IsTupD.new _ _⟩
end
noncomputable def ixN(n:Nat)(i:Int):Option Nat:=if 0<=i then(if i<n then some i.toNat else none)else if -(n:Int)<=i then some (i+n).toNat else none
def atI{α:Type}(xs:List α)(i:Int):Option α:=(ixN xs.length i).bind λj=>xs[j]?
theorem kx5{n:Nat}{i:Int}{j:Nat}(h:ixN n i=some j):seqIndex? i n=some j/\j<n/\-(n:Int)<=i/\i<n:=by
 unfold ixN at h
 by_cases h0:0<=i
 ·rw[Xf h0]at h
  by_cases h1:i<n
  ·rw[Xf h1]at h;have e:i.toNat=j:=oq9 h;exact⟨by rw[seqIndex_of h0 h1,e],by lia,by lia,h1⟩
  ·rw[Xj h1]at h;cases h
 ·rw[Xj h0]at h
  by_cases h1:-(n:Int)<=i
  ·rw[Xf h1]at h;have e:(i+n).toNat=j:=oq9 h;exact⟨by rw[seqIndex_neg (by lia) h1,e],by lia,h1,by lia⟩
  ·rw[Xj h1]at h;cases h
theorem kxg{α:Type}{xs:List α}{i:Int}{v:α}(h:atI xs i=some v):∃j,seqIndex? i xs.length=some j/\xs[j]?=some v/\j<xs.length/\-(xs.length:Int)<=i/\i<xs.length:=by
 unfold atI at h;cases e:ixN xs.length i with
 |none=>rw[e]at h;cases h
 |some j=>
  rw[e]at h;obtain⟨h1,h2,h3,h4⟩:=kx5 e;exact⟨j,h1,h,h2,h3,h4⟩
def W9(b:Expr):Prop:=∀o i,subscripted b false o i=operate [o,i] (getItem o i)
noncomputable def IxR(X:Cx)(r:R2):Prop:=
 ∀(value slice:Expr) (pins:List (Addr×Obj)) (s:Shared) (σ:St) (H:Hp) (x y:V) (v u:Value) (Q:VK),Inv X pins σ H s->RelV x v->RelV y u->r x y H Q ->
  subscripted slice false v u=operate [v,u] (getItem v u)->wpAny (model X.prog X.w) X.A (subscriptTail value slice v u) (EP X pins σ Q) X.xe s
noncomputable def MtR(X:Cx)(id:String)(r:V->List V->Hp->VK->Prop):Prop:=
 ∀(pins:List (Addr×Obj)) (s:Shared) (σ:St) (H:Hp) (x:V) (xs:List V) (v:Value) (us:List Value) (Q:VK),Inv X pins σ H s->RelV x v->Vals xs us->r x xs H Q ->
  wpAny (model X.prog X.w) X.A (call (.builtin id) (v::us)) (EP X pins σ Q) X.xe s
section
variable {X:Cx}{a b:Expr}{ta tb:TE}{pos:Pos}
theorem IxR.or{r r':R2}(h:IxR X r)(h':IxR X r'):IxR X (λx y H Q=>r x y H Q\/r' x y H Q):=by
 intro value slice pins s σ H x y v u Q I rx ry q hs;rcases q with q|q
 ·exact h value slice pins s σ H x y v u Q I rx ry q hs
 ·exact h' value slice pins s σ H x y v u Q I rx ry q hs
theorem qwq{r:R2}(hr:IxR X r)(ha:PE X a ta)(hb:PE X b tb)(hs:W9 b):PE X (.Subscript a b pos) (tOp r ta tb):=by
 intro pins s σ H Q I h;exact Subscript_ (wjy ha hb I h λv u s2 x y H2 I2 rx ry q=>hr a b pins s2 σ H2 x y v u Q I2 rx ry q (hs _ _))
def wkn(K:PySem.W.Frag):R2:=λx y H Q=>∃p xs i v,x=.ref p/\y=.int i/\SqL K H p xs/\atI xs i=some v/\Q v H
def wkl(K:PySem.W.Frag):R2:=λx y H Q=>∃p xs i v,x=.ref p/\y=.int i/\SqT K H p xs/\atI xs i=some v/\Q v H
noncomputable def wkm:R2:=λx y H Q=>∃z i c,x=.str z/\y=.int i/\z.length<=sizeLine/\atI z.cps.toList i=some c/\Q (.str ⟨#[c]⟩) H
theorem ix_list:IxR X (wkn X.K):=by
 intro value slice pins s σ H x y v u Q I rx ry h hs;obtain⟨p,xs,i,z,rfl,rfl,hq,he,q⟩:=h;cases rx;obtain⟨t,rfl⟩:=ry;obtain⟨aa,r,pl,hz⟩:=I.list hq;obtain⟨j,h1,h2,h3,h4,h5⟩:=kxg he;obtain⟨w,ew,m6⟩:=r.get h2;have hl:=r.length;have hn:=V2;have fin:EP X pins σ Q w s:=⟨z,H,I,m6,q⟩
 by_cases h0:0<=i
 ·have hj:i.toNat=j:=by
   rw[seqIndex_of h0 h5]at h1;exact oq9 h1
  exact item_listR pl.isList h0 (by lia) (by rw[hj];simpa using ew) fin hs
 ·have hj:(i+(aa.toArray.size:Int)).toNat=j:=by
   rw[seqIndex_neg (by lia) h4]at h1;rw[X8,<-hl];exact oq9 h1
  exact subscriptTail_builtinR (x:=w) pl.isList.typeIs slot_list_getitem.lookup
   (wpAny_getItem_list_neg (Q:=λr s'=>r=w/\EP X pins σ Q r s') pl.isList (by lia) (by rw[X8]<;>lia) (by lia) (by rw[hj];simpa using ew) ⟨rfl,fin⟩) hs
theorem ix_tup:IxR X (wkl X.K):=by
 intro value slice pins s σ H x y v u Q I rx ry h hs;obtain⟨p,xs,i,z,rfl,rfl,hq,he,q⟩:=h;cases rx;obtain⟨t,rfl⟩:=ry;obtain⟨aa,r,pl,hz⟩:=I.tuple hq;obtain⟨j,h1,h2,h3,h4,h5⟩:=kxg he;obtain⟨w,ew,m6⟩:=r.get h2;have hl:=r.length;have hn:=V2;have fin:EP X pins σ Q w s:=⟨z,H,I,m6,q⟩;exact subscriptTail_builtinR (x:=w) pl.typeIs slot_tuple_getitem.lookup
  (getItem_tuple (j:=j) (Q:=λr s'=>r=w/\EP X pins σ Q r s') pl (by lia) (by lia) (by rw[X8,<-hl];exact h1) (by simpa using ew) ⟨rfl,fin⟩) hs
theorem vwn:IxR X wkm:=by
 intro value slice pins s σ H x y v u Q I rx ry h hs;obtain⟨z,i,c,rfl,rfl,hz,he,q⟩:=h;obtain⟨t,rfl⟩:=rx;obtain⟨t',rfl⟩:=ry;obtain⟨j,h1,h2,h3,h4,h5⟩:=kxg he;have hl:z.cps.toList.length=z.length:=by simp[Str.length]
 rw[hl]at h1 h4 h5;have hn:=V2;exact tail_any (typeIs_str s z t) slot_str_getitem.lookup (getItem_str (c:=c) (by
  have e1:decide (i < -(2 ^ 63:Int))=false:=Xb (by lia);have e2:decide (i>=2 ^ 63)=false:=Xb (by lia);rw[e1,e2,Bool.or_false]) (by rw[h1];simpa using h2) ⟨.str ⟨#[c]⟩,H,I.tok _,⟨_,rfl⟩,q⟩) hs
def rIx(K:PySem.W.Frag):R2:=λx y H Q=>wkn K x y H Q\/wkl K x y H Q\/wkm x y H Q
theorem kzi:IxR X (rIx X.K):=ix_list.or (ix_tup.or vwn)
theorem qje(aa:List Value)(n j:Nat)(u:Value):Obj.mapSeq (·.setIfInBounds j u) { cls:=.type "list",data:=.seq aa.toArray n }={ cls:=.type "list",data:=.seq (aa.set j u).toArray n }:=by
 simp[Obj.mapSeq]
theorem Inv.lst{pins:List (Addr×Obj)}{σ:St}{H:Hp}{s:Shared}{p:Addr}{xs:List V}(I:Inv X pins σ H s)(h:H p=some (.lst xs)):
  ∃(aa:List Value) (n:Nat),Vals xs aa/\s.heap.get? p=some { cls:=.type "list",data:=.seq aa.toArray n }/\xs.length<=sizeLine:=by
 obtain⟨z,aa,n,r,e⟩:=I.hok p _ h;exact⟨aa,n,r,e,z⟩
theorem Inv.lstUpd{pins:List (Addr×Obj)}{σ:St}{H:Hp}{s:Shared}{p:Addr}{xs ys:List V}{aa its':List Value}{n n':Nat}{f:Obj->Obj}(I:Inv X pins σ H s)(h:H p=some (.lst xs))
  (ho:s.heap.get? p=some { cls:=.type "list",data:=.seq aa.toArray n }) (hf:f { cls:=.type "list",data:=.seq aa.toArray n }={ cls:=.type "list",data:=.seq its'.toArray n' }) (r:Vals ys its') (hz:ys.length<=sizeLine) (t:Nat):
  Inv X pins σ (upd H p (.lst ys)) { s with heap:=s.heap.update p f,toks:=t }:=by
 have e:(s.heap.update p f).get? p=some { cls:=.type "list",data:=.seq its'.toArray n' }:=by
  rw[Y2 f ho (by rw[hf]<;>rfl),hf]
 refine I.write (x:=p) (e:=p) (by rw[h];trivial) (.inl rfl) (λb u hb q=>(Heap.get?_update_other _ _ (Z6 hb)).trans q) ⟨_,e⟩ ?_;exact⟨hz,its',n',r,e⟩
noncomputable def vzk:V->V->V->Hp->(Hp->Prop)->Prop:=λo i v H Q=>∃p xs k j,o=.ref p/\i=.int k/\H p=some (.lst xs)/\ixN xs.length k=some j/\Q (upd H p (.lst (xs.set j v)))
theorem kxr:wqd X vzk:=by
 intro pins s σ H o i v ov iv u Q I ro ri rv h;obtain⟨p,xs,k,j,rfl,rfl,hp,hj,q⟩:=h;cases ro;obtain⟨t,rfl⟩:=ri;obtain⟨aa,n,r,ho,hz⟩:=I.lst hp;obtain⟨h1,h2,h3,h4⟩:=kx5 hj;have hl:=r.length;have hn:=V2;have I':Inv X pins σ (upd H p (.lst (xs.set j v))) { s with heap:=s.heap.update p (Obj.mapSeq (·.setIfInBounds j u)) }:=
  I.lstUpd hp ho (qje aa n j u) (r.set rv j) (by rw[Yx];exact hz) s.toks
 by_cases h0:0<=k
 ·have hk:k.toNat=j:=by
   rw[seqIndex_of h0 h4]at h1;exact oq9 h1
  exact PySem.W.ki_setAt ho h0 (by lia) (by rw[X8,<-hl];exact h4) (by rw[hk];exact⟨_,I',q⟩)
 ·have hk:(k+(aa.toArray.size:Int)).toNat=j:=by
   rw[seqIndex_neg (by lia) h3]at h1;rw[X8,<-hl];exact oq9 h1
  exact PySem.W.ki_setBack ho (by lia) (by rw[X8,<-hl];exact h3) (by lia) (by rw[hk];exact⟨_,I',q⟩)
theorem kvc(lo hi:Option Int)(n:Nat):(sliceBounds lo hi none n).1=((HT.sIx n 0 lo:Nat):Int)/\(sliceBounds lo hi none n).2.1=((HT.sIx n n hi:Nat):Int)/\(sliceBounds lo hi none n).2.2=1:=by
 refine⟨?_,?_,rfl⟩
 ·cases lo with
  |none=>simp[sliceBounds,HT.sIx]
  |some i=>
   simp only[sliceBounds,HT.sIx,Option.getD_none,show(1:Int)>0 by decide,if_true]
   by_cases h:i<0
   ·simp only[h,if_true]<;>lia
   ·simp only[h,if_false]<;>lia
 ·cases hi with
  |none=>simp[sliceBounds,HT.sIx]
  |some i=>
   simp only[sliceBounds,HT.sIx,Option.getD_none,show(1:Int)>0 by decide,if_true]
   by_cases h:i<0
   ·simp only[h,if_true]<;>lia
   ·simp only[h,if_false]<;>lia
theorem kq7(aa:List Value)(lo hi:Option Int):slicePick aa.toArray lo hi none=((aa.drop (HT.sIx aa.length 0 lo)).take (HT.sIx aa.length aa.length hi - HT.sIx aa.length 0 lo)).toArray:=by
 obtain⟨h1,h2,h3⟩:=kvc lo hi aa.toArray.size;unfold slicePick;rw[h1,h2,h3];simp only[sliceRange_one,pick_run,X8]<;>rfl
noncomputable def wkk(K:PySem.W.Frag):V->Option Int->Option Int->Hp->VK->Prop:=λx lo hi H Q=>∃a xs,x=.ref a/\SqL K H a xs/\∀p,H p=none->Q (.ref p) (upd H p (.lst (QQ xs lo hi)))
theorem sl_list:SlR X (wkk X.K):=by
 intro pins s σ H x v vl vu lo hi sl Q I rx hs pl pu h;obtain⟨a,xs,rfl,hx,q⟩:=h;cases rx;obtain⟨aa,r,ht,hz⟩:=I.list hx;have aj:=r.length;refine⟨"list",_,slot_list_getitem.lookup,ht.isList.typeIs,?_⟩;refine wpAny_getItem_list_slice ht.isList hs pl pu .none (by simp) ?_ (by rw[X8]<;>lia);rw[kq7,<-aj];refine⟨.ref s.heap.objs.size,_,I.laid (t':=s.toks) (o:=.lst (QQ xs lo hi)) (λb ob q=>X2 _ q) (Xd _) ?_,rfl,q _ (I.hok.fresh (Xd _))⟩;exact⟨Yk (kjt xs lo hi) hz,_,0,(r.drop (HT.sIx xs.length 0 lo)).take (HT.sIx xs.length xs.length hi - HT.sIx xs.length 0 lo),X9 _ rfl⟩
theorem call_len_seq:CallR X (.builtin "len") (λxs H Q=>∃p ys,xs=[.ref p]/\(SqL X.K H p ys\/SqT X.K H p ys)/\Q (.int ys.length) H):=by
 intro pins s σ H xs us Q I r h;obtain⟨p,ys,rfl,hq,q⟩:=h;obtain⟨u,rfl,rx⟩:=xx r;cases rx;have hn:=V2;rcases hq with hq|hq
 ·obtain⟨aa,r',pl,hz⟩:=I.list hq;have aj:=r'.length;exact Calls.call_len_list pl.isList (by simp only[X8]<;>lia) ⟨.int ys.length,H,I.tok _,⟨s.toks+1,by rw[X8,aj]⟩,q⟩
 ·obtain⟨aa,r',pl,hz⟩:=I.tuple hq;have aj:=r'.length;exact len_tuple pl (by simp only[X8]<;>lia) ⟨.int ys.length,H,I.tok _,⟨s.toks+1,by rw[X8,aj]⟩,q⟩
theorem call_len_str:CallR X (.builtin "len") (λxs H Q=>∃z,xs=[.str z]/\z.length<=sizeLine/\Q (.int z.length) H):=by
 intro pins s σ H xs us Q I r h;obtain⟨z,rfl,hz,q⟩:=h;obtain⟨u,rfl,t,rfl⟩:=xx r;have hn:=V2;exact len_str (by lia) ⟨.int z.length,H,I.tok _,⟨_,rfl⟩,q⟩
theorem CallR.or{f:Value}{r r':List V->Hp->VK->Prop}(h:CallR X f r)(h':CallR X f r'):CallR X f (λxs H Q=>r xs H Q\/r' xs H Q):=by
 intro pins s σ H xs us Q I rs q;rcases q with q|q
 ·exact h pins s σ H xs us Q I rs q
 ·exact h' pins s σ H xs us Q I rs q
theorem kwa:CallR X (.type "list") (λxs H Q=>∃p ys,xs=[.ref p]/\(SqL X.K H p ys\/SqT X.K H p ys)/\∀l,H l=none->Q (.ref l) (upd H l (.lst ys))):=by
 intro pins s σ H xs us Q I r h;obtain⟨p,ys,rfl,hq,q⟩:=h;obtain⟨u,rfl,rx⟩:=xx r;cases rx;have fin:∀(aa:List Value),Vals ys aa->ys.length<=sizeLine->∀(h':Heap) (c':Nat),(∀b o',s.heap.get? b=some o'->h'.get? b=some o') ->
   h'.get? s.heap.objs.size=some { cls:=.type "list",dict:=none,data:=.seq aa.toArray c',slots:=#[] }->EP X pins σ Q (.ref s.heap.objs.size) { s with heap:=h' }:=λaa r' hz h' c' kp e=>
  ⟨.ref s.heap.objs.size,_,I.laid (t':=s.toks) kp (Xd _) (show ObjOk X.prog X.w _ h' _ (.lst ys)from⟨hz,aa,c',r',e⟩),rfl,q _ (I.hok.fresh (Xd _))⟩
 rcases hq with hq|hq
 ·obtain⟨aa,r',pl,hz⟩:=I.list hq;have aj:=r'.length;obtain⟨o,ho,hc,n,hd⟩:=pl.isList;exact call_list_seq p (.inl rfl) ho hc hd (λh' c' kp e=>fin aa r' hz h' c' kp e) (by simp only[X8]<;>lia)
 ·obtain⟨aa,r',pl,hz⟩:=I.tuple hq;have aj:=r'.length;obtain⟨o,ho,hc,n,hd⟩:=pl;exact call_list_seq p (.inr rfl) ho hc hd (λh' c' kp e=>fin aa r' hz h' c' kp e) (by simp only[X8]<;>lia)
theorem kqv:CallR X (.type "tuple") (λxs H Q=>∃p ys,xs=[.ref p]/\((SqL X.K H p ys/\∀l,H l=none->Q (.ref l) (upd H l (.tup ys)))\/(SqT X.K H p ys/\Q (.ref p) H))):=by
 intro pins s σ H xs us Q I r h;obtain⟨p,ys,rfl,h⟩:=h;obtain⟨u,rfl,rx⟩:=xx r;cases rx;rcases h with⟨hq,q⟩|⟨hq,q⟩
 ·obtain⟨aa,r',pl,hz⟩:=I.list hq;have aj:=r'.length;refine call_tuple_list pl.isList (λh' kp=>?_) (by simp only[X8]<;>lia);have I1:Inv X pins σ H { s with heap:=h' }:=I.kept (t':=s.toks) kp;have I2:Inv X pins σ (upd H h'.objs.size (.tup ys)) { s with heap:=h'.push { cls:=.type "tuple",data:=.seq aa.toArray } }:=
   I1.laid (t':=s.toks) (λb o e=>X2 _ e) (Xd _) (show ObjOk X.prog X.w _ _ _ (.tup ys)from⟨hz,aa,r',IsTupD.new _ _⟩)
  exact⟨.ref h'.objs.size,_,I2,rfl,q _ (I1.hok.fresh (Xd _))⟩
 ·obtain⟨aa,r',pl,hz⟩:=I.tuple hq;exact call_tuple_same pl ⟨.ref p,H,I,rfl,q⟩
noncomputable def tyV(K : PySem.W.Frag)(T : String)(x : V)(H : Hp): Prop:= match x with
  |.str _=>T = "str"
  |.int _=>T = "int"
  |.ref p=>(T = "list" /\ ∃xs, SqL K H p xs) \/ (T = "tuple" /\ ∃o, K.lookup p = some o /\ o.cls = .type "tuple" /\ o.dict = none) \/
      (T = "dict" /\ ((∃ak, H p = some (.dK ak)) \/ ∃ak, H p = some (.dT ak))) \/ (T = "set" /\ ∃S n, H p = some (.set S n))
  |_=>False
theorem vkz{pins:List (Addr×Obj)}{σ:St}{H:Hp}{s:Shared}{T:String}{x:V}{v:Value}(I:Inv X pins σ H s)(r:RelV x v)(ty:tyV X.K T x H):
  s.TypeIs v T/\∀a,v=.ref a->∃ob,s.heap.get? a=some ob/\ob.dict=none:=by
 cases x with
 | str z=>
  obtain⟨t,rfl⟩:=r;cases(show T="str" from ty);exact⟨typeIs_str s z t,λ_ e=>nomatch e⟩
 | int i=>
  obtain⟨t,rfl⟩:=r;cases(show T="int" from ty);exact⟨typeIs_int s i t,λ_ e=>nomatch e⟩
 | ref p=>
  cases r;rcases ty with⟨rfl,xs,hq⟩|⟨rfl,o,hk,hc,hd⟩|⟨rfl,hk⟩|⟨rfl,S,n,hk⟩
  ·obtain⟨aa,_,pl,_⟩:=I.list hq;refine⟨pl.isList.typeIs,λa e=>?_⟩;cases e;obtain⟨o,n,e,c,hd,_⟩:=pl;exact⟨o,e,hd⟩
  ·refine⟨⟨o,I.kIn p o hk,hc⟩,λa e=>?_⟩;cases e;exact⟨o,I.kIn _ o hk,hd⟩
  ·have z:∃o,s.heap.get? p=some o/\o.ExactDict:=by
    rcases hk with⟨ak,hk⟩|⟨ak,hk⟩
    ·obtain⟨_,_,_,_,o,_,_,e,ex,_⟩:=I.hok p _ hk;exact⟨o,e,ex⟩
    ·obtain⟨_,_,_,_,o,_,_,e,ex,_⟩:=I.hok p _ hk;exact⟨o,e,ex⟩
   obtain⟨o,e,ex⟩:=z;refine⟨⟨o,e,ex.1⟩,λa e2=>?_⟩;cases e2;exact⟨o,e,ex.2.1⟩
  ·obtain⟨o,_,_,_,e,ex,_⟩:=I.hok p _ hk;refine⟨⟨o,e,ex.1⟩,λa e2=>?_⟩;cases e2;exact⟨o,e,ex.2.1⟩
 |_=>exact False.elim ty
abbrev tBM(K:PySem.W.Frag)(T:String)(r:V->List V->Hp->VK->Prop)(to:TE)(t:TA):TE:=fun σ H Q=>to σ H λx H1=>tyV K T x H1/\t σ H1 λxs H2=>r x xs H2 Q
variable {o e:Expr}{es:List Expr}{to:TE}{t:TA}{name:Str}{c8 bb:Pos}{T id:String}{r:V->List V->Hp->VK->Prop}
theorem vzz(pa:PlainAttrs T)(slot:Slot T name id)(qs:typeOf (.builtin id)=pure (.type "method_descriptor"))(hm:MtR X id r)(ho:PE X o to)(ha:PA X (e::es) t)
  (dy:autoParam (attributeBase o name X.env (eval o X.env)=eval o X.env) Ŕ)
  (gy:autoParam (((backTo bb (starEach (e::es) X.env)).all (λx=>!x.1)&&(backToKw bb (keywordEach [] X.env)).all (λx=>x.1.isSome)
   && decide ((e::es).length+([]:List Keyword).length+(if([]:List Keyword).isEmpty then 0 else 1)<30))=true) Ŕ)
  (eh:autoParam ((c8.endLine==bb.line)=true) Ŕ) (hs:autoParam (starEach (e::es) X.env=(false,eval e X.env)::starEach es X.env) Ŕ) (cw:autoParam ((backTo bb (starEach es X.env)).any (·.1)=false) Ŕ):
  PE X (.Call (.Attribute o name c8) (e::es) [] bb) (tBM X.K T r to t):=by
 intro pins s σ H Q I h;refine wpAny_Call_method_late dy gy eh rfl (thn (ho pins s σ H _ I h) λv s1 ⟨x,H1,I1,r1,ty,q1⟩=>?_);obtain⟨h1,h2⟩:=vkz I1 r1 ty;refine⟨T,id,pa,slot,qs,h1,h2,?_⟩;have hA:=ha bb pins s1 σ H1 _ I1 q1;rw[hs]at hA ⊢;refine Calls.callWith_builtin (by show(false||(backTo bb (starEach es X.env)).any (·.1))=false;rw[cw]<;>rfl) (Calls.evalArgs_plain ?_);exact thn hA λus s2 ⟨vs,H2,I2,r2,q2⟩=>hm pins s2 σ H2 x vs v us Q I2 r1 r2 q2
end
noncomputable def MtM(X:Cx)(id:String)(r:V->List V->Hp->VK->Prop):Prop:=
 ∀(pins:List (Addr×Obj)) (s:Shared) (σ:St) (H:Hp) (x:V) (xs:List V) (v:Value) (us:List Value) (Q:VK),Inv X pins σ H s->RelV x v->Vals xs us->r x xs H Q ->
  wpAny (model X.prog X.w) X.A (call (.builtin id) (v::us)) (EP X pins σ Q) X.xe s
theorem Vals.one:∀{x:V} {us:List Value},Vals [x] us->∃u,us=[u]/\RelV x u
 |_,_,.cons r .nil=>⟨_,rfl,r⟩
theorem Vals.eraseIdx:∀{xs:List V} {us:List Value} (i:Nat),Vals xs us->Vals (xs.eraseIdx i) (us.eraseIdx i)
 |_,_,_,.nil=>.nil
 |_,_,0,.cons _ t=>t
 |_,_,i+1,.cons r t=>.cons r (Vals.eraseIdx i t)
theorem Vals.reverse{xs:List V}{us:List Value}(h:Vals xs us):Vals xs.reverse us.reverse:=by
 induction h with
 |nil=>exact .nil
 |cons r t ih=>rw[List.reverse_cons,List.reverse_cons];exact Vals.append ih (.cons r .nil)
theorem Vals.rep{xs:List V}{us:List Value}(h:Vals xs us):∀k:Nat,Vals (List.replicate k xs).flatten (List.replicate k us).flatten
 |0=>.nil
 |k+1=>by
  rw[List.replicate_succ,List.replicate_succ,Yh,Yh];exact Vals.append h (Vals.rep h k)
theorem kw0{α:Type}:∀(l:List α) (i:Nat),(l.eraseIdx i).length<=l.length
 |[],_=>Xd _
 |_::_,0=>Nat.le_succ _
 |_::r,i+1=>Nat.succ_le_succ (kw0 r i)
theorem kjo(aa:List Value):∀(k:Nat) (ae:List Value),
  List.foldl (λx1 x2=>x1++x2) ae.toArray (List.replicate k aa.toArray)=(ae++(List.replicate k aa).flatten).toArray
 | 0,ae=>by simp
 | k+1,ae=>by
  have e:ae.toArray++aa.toArray=(ae++aa).toArray:=by simp
  have e2:(ae++aa)++(List.replicate k aa).flatten=ae++(List.replicate (k+1) aa).flatten:=by
   rw[List.replicate_succ,Yh,Xm]
  rw[<-e2,<-kjo aa k (ae++aa),<-e,List.replicate_succ,List.foldl_cons]
section
variable {X:Cx}{pins:List (Addr×Obj)}{σ:St}{H:Hp}{s:Shared}{l b:Addr}{xs ys zs:List V}
theorem Inv.lset{aa its':List Value}{n:Nat}{f:Array Value->Array Value}{t':Nat}(I:Inv X pins σ H s)(hH:H l=some (.lst xs))
  (e:s.heap.get? l=some { cls:=.type "list",data:=.seq aa.toArray n }) (hf:f aa.toArray=its'.toArray) (hv:Vals ys its') (hz:ys.length<=sizeLine):
  Inv X pins σ (upd H l (.lst ys)) { s with heap:=s.heap.update l (Obj.mapSeq f),toks:=t' }:=by
 have q:=PySem.IsL.update e f;rw[hf]at q;refine I.write (x:=l) (e:=l) (by rw[hH];exact trivial) (.inl rfl) (λb' u hb hu=>(Heap.get?_update_other s.heap (Obj.mapSeq f) (Z6 hb)).trans hu) ⟨_,q⟩ ?_;exact⟨hz,its',_,hv,q⟩
theorem Inv.lnew{aa:List Value}{t':Nat}(I:Inv X pins σ H s)(hv:Vals ys aa)(hz:ys.length<=sizeLine):
  Inv X pins σ (upd H s.heap.objs.size (.lst ys)) { s with heap:=s.heap.push { cls:=.type "list",data:=.seq aa.toArray },toks:=t' }:=
 I.laid (λ_ _ q=>X2 _ q) (Xd _) ⟨hz,aa,0,hv,X9 _ rfl⟩
theorem Inv.fresh(I:Inv X pins σ H s):H s.heap.objs.size=none:=I.hok.fresh (Xd _)
theorem Inv.lstM(I:Inv X pins σ H s)(hH:H l=some (.lst xs)):xs.length<=sizeLine/\∃(aa:List Value) (n:Nat),Vals xs aa/\xs.length=aa.length/\s.heap.get? l=some { cls:=.type "list",data:=.seq aa.toArray n }:=by
 obtain⟨z,aa,n,r,e⟩:=I.hok l _ hH;exact⟨z,aa,n,r,r.length,e⟩
theorem qwv{n:Nat}(h:n<=sizeLine):Builtin.List.listTooLong n=false:=by
 unfold Builtin.List.listTooLong;exact Xb (by lia)
end
section
variable {X:Cx}
noncomputable def kq9:V->List V->Hp->VK->Prop:=λx vs H Q=>∃l xs y,x=.ref l/\vs=[y]/\H l=some (.lst xs)/\xs.length<sizeLine/\Q .non (upd H l (.lst (xs++[y])))
theorem kvy:MtM X "list.append" kq9:=by
 intro pins s σ H x vs v us Q I rx rv h;obtain⟨l,xs,y,rfl,rfl,hH,hz,q⟩:=h;cases rx;obtain⟨u,rfl,ru⟩:=rv.one;obtain⟨z,aa,n,r,hl,e⟩:=I.lstM hH;refine call_meets F.slot_list_append ⟨_,e,rfl⟩ F.entry_list_append (F.args_list_append_2 _ _) (PySem.list_append l aa.toArray n u (by rw[X8];lia)) ⟨e,?_⟩;refine⟨.non,_,I.lset (its':=aa++[u]) hH e (by simp) (r.append (.cons ru .nil)) ?_,rfl,q⟩;rw[Xi,Xs];lia
noncomputable def qxp:V->List V->Hp->VK->Prop:=λx vs H Q=>∃l xs i k y,x=.ref l/\vs=[.int i]/\H l=some (.lst xs)/\-(2 ^ 63)<=i/\i<2 ^ 63/\seqIndex? i xs.length=some k/\xs[k]?=some y/\Q y (upd H l (.lst (xs.eraseIdx k)))
theorem qwz:MtM X "list.pop" qxp:=by
 intro pins s σ H x vs v us Q I rx rv h;obtain⟨l,xs,i,k,y,rfl,rfl,hH,h1,h2,hk,hy,q⟩:=h;cases rx;obtain⟨u,rfl,ru⟩:=rv.one;obtain⟨t,rfl⟩:=ru;obtain⟨z,aa,n,r,hl,e⟩:=I.lstM hH;obtain⟨w,hw,m6⟩:=r.get hy;refine call_meets F.slot_list_pop ⟨_,e,rfl⟩ F.entry_list_pop (F.args_list_pop_2 _ _)
  (MeetsSeq.list_pop_at l aa.toArray n i t k w (fitsIndex_both h1 h2) (by rw[X8,<-hl];exact hk) (by rw[<-Yi];exact hw) (by rw[X8];lia)) ⟨e,?_⟩
 refine⟨y,_,I.lset (its':=aa.eraseIdx k) hH e ?_ (r.eraseIdx k) ?_,m6,q⟩
 ·show aa.toArray.eraseIdxIfInBounds k=(aa.eraseIdx k).toArray;rw[List.eraseIdxIfInBounds_toArray]
 ·have:=kw0 xs k;lia
theorem qqe{α:Type}(xs:List α)(k:Nat):(List.replicate k xs).flatten.length=k*xs.length:=by
 induction k with
 |zero=>simp
 |succ k ih=>rw[List.replicate_succ,Yh,Xi,ih,Nat.succ_mul,Nat.add_comm]
end
end L2
namespace Att
open PySem PySem.W PySem.Calls PyProof.Rows
theorem kjk{P:Params}{h:Heap}:∀(ns:List Int) (vs:List Value),WellAll P h vs (ns.map WData.int)->IntsAre vs ns:=by
 intro ns
 induction ns with
 | nil=>
  intro vs w;rw[List.map_nil]at w;cases w;exact .nil
 | cons n ns ih=>
  intro vs w;rw[List.map_cons]at w;cases w with
  |cons a b=>
   cases a;exact .cons _ _ (ih _ b)
theorem script_of{l : OpenLaw}{n : Nat}(hn : l.most = some n){P : Params}{h : Heap}{args : List WData}{bz : List Value}
    (kl : l.row.toRowW.claim.pre args = true) (hwl : WellAll P h bz args):
    ∃ a vs ns, bz = [Value.ref a] /\ args = [WData.list (ns.map WData.int)] /\ h.get? a = some { cls:= .type "list", data:= .seq vs.toArray } /\ IntsAre vs ns /\ ns.length<=n:= by
  have hsh : WShape.hasAll [] args [.list .int] = true:= (pre_splitW kl).1;have hc : l.pre.holds [] { args:= args } = true:= (pre_splitW kl).2;obtain⟨d, r, rfl, h1, h2⟩:= hasAllW_cons hsh;obtain rfl:= hasAllW_nil h2;obtain⟨xs, rfl, h3⟩:= hasW_list h1;obtain⟨ns, rfl⟩:= items_int h3;have aj : ns.length<=n:= by
    unfold OpenLaw.pre at hc;have h4 : (WTm.not (.lt (.lit (.int (n : Int))) (.len (.arg 0)))).holds [] { args:= [.list (ns.map .int)] } = true:= by
      have h4:= (holds_andW hc).1;rw[hn]at h4;exact h4
    have h5:= condW_of h4 (w_not (w_lt w_lit (w_len_list (w_arg rfl))));rw[X5]at h5;refine Nat.le_of_not_lt λq=> ?_
    have q' : (n : Int)<((ns.length : Nat): Int):= by lia
    first
      |(rw[X6 q']at h5; exact absurd h5 (by decide))
      |(simp at h5; lia)
  cases hwl with
  | cons w1 w2=>
    cases w2;cases w1 with
    |list ho mj=>exact⟨_, _, ns, rfl, rfl, ho, kjk ns _ mj, aj⟩
theorem post_true(l:OpenLaw)(args:List WData):l.row.toRowW.claim.post args (.bool true) args=true:=
 postW_of (r:=l.row.toRowW) (X:=(true==true))
  (show WShape.has [] (.bool true) .bool=true by first|rfl|decide|simp[WShape.has,WShape.arms,WShape.armsAll])
  (show(WTm.eq .res (.lit (.bool true))).value [] { args:=args,res:=some (.bool true),after:=args }=some (.bool (true==true))from w_eq_bool (w_res rfl) w_lit) rfl
end Att
namespace L2
open PySem PySem.Spec PyProof.Rows
def wk6(H:Hp):Prop:=∀b,H b=none\/∃o xs,H b=some (.frz o (.lst xs))
noncomputable def Q7(s:Stmt):Arguments:=match s with
 |.FunctionDef _ a _ _ _ _ _ _ _ _=>a
 |_=>{ posonlyargs:=[],args:=[],vararg:=none,kwonlyargs:=[],kw_defaults:=[],kwarg:=none,defaults:=[] }
def KW(s:Stmt):List Stmt:=match s with
 |.FunctionDef _ _ b _ _ _ _ _ _ _=>b
 |_=>[]
noncomputable def kY(s:Stmt):Scope:=match s with
 |.FunctionDef _ _ _ _ _ _ sc _ _ _=>sc
 |_=>{ kind:=.function,names:=[],isGenerator:=false,isCoroutine:=false }
structure Fun (K:PySem.W.Frag)(x qual:Str)(st:Stmt)(f:Addr)(fd:FuncData):Prop where
 ex:∃(oc:Value) (od:Option Addr) (kV fm pm:Value) (an:Option Addr) (bd ct:Value) (lj:Array (Option Value)),
  fd=PySem.W.fnOf x qual (Q7 st) (KW st) (kY st) .none kV fm pm an bd ct/\K.lookup f=some ⟨oc,od,.func fd,lj⟩/\PySem.W.codeIn K bd qual=true
 kp:PySem.W.keepIn K (.ref f)=true
section
variable {P:Program}{w:World}{K:PySem.W.Frag}{mg:Str->Option Value}{base:Heap}
theorem Fun.binds{x qual:Str}{st:Stmt}{f:Addr}{fd:FuncData}{ps:List Str}(F:Fun K x qual st f fd)
  (h:∀(kV fm pm:Value) (an:Option Addr) (bd ct:Value) (us:List Value),us.length=ps.length->bindArgs (PySem.W.fnOf x qual (Q7 st) (KW st) (kY st) .none kV fm pm an bd ct) ⟨us,[]⟩=pure (ps.zip us)):Binds K fd ps []:=by
 obtain⟨oc,od,kV,fm,pm,an,bd,ct,lj,rfl,lk,gk⟩:=F.ex;exact .all (h kV fm pm an bd ct)
theorem qqz{x qual:Str}{st:Stmt}{f:Addr}{oc:Value}{od an:Option Addr}{lj:Array (Option Value)}{kV fm pm bd ct:Value}(l:K.lookup f=some ⟨oc,od,.func (PySem.W.fnOf x qual (Q7 st) (KW st) (kY st) .none kV fm pm an bd ct),lj⟩)
  (c:PySem.W.codeIn K bd qual=true) (k:PySem.W.keepIn K (.ref f)=true):Fun K x qual st f (PySem.W.fnOf x qual (Q7 st) (KW st) (kY st) .none kV fm pm an bd ct):=⟨⟨oc,od,kV,fm,pm,an,bd,ct,lj,rfl,l,c⟩,k⟩
end
section
variable {X:Cx}
theorem pv(i:Nat){x:Str}{pos:Pos}(hN:autoParam (X.N[i]?=some x) Ŕ)(hv:autoParam (Vis X.env.scope x) ř)(hd:autoParam ((x==("__debug__":Str))=false) ŕ)
  (gk:autoParam ((x==("__classdict__":Str))=false) ŕ):PE X (.Name x pos) (xW i):=vvj hN hv hd gk
end
def kj(H H':Hp):Prop:=∀b o,H b=some o->H' b=some o
section
variable {κ:Type}[DecidableEq κ]
theorem KV.length{ak:List (κ×V)}{vs:List (κ×Value)}(r:KV ak vs):ak.length=vs.length:=Paired.length r
end
section
variable {P:Program}{w:World}{H:Hp}{h:Heap}{a:Addr}
theorem vzj{u:HO}(ok:HOk P w H h)(e:Rd H a u):ObjOk P w H h a u:=e.ok ok
theorem wjo{ak:List (Key×V)}(ok:HOk P w H h)(e:Rd H a (.dK ak)):ak.length<=sizeLine/\(a==sysModules)=false/\∃vs,KV ak vs/\h.DictOf (kqm P w) a vs:=
 show ObjOk P w H h a (.dK ak)from vzj ok e
end
section
variable {X:Cx}{pins:List (Addr×Obj)}{σ:St}{H:Hp}{s:Shared}{a:Addr}{y v:V}{u r:Value}{o:Option V}{A:Around}{E:Value->Shared->Prop}
theorem Inv.big(I:Inv X pins σ H s):sysModules<s.heap.objs.size:=by
 have h:mainGlobals<s.heap.objs.size:=(I.mod.glob.keeps I.bk).lt;exact Nat.lt_trans (by decide) h
end
section
variable {X:Cx}{pins:List (Addr×Obj)}{σ:St}{H:Hp}{s:Shared}{a:Addr}{ak:List (Key×V)}{k:Key}{u:Value}{A:Around}{E:Value->Shared->Prop}
theorem wjr{Q:Value->Shared->Prop}(I:Inv X pins σ H s)(e:Rd H a (.dK ak))(h:∀t s',Inv X pins σ H s'->Q (.int ak.length t) s'):wpAny (model X.prog X.w) A (call (.builtin "len") [.ref a]) Q E s:=by
 obtain⟨z,hd,vs,rel,dd⟩:=wjo I.hok e;refine call_len_dict hd dd (by rw[<-rel.length];rw[sizeLine_eq]at z;lia) ?_;rw[<-rel.length];exact h _ _ (I.tok _)
end
section
variable {X:Cx}
theorem qvo:CallR X (.builtin "len") (λxs H Q=>∃a ak,xs=[V.ref a]/\H a=some (.dK ak)/\Q (.int ak.length) H):=by
 intro pins s σ H xs us Q I r h;obtain⟨a,ak,rfl,ha,q⟩:=h;obtain⟨u,rfl,ru⟩:=xx r;cases ru;exact wjr I (.inl ha) λt s' I'=>⟨.int ak.length,H,I',⟨t,rfl⟩,q⟩
end
end L2
set_option maxHeartbeats 4000000
namespace L3
open PySem PySem.Spec PyProof.Rows L2
abbrev qqj(dq:List Expr)(env:Env):Sem Bool:=
 forIn dq true λc r=>if r=true then do let ok <-isTrue c env (eval c env);pure (ForInStep.yield ok)else pure (ForInStep.yield r)
theorem jwd (env : Env): ∀(l : List (Str × NameKind)) (cs : List (Str × Addr)), (∀y ∈ l, y.2 = .free -> ∃c, env.cells.lookup y.1 = some c) ->
    (∀x c, cs.lookup x = some c -> env.cells.lookup x = some c) ->
    ∃ cl, (forIn l cs (λ(x : Str × NameKind) (r : List (Str × Addr))=>if(x.2==NameKind.free) = true then do let a <-cellOf env x.1; pure (ForInStep.yield ((x.1, a)::r))else pure (ForInStep.yield r)): Sem (List (Str × Addr))) = pure cl /\
      (∀x c, cl.lookup x = some c -> env.cells.lookup x = some c) /\ (∀x c, cs.lookup x = some c -> ∃c', cl.lookup x = some c') /\ ∀y ∈ l, y.2 = .free -> ∃c, cl.lookup y.1 = some c
  | [], cs, _, hs=>⟨cs, rfl, hs, λx c h=>⟨c, h⟩, λ_ h=>nomatch h⟩
  | (n, k)::r, cs, hl, hs=>by
    by_cases hk : k = .free
    · subst hk
      obtain⟨c, hc⟩:= hl (n, .free) X3 rfl;have gs : ∀x d, ((n, c)::cs).lookup x = some d -> env.cells.lookup x = some d:= λx d h=>by
        rw[Z1]at h;cases hx : x==n with
        | true=>
          rw[hx]at h;have e : x = n:= by simpa using hx
          have e2 : c = d:= by simpa using h
          subst e; subst e2;exact hc
        | false=>rw[hx]at h; exact hs x d h
      obtain⟨cl, e, a, b, d⟩:= jwd env r ((n, c)::cs) (λy hy=>hl y (lc9 _ hy)) gs;refine⟨cl, ?_, a, λx c' h=> ?_, λy hy hf=> ?_⟩
      · rw[List.forIn_cons]
        have q : cellOf env n = pure c:= by unfold cellOf; rw[hc]
        simp only[beq_self_eq_true, if_true, q, pure_bind];exact e
      · cases hx : x==n with
        | true=>exact b x c (by rw[Z1, hx])
        | false=>exact b x c' (by rw[Z1, hx]; exact h)
      · rcases List.mem_cons.mp hy with z|z
        · subst z
          exact b n c (by rw[Z1]; simp)
        · exact d y z hf
    · obtain⟨cl, e, a, b, d⟩:= jwd env r cs (λy hy=>hl y (lc9 _ hy)) hs
      refine⟨cl, ?_, a, b, λy hy hf=> ?_⟩
      · rw[List.forIn_cons]
        have q : (k==NameKind.free) = false:= by simpa using hk
        simp only[q, Bool.false_eq_true, if_false, pure_bind];exact e
      · rcases List.mem_cons.mp hy with z|z
        · subst z
          exact absurd hf hk
        · exact d y z hf
theorem kkw{scope:Scope}{env:Env}(h:∀y∈scope.names,y.2=.free->∃c,env.cells.lookup y.1=some c):
  ∃cl,closureFor scope env=pure cl/\(∀x c,cl.lookup x=some c->env.cells.lookup x=some c)/\∀y∈scope.names,y.2=.free->∃c,cl.lookup y.1=some c:=by
 obtain⟨cl,e,a,_,d⟩:=jwd env scope.names [] h (λx c h=>nomatch h);refine⟨cl,?_,a,d⟩;unfold closureFor;have e':=congrArg (λt:Sem (List (Str×Addr))=>t >>= pure) e
 simpa using e'
noncomputable def lcX(X:Cx)(scope:Scope)(N:List Str)(cl:List (Str×Addr))(C:Addr)(s0:Shared)(H0:Hp)(fp:List Addr):Cx:=
 { X with N:=N,s₀:=s0,H₀:=H0,env:=compEnvC scope cl C X.env,outer:=X.stack,ex:=fp,fn:=λ_=>false,pn:=[],xe:=λ_ _=>False }
def JX(k:Nat)(R:List Nat)(σ:L2.St):L2.St:=List.replicate k none++R.map λj=>(σ[j]?).join
structure LcOk (X:Cx)(scope:Scope)(N:List Str)(k:Nat)(R:List Nat):Prop where
 kind:scope.kind=.function
 nocell:∀y∈scope.names,y.2≠.cell
 names:∀y∈scope.names,y.2=.local->scope.names.lookup y.1=some .local
 caps:∀y∈scope.names,y.2=.free->X.env.kindOf y.1=some .cell\/X.env.kindOf y.1=some .free
 len:N.length=k+R.length
 outs:∀i j x,R[i]?=some j->N[k+i]?=some x->X.N[j]?=some x/\scope.names.lookup x=some .free
noncomputable def V0(XN:List Str)(sc scope:Scope)(N:List Str)(k:Nat)(R:List Nat):Bool:=
 scope.names.all (λy=>y.2 != .cell)&&scope.names.all (λy=>y.2 != .local||scope.names.lookup y.1==some .local) &&
 scope.names.all (λy=>y.2 != .free||(sc.names.lookup y.1==some .cell||sc.names.lookup y.1==some .free)) &&
 (N.length==k+R.length)&&(R.zip (N.drop k)).all (λp=>XN[p.1]? == some p.2&&scope.names.lookup p.2==some .free)
theorem kzg{X:Cx}{scope:Scope}{N:List Str}{k:Nat}{R:List Nat}(hk:scope.kind=.function)(h:V0 X.N X.env.scope scope N k R=true):LcOk X scope N k R:=by
 unfold V0 at h;simp only[Bool.and_eq_true,Z2,bne_iff_ne,Bool.or_eq_true,beq_iff_eq]at h;obtain⟨⟨⟨⟨h1,h2⟩,h3⟩,h4⟩,h5⟩:=h;refine⟨hk,λy hy=>h1 y hy,λy hy e=>(h2 y hy).resolve_left (λz=>z e),λy hy e=>(h3 y hy).resolve_left (λz=>z e),h4,λi j x e1 e2=>?_⟩;have m:(j,x)∈R.zip (N.drop k):=by
  refine List.mem_of_getElem? (i:=i) ?_;rw[List.getElem?_zip_eq_some];exact⟨e1,by rw[List.getElem?_drop];exact e2⟩
 exact h5 (j,x) m
theorem jkp {env : Env} {x : Str} {q : NameKind}: ∀{names : List (Str × NameKind)}, (names.map λ(n, k)=>if(k==NameKind.free&&env.scope.kind == .function&&env.kindOf n==some .cell)then(n, NameKind.cell)else(n, k)).lookup x = some q ->
    (x, q) ∈ names \/ (q = .cell /\ (x, NameKind.free) ∈ names)
  | [], h=>nomatch h
  | (n, k)::r, h=>by
    have h : List.lookup x ((if(k==NameKind.free&&env.scope.kind == .function&&env.kindOf n==some .cell) = true then(n, NameKind.cell)else(n, k))::(r.map λ(n, k)=>if(k==NameKind.free&&env.scope.kind == .function&&env.kindOf n==some .cell)then(n, NameKind.cell)else(n, k))) = some q:= h
    by_cases hc : (k==NameKind.free&&env.scope.kind == .function&&env.kindOf n==some .cell) = true
    · rw[Xf hc, Z1]at h
      cases hx : x==n with
      | true=>
        rw[hx]at h;have e : x = n:= by simpa using hx
        have e2 : NameKind.cell = q:= by simpa using h
        subst e;simp only[Bool.and_eq_true, beq_iff_eq]at hc;obtain⟨⟨e3, _⟩, _⟩:= hc;subst e3;exact .inr ⟨e2.symm, X3⟩
      | false=>
        rw[hx]at h;rcases jkp (names:= r) h with z|⟨z, y⟩
        · exact .inl (lc9 _ z)
        · exact .inr ⟨z, lc9 _ y⟩
    · rw[Xj hc, Z1]at h
      cases hx : x==n with
      | true=>
        rw[hx]at h;have e : x = n:= by simpa using hx
        have e2 : k = q:= by simpa using h
        subst e; subst e2;exact .inl X3
      | false=>
        rw[hx]at h;rcases jkp (names:= r) h with z|⟨z, y⟩
        · exact .inl (lc9 _ z)
        · exact .inr ⟨z, lc9 _ y⟩
section
variable {X:Cx}{pins:List (Addr×Obj)}{σ:L2.St}{H:Hp}{s:Shared}
theorem vwe{scope:Scope}{N:List Str}{k:Nat}{R:List Nat}{cl:List (Str×Addr)}{C:Addr}(sc:LcOk X scope N k R)(be:∀y∈scope.names,y.2=.free->∃c,cl.lookup y.1=some c)
  {x:Str} (h:(compEnvC scope cl C X.env).kindOf x=some .cell\/(compEnvC scope cl C X.env).kindOf x=some .free):∃c,cl.lookup x=some c:=by
 rcases h with h|h
 ·rcases jkp (env:=X.env) (names:=scope.names) h with z|⟨_,z⟩
  ·exact absurd rfl (sc.nocell _ z)
  ·exact be _ z rfl
 ·rcases jkp (env:=X.env) (names:=scope.names) h with z|⟨z,_⟩
  ·exact be _ z rfl
  ·cases z
theorem vwf{scope:Scope}{N:List Str}{k:Nat}{R:List Nat}{cl:List (Str×Addr)}{C:Addr}{fp:List Addr}(I:Inv X pins σ H s)(sc:LcOk X scope N k R)(hf:∀b∈fp,wK X pins H b)(ho:∀b∈fp,∃o,s.heap.get? b=some o)
  (hC:s.heap.objs.size<=C) (de:∀x c,cl.lookup x=some c->X.env.cells.lookup x=some c) (be:∀y∈scope.names,y.2=.free->∃c,cl.lookup y.1=some c):(lcX X scope N cl C s H fp).Ok where
 mod:=I.ok.mod
 kind:=sc.kind
 glob:=I.ok.glob
 blt:=I.ok.blt
 above:=hC
 inj:=λx y c h1 h2=>I.ok.inj x y c (de _ _ h1) (de _ _ h2)
 has:=λx h=>vwe sc be h
 cab:=λx c h=>by cases h
 hd:=I.ok.hd
 frames:=I.ok.frames
 stk:=.inl rfl
 exf:=λb hb=>by
  obtain⟨o,e⟩:=ho b hb;exact⟨Xn (Xg (Xe e) hC),λx c h=>(hf b hb).2.2.2.2.1 x c (de x c h)⟩
 bs:=λb o e=>I.bs b o e
 bsz:=Yk I.ok.bsz I.sz
 noex:=λb o e hb=>by
  rcases(hf b hb).2.2.2.1 with z|z
  ·exact I.ok.noex b o e z
  ·exact absurd (Xg (Xe e) (Yk I.ok.bsz z)) (Yp _)
 exfs:=λb hb hs=>by
  rcases List.mem_cons.mp (I.stkSub b hs)with z|z
  ·exact(hf b hb).2.1 z
  ·exact(hf b hb).2.2.1 z
 funs:=I.stack
 frf:=I.stkFree
theorem vq9(I:Inv X pins σ H s){a:Addr}(h:s.heap.objs.size<=a):a∉frs X.stack:=λz=>by
 rcases List.mem_cons.mp (I.stkSub a z)with e|e
 ·subst e;exact absurd (Xg I.lt h) (Yp _)
 ·exact I.nofs h e
theorem vjt {scope:Scope} {N:List Str} {k:Nat} {R:List Nat} {cl:List (Str×Addr)} {C D:Addr} {fp:List Addr} {h1:Heap} {t:Nat} {m:Str->Option Value} {oD:Obj} (I:Inv X pins σ H s) (sc:LcOk X scope N k R)
  (hf:∀ b∈fp,wK X pins H b) (ho:∀b∈fp,∃o,s.heap.get? b=some o)
  (hC:s.heap.objs.size<=C) (hD:s.heap.objs.size<=D) (mq:D≠C) (de:∀x c,cl.lookup x=some c->X.env.cells.lookup x=some c) (be:∀y∈scope.names,y.2=.free->∃c,cl.lookup y.1=some c)
  (fe:∀ b o,s.heap.get? b=some o->h1.get? b=some o) (hn:h1.Ns C m) (eD:h1.get? D=some oD) (dD:∀v,oD.data≠.cell v):
  Inv (lcX X scope N cl C s H fp) [(D,oD)] (JX k R σ) H { s with heap:=h1,toks:=t } where
 ok:=vwf I sc hf ho hC de be
 os:=rfl
 bare:=I.bare
 base:=Un.kept fe
 loc:=⟨m,hn,λi x v e1 e2 vis=>by
  obtain⟨mX,hnX,hl⟩:=I.loc;unfold JX at e2
  by_cases hi:i<k
  ·rw [Xw (by rw[Xx];exact hi),List.getElem?_replicate,Xf hi]at e2;cases e2
  ·have hk:k<=i:=Nat.le_of_not_lt hi;rw [Yc (by rw[Xx];exact hk),Xx,Xu]at e2;cases er:R[i - k]? with
   | none=>rw[er]at e2;cases e2
   | some j=>
    rw [er]at e2;have ej:(σ[j]?).join=some v:=by simpa using e2
    have ej':σ[j]?=some (some v):=by
     cases q:σ[j]? with
     | none=>rw[q]at ej;cases ej
     | some z=>rw[q]at ej;cases z with
      | none=>cases ej
      | some z=>rw[show z=v by simpa using ej]
    obtain⟨o1,o2⟩:=sc.outs (i - k) j x er (by rw[show k+(i - k)=i by lia];exact e1);have cap:=sc.caps (x,.free) (Yn o2) rfl;have visX:Vis X.env.scope x:=cap.elim (λz=>.inr (.inl z)) λz=>.inr (.inr z)
    obtain⟨u,ru,q⟩:=hl j x v o1 ej' visX;refine⟨u,ru,?_⟩;rcases q with⟨q,_⟩|⟨_,c,ec,hc⟩
    ·rcases cap with z|z
     ·rw[z]at q;cases q
     ·rw[z]at q;cases q
    ·obtain⟨c',ec'⟩:=be (x,.free) (Yn o2) rfl;have e:c'=c:=oq9 ((de x c' ec').symm.trans ec);subst e;refine .inr ⟨?_,c',ec',?_⟩
     ·rcases vis with z|z|z
      ·rcases jkp (env:=X.env) (names:=scope.names) z with y|⟨y,_⟩
       ·have y':=sc.names _ y rfl;rw[o2]at y';cases y'
       ·cases y
      ·exact .inl z
      ·exact .inr z
     ·obtain⟨o,h1,h2⟩:=hc;exact⟨o,fe _ _ h1,h2⟩⟩
 cell:=λx c h=>by
  obtain⟨v,o,h1,h2⟩:=I.cell x c (de x c h);exact⟨v,o,fe _ _ h1,h2⟩
 free:=I.hok.fresh hC
 freeC:=λx c h=>I.freeC x c (de x c h)
 pin:=λp hp=>by
  have e:p=(D,oD):=by
   have hp:p∈([]++[(D,oD)]:List (Addr×Obj)):=hp
   simpa using hp
  subst e;exact⟨eD,I.hok.fresh hD,mq,vq9 I hD,dD⟩
 hok:=I.hok.kept fe
 len:=by
  show(JX k R σ).length=N.length;unfold JX;rw[sc.len,Xi,Xx,X5]
theorem qqs{a:Addr}{o:HO}(I:Inv X pins σ H s)(hn:H a=none)(hL:a≠X.env.locals)(h1:a∈X.ex\/X.s₀.heap.objs.size<=a)(h2:∀x c,X.env.cells.lookup x=some c->c≠a)(h3:∀p∈X.pn++pins,p.1≠a)
  (new:ObjOk X.prog X.w (upd H a o) s.heap a o):Inv X pins σ (upd H a o) s:=by
 have hok:HOk X.prog X.w (upd H a o) s.heap:=λb u e=>by
  by_cases hb:b=a
  ·subst hb;rw[xq]at e;cases e;exact new
  ·rw[kW hb]at e;exact(I.hok b u e).stay (λ_ _ _ q=>q) (λc q=>by rw[kW (Jw q hn)];exact q) λc xs q=>by rw[kW (Jw q hn)];exact q
 have na:∀b:Addr,b∉[a]->b≠a:=λb hb z=>hb (by rw[z];exact List.mem_singleton.mpr rfl)
 exact I.step (h':=s.heap) (H':=upd H a o) (g':=s.gens) (t':=s.toks) (d':=s.drawn) (ch:=[a])
  (λb hb=>by rw[List.mem_singleton.mp hb];exact⟨h1,hL,h2,h3⟩) (λb o _ _ _ e _=>e) (λb o _ _ _ e _=>⟨o.slots,e⟩) (λb o hb _ q=>by rw[kW (na b hb)];exact q)
  (λb o _ e=>⟨o,e⟩) (λb xs q=>by rw[kW (Jw q hn)];exact q) (λb o u q=>by rw[kW (Jw q hn)];exact q) (λb ps q=>⟨#[],by rw[kW (Jw q hn),q];simp⟩)
  (λm hm=>hm) hok I.bare
end
noncomputable def PTs(X:Cx)(dq:List Expr)(t:TT):Prop:=
 ∀(pins:List (Addr×Obj)) (s:Shared) (σ:L2.St) (H:Hp) (Q:Bool->Hp->Prop),Inv X pins σ H s->t σ H Q->wpAny (model X.prog X.w) X.A (qqj dq X.env) (TP X pins σ Q) X.xe s
abbrev tYes:TT:=λ_ H Q=>Q true H
theorem vj4{X:Cx}:PTs X [] tYes:=λ_ _ _ H _ I h=>wpAny_tests_nil ⟨H,I,h⟩
noncomputable def LcW(g:TG)(tt:TT)(te:TE)(Q:VK)(J:It)(W:Nat->Nat->List V->L2.St->Hp->Prop):Prop:=∀i m ys σ H,W i m ys σ H ->
 (J.stop i H/\ys.length<=sizeLine/\∀p,H p=none->Q (.ref p) (upd H p (.lst ys))) \/
 (J.go i H/\∀x H1,J.yld i H x H1->g x σ H1 fun σ2 H2=>∃(Ny:VK) (Nn:Hp->Prop),(∀y H4,Ny y H4->ys.length<=sizeLine/\∃m',m'<m/\W (i+1) m' (ys++[y]) σ2 H4) /\
  (∀H4,Nn H4->∃m',m'<m/\W (i+1) m' ys σ2 H4)/\tt σ2 H2 λb H3=>if b=true then te σ2 H3 Ny else Nn H3)
abbrev tLC(wi:TI)(g:TG)(tt:TT)(te:TE)(k:Nat)(R:List Nat):TE:=fun σ H Q=>wi σ H λJ H1=>
 ∃W:Nat->Nat->List V->L2.St->Hp->Prop,(∃m,W 0 m [] (JX k R σ) H1)/\LcW g tt te Q J W
abbrev YV(aa:List Value)(n:Nat):Obj:={ cls:=.type "list",data:=.seq aa.toArray n }
section
variable {X:Cx}
theorem op_mulI:OpR X (binaryOp .Mult) (rI IntMulOk λi j=>.int (i*j)):=opI λ_ _ _ _ _ _ _ hc q=>mul_int q hc
def vxp(_i j:Int):Prop:=0<j/\j.natAbs.log2<9000
theorem kz9:OpR X (binaryOp .FloorDiv) (rI vxp λi j=>.int (i / j)):=opI λi j _ _ _ _ _ hc q=>by
 have h1:(0:Int)<j:=hc.1;exact floordiv_int (by lia) (by rw[Int.fdiv_eq_ediv_of_nonneg i (by lia)];exact q) (.inl (PyProof.noPylong_of_log2 hc.2))
def kinds:List String:=["NoneType","bool","int","str","list","tuple","dict"]
def WX(T U:String):Bool:=T==U||(T == "bool" && U == "int")
theorem kqo{K:PySem.W.Frag}{T U:String}(hT:T∈kinds)(hU:U∈kinds.tail):PySem.W.kitOne K (.type T) (.type U)=some (WX T U):=by
 simp only[kinds,List.tail_cons,Xr,Xk,or_false]at hT hU;rcases hT with rfl|rfl|rfl|rfl|rfl|rfl|rfl<;>rcases hU with rfl|rfl|rfl|rfl|rfl|rfl<;>with_unfolding_all rfl
noncomputable def wko(K:PySem.W.Frag):List V->Hp->VK->Prop:=λxs H Q=>∃x T U,xs=[x,.ty U]/\TyOf K H x (.type T)/\T∈kinds/\U∈kinds.tail/\Q (.bl (WX T U)) H
theorem qxh:CallR X (.builtin "isinstance") (wko X.K):=by
 intro pins s σ H xs us Q I r h;obtain⟨x,T,U,rfl,ty,hT,hU,q⟩:=h;obtain⟨u,w',rfl,r1,r2⟩:=qw8 r;cases(show w'=Value.type U from r2);exact qqq I r1 ty (kqo hT hU) λtk=>⟨.bl _,H,I.tok _,rfl,q⟩
theorem qzc:∀{bs:List Bool} {aa:List Value} {i:Nat} {v:Value},Vals (bs.map V.bl) aa->aa[i]?=some v->∃b,bs[i]?=some b/\v=.bool b
 |[],_,_,_,.nil,e=>by simp at e
 |b::bs,_,0,v,.cons r _,e=>by
  simp at e;subst e;exact⟨b,rfl,r⟩
 |b::bs,_,i+1,v,.cons _ t,e=>by
  obtain⟨b',e1,e2⟩:=qzc (i:=i) t (by simpa using e);exact⟨b',by simpa using e1,e2⟩
theorem kvg(bs:List Bool):((List.range bs.length).all λi=>(bs[i]?).getD true)=bs.all id:=by
 rw[Bool.eq_iff_iff,Z2,Z2];constructor
 ·intro h b hb;obtain⟨i,hi,e⟩:=Yo hb;have:=h i (List.mem_range.mpr hi);rw[X1 hi,e]at this;exact this
 ·intro h i hi;have qi:=List.mem_range.mp hi;rw[X1 qi];exact h _ (Y6 qi)
noncomputable def vzn(K:PySem.W.Frag):List V->Hp->VK->Prop:=λxs H Q=>∃(p:Addr) (bs:List Bool),xs=[.ref p]/\SqL K H p (bs.map V.bl)/\Q (.bl (bs.all id)) H
theorem qxi(hc:X.calm=true):CallR X (.builtin "all") (vzn X.K):=by
 intro pins s σ H xs us Q I r h;obtain⟨p,bs,rfl,hq,q⟩:=h;obtain⟨u,rfl,ru⟩:=xx r;cases ru;obtain⟨aa,rv,pl,hz⟩:=I.list hq;have hl:=pl.isList;have dm:p<s.heap.objs.size:=by obtain⟨_,e,_⟩:=hl;exact Xe e
 have aj:bs.length=aa.length:=by rw[<-rv.length,X5]
 refine call_all_walk (wpAny_pyIter_list hl ?_);refine⟨s.heap.objs.size,[s.heap.objs.size,p],[s.heap.objs.size],aa.toArray.size,_,_,λi=>(bs[i]?).getD true,rfl,Walks.list (A:=X.A.in1) (I.ok.hd hc) _ p (Xn dm) aa.toArray,
  ⟨⟨_,X9 _ rfl,rfl,rfl⟩,hl.push _⟩,λi v s' Q' E' hP hQ=>?_,λh' tk hk=>?_⟩
 ·obtain⟨b,e,rfl⟩:=qzc rv (by simpa using hP);simp only[e,Option.getD_some]at hQ;exact Ys hQ
 ·have e:((List.range aa.toArray.size).all λi=>(bs[i]?).getD true)=bs.all id:=by
   rw[X8,<-aj];exact kvg bs
  rw[e];refine⟨.bl _,H,I.kept (t':=tk) (h':=h') λb o e=>hk b o (λz=>?_) (X2 _ e),rfl,q⟩;exact absurd (Xe e) (by rw[List.mem_singleton.mp z];exact Yp _)
def Its(x:Str):It:=⟨λi _=>i<x.cps.size,λi H v H'=>H'=H/\∃c,x.cps[i]?=some c/\v=.str ⟨#[c]⟩,λi _=>i=x.cps.size⟩
theorem kxj{P:Program}{w:World}{K:PySem.W.Frag}{tg:Expr}{x:Str}{t:Tok}{it:Addr}{ty:String}
  (W:∀A':Around,A'.handled=none->Walks P w A' it [it] [it] x.cps.size (SignAt x) (λi h=>h.IsStrIter it ty x t i))
  (pq:∀(A:Around) (i:Nat) (s:Shared) (Q:Value->Shared->Prop) (E:Value->Shared->Prop),s.heap.IsStrIter it ty x t i->Q (.ref it) s->wpAny (model P w) A (pyIter (.ref it)) Q E s)
  (qs:["enumerate","zip","dict_itemiterator","dict_reverseitemiterator","odict_iterator","itertools.zip_longest","itertools.pairwise"].contains ty=false):
  Turn P w K tg (Its x) [it] it (λi h=>h.IsStrIter it ty x t i) where
 mem:=by simp
 obj:=λi h st b hb=>by
  have e:b=it:=by simpa using hb
  subst e;obtain⟨o,e,c,d⟩:=st;exact⟨o,e,λv z=>by rw[d]at z;cases z⟩
 keep:=λi h h' st k=>by
  obtain⟨o,e,r⟩:=st;exact⟨o,k it (by simp) o e,r⟩
 item:=by
  intro X hP hw hK hc i pins s σ H E I hf st hg;subst hP hw hK;obtain⟨f0,f1,f2,f3,f4,f5⟩:=hf it (by simp);refine(W X.A (I.ok.hd hc)).item i s _ _ hg st λv h' tk hv fu kk=>?_
  obtain⟨c,u,i4,rfl⟩:=hv;have I1:Inv X pins σ H { s with heap:=h',toks:=tk }:=I.turned (λb o hb e=>kk b o (by simpa using hb) e) f0 f1 f3 f4 f5;obtain⟨o,e,c1,d⟩:=id fu;exact⟨_,rfl,qx9 (s:={ s with heap:=h',toks:=tk }) e c1 d qs ⟨.str ⟨#[c]⟩,H,I1,⟨u,rfl⟩,⟨rfl,c,i4,rfl⟩,fu,λb hb=>(hf b hb).1⟩⟩
 done:=by
  intro X hP hw hK hc i pins s σ H E I hf st hg;subst hP hw hK;obtain⟨f0,f1,f2,f3,f4,f5⟩:=hf it (by simp);have m5:i=x.cps.size:=hg;subst m5;exact(W X.A (I.ok.hd hc)).done s _ _ st λh' tk kk=>⟨rfl,I.turned (λb o hb e=>kk b o (by simpa using hb) e) f0 f1 f3 f4 f5⟩
 self:=λA i s Q E st hQ=>pq A i s Q E st hQ
noncomputable def wkj:V->Option Int->Option Int->Hp->VK->Prop:=λx lo hi H Q=>∃z,x=.str z/\z.length<=sizeLine/\Q (.str (Txt.slice z lo hi)) H
theorem vqf:SlR X wkj:=by
 intro pins s σ H x v vl vu lo hi sl Q I rx hs pl pu h;obtain⟨z,rfl,hz,q⟩:=h;obtain⟨t,rfl⟩:=rx;refine⟨"str",_,F.slot_str_getitem.lookup,typeIs_str _ _ _,?_⟩;have fin:∀(t':Tok) (k:Nat),EP X pins σ Q (.str (Txt.slice z lo hi) t') { s with toks:=k }:=λt' k=>⟨.str _,H,I.tok k,⟨t',rfl⟩,q⟩
 have gm:(Txt.slice z lo hi).length<=sizeLine:=Yk (Txt.slice_le z _ _) hz;cases pl with
 |none=>cases pu with
  |none=>exact wpAny_getItem_str_slice (l:=none) (u:=none) (st:=none) hs rfl (post_val_or_str ⟨gm,fin⟩)
  |int j tj=>exact wpAny_getItem_str_slice (l:=none) (u:=some (j,tj)) (st:=none) hs rfl (post_val_or_str ⟨gm,fin⟩)
 |int i ti=>cases pu with
  |none=>exact wpAny_getItem_str_slice (l:=some (i,ti)) (u:=none) (st:=none) hs rfl (post_val_or_str ⟨gm,fin⟩)
  |int j tj=>exact wpAny_getItem_str_slice (l:=some (i,ti)) (u:=some (j,tj)) (st:=none) hs rfl (post_val_or_str ⟨gm,fin⟩)
def vqq:R2:=λx y H Q=>∃z n,x=.str z/\y=.int n/\(z.length<=1024/\n<=1024/\-1024<=n)/\Q (.str (Txt.mul z n)) H
theorem vji:OpR X (binaryOp .Mult) vqq:=by
 intro pins s σ H x y v u Q I rx ry h;obtain⟨z,n,rfl,rfl,⟨h1,h2,h3⟩,q⟩:=h;obtain⟨t,rfl⟩:=rx;obtain⟨t',rfl⟩:=ry;exact SB.mul (mulOk_of 1024 1024 h1 h2 (by lia) (by decide) (by decide)) λt' k=>⟨.str _,H,I.tok k,⟨t',rfl⟩,q⟩
noncomputable def qxo(K:PySem.W.Frag):V->Option Int->Option Int->Hp->VK->Prop:=λx lo hi H Q=>wkk K x lo hi H Q\/wki K x lo hi H Q\/wkj x lo hi H Q
theorem vze(K:PySem.W.Frag)(hK:autoParam (X.K=K) Ŕ):SlR X (qxo K):=by subst hK;exact sl_list.or (sl_tup.or vqf)
noncomputable def qkg(K:PySem.W.Frag):List V->Hp->VK->Prop:=λxs H Q=>(∃p ys,xs=[.ref p]/\(SqL K H p ys\/SqT K H p ys)/\Q (.int ys.length) H)\/(∃z,xs=[.str z]/\z.length<=sizeLine/\Q (.int z.length) H)\/(∃a ak,xs=[V.ref a]/\H a=some (.dK ak)/\Q (.int ak.length) H)
theorem vkd(K:PySem.W.Frag)(hK:autoParam (X.K=K) Ŕ):CallR X (.builtin "len") (qkg K):=by subst hK;exact call_len_seq.or (call_len_str.or qvo)
theorem qvs:CallR X (.type "int") (λxs H Q=>(∃i,xs=[.int i]/\Q (.int i) H)\/∃k,xs=[.bl k]/\Q (.int (if k then 1 else 0)) H):=qvq
theorem QY(K:PySem.W.Frag)(hK:autoParam (X.K=K) Ŕ)(hc:autoParam (X.calm=true) Ŕ):CallR X (.builtin "all") (vzn K):=by subst hK;exact qxi hc
theorem qkx(K:PySem.W.Frag){o e:Expr}{es:List Expr}{T:String}{name:Str}{id:String}{r:V->List V->Hp->VK->Prop}{to:TE}{t:TA}{c8 bb:Pos}
  (pa:PlainAttrs T) (slot:Slot T name id) (qs:typeOf (.builtin id)=pure (.type "method_descriptor")) (hm:MtR X id r) (ho:PE X o to) (ha:PA X (e::es) t)
  (dy:autoParam (attributeBase o name X.env (eval o X.env)=eval o X.env) Ŕ)
  (gy:autoParam (((backTo bb (starEach (e::es) X.env)).all (λx=>!x.1)&&(backToKw bb (keywordEach [] X.env)).all (λx=>x.1.isSome)
   && decide ((e::es).length+([]:List Keyword).length+(if([]:List Keyword).isEmpty then 0 else 1)<30))=true) Ŕ)
  (eh:autoParam ((c8.endLine==bb.line)=true) Ŕ) (hs:autoParam (starEach (e::es) X.env=(false,eval e X.env)::starEach es X.env) Ŕ) (cw:autoParam ((backTo bb (starEach es X.env)).any (·.1)=false) Ŕ) (hK:autoParam (X.K=K) Ŕ):
  PE X (.Call (.Attribute o name c8) (e::es) [] bb) (tBM K T r to t):=by subst hK;exact vzz pa slot qs hm ho ha dy gy eh hs cw
theorem vxd:bootBuiltins "len"=some (.builtin "len"):=by decide +kernel
theorem jz3:bootBuiltins "isinstance"=some (.builtin "isinstance"):=by decide +kernel
theorem Vz:bootBuiltins "all"=some (.builtin "all"):=by decide +kernel
theorem qvt:bootBuiltins "sorted"=some (.builtin "sorted"):=by decide +kernel
theorem W4:bootBuiltins "int"=some (.type "int"):=by decide +kernel
theorem qzb:bootBuiltins "str"=some (.type "str"):=by decide +kernel
theorem kxc:bootBuiltins "bool"=some (.type "bool"):=by decide +kernel
theorem Q8:bootBuiltins "list"=some (.type "list"):=by decide +kernel
theorem kzu:bootBuiltins "tuple"=some (.type "tuple"):=by decide +kernel
end
def Cst(mg:Str->Option Value)(x:Str)(v:V):Prop:=∃u,mg x=some u/\RelV v u
section
variable {X:Cx}{x:Str}{p pos:Pos}{e:Expr}{es:List Expr}{t:TA}{ps:List Str}{sp:Sp}{k:Nat}{v:V}
theorem ZZ(c:Cst X.mg x v)(hg:autoParam (Gl X x) Ŕ)(hd:autoParam ((x==("__debug__":Str))=false) ŕ):PE X (.Name x pos) (tC v):=by
 obtain⟨u,m,r⟩:=c;exact vjc hg m r hd
end
theorem kzv:∀{ns:List Int} {m:Nat},PySem.W.WData.weightAll (ns.map PySem.W.WData.int)<=m->∀n∈ns,Builtin.Int.intBits n<=m
 | [],_,_,_,h=>nomatch h
 | a::r,m,h,n,hn=>by
  have h':(if a==0 then 0 else a.natAbs.log2+1)+1+PySem.W.WData.weightAll (r.map PySem.W.WData.int)<=m:=h;rcases List.mem_cons.mp hn with z|z
  ·subst z;have e:Builtin.Int.intBits n=(if n==0 then 0 else n.natAbs.log2+1):=rfl;rw[e];lia
  ·exact kzv (m:=m) (by lia) n z
theorem kxd{ns:List Int}(h:PySem.W.WData.layableAll [PySem.W.WData.list (ns.map PySem.W.WData.int)]=true):∀n∈ns,Builtin.Int.intBits n<=1048576:=by
 have h1:(PySem.W.WData.list (ns.map PySem.W.WData.int)).layable=true:=(PySem.W.layW_cons h).1;unfold PySem.W.WData.layable at h1;simp only[Bool.and_eq_true,decide_eq_true_eq]at h1;have h2:PySem.W.WData.weightAll (ns.map PySem.W.WData.int)<=2 ^ 20:=h1.2;exact kzv (by simpa using h2)
inductive D where
 |non|bl (b:Bool)|int (i:Int)|str (z:Str)|lst (xs:List D)|tup (xs:List D)
section
variable {X:Cx}{pins:List (Addr×Obj)}{σ:L2.St}{H:Hp}{s:Shared}
theorem in1_units(A:Around):A.in1.units<=A.units+1:=by
 first|exact Xd _|(show A.units+1<=A.units+1;exact Xd _)|(unfold Around.in1;simp)
end
section
variable {X:Cx}
abbrev tRev(K:PySem.W.Frag)(te ts:TE):TE:=fun σ H Q=>te σ H λx H1=>ts σ H1 λy H2=>∃a xs,x=.ref a/\y=.int (-1)/\SqL K H2 a xs/\∀p,H2 p=none->Q (.ref p) (upd H2 p (.lst xs.reverse))
theorem vvn(K:PySem.W.Frag){e st:Expr}{te ts:TE}{p2 pos:Pos}(he:PE X e te)(bo:PE X st ts)(hK:autoParam (X.K=K) Ŕ):PE X (.Subscript e (.Slice none none (some st) p2) pos) (tRev K te ts):=by
 subst hK;intro pins s σ H Q I h;refine Subscript_ (thn (he pins s σ H _ I h) λv s1 ⟨x,H1,I1,r1,q1⟩=>?_);refine wpAny_Slice (evalPart_none_step (evalPart_none_step (evalPart_some_step (thn (bo pins s1 σ H1 _ I1 q1) λvs s2 ⟨y,H2,I2,r2,q2⟩=>?_))));obtain⟨a,xs,rfl,rfl,hq,q⟩:=q2;cases r1;obtain⟨t,rfl⟩:=r2;have I4:Inv X pins σ H2 { s2 with heap:=s2.heap.push { cls:=.type "slice",data:=.fields #[.none,.none,.int (-1) t] } }:=I2.kept (t':=s2.toks) λb ob q=>X2 _ q
 obtain⟨aa,r,pl,hz⟩:=I4.list hq;have aj:=r.length;show wpAny (model X.prog X.w) X.A (subscriptTail e (.Slice none none (some st) p2) (.ref a) (.ref s2.heap.objs.size)) (EP X pins σ Q) X.xe { s2 with heap:=s2.heap.push { cls:=.type "slice",data:=.fields #[.none,.none,.int (-1) t] } };refine tail_any (ops:=[.ref a,.ref s2.heap.objs.size]) pl.isList.typeIs slot_list_getitem.lookup ?_ (by with_unfolding_all rfl);refine wpAny_getItem_list_slice pl.isList (Heap.IsSliceOf.new ..) .none .none (.int (-1) t) (by simp) ?_ (by rw[X8]<;>lia);rw[PySem.W.krv_pick];refine⟨.ref _,_,I4.laid (t':=s2.toks) (o:=.lst xs.reverse) (λb ob q=>X2 _ q) (Xd _) ?_,rfl,q _ (I4.hok.fresh (Xd _))⟩;exact⟨by rw[List.length_reverse];exact hz,aa.reverse,0,r.reverse,X9 _ rfl⟩
noncomputable def qkf(K:PySem.W.Frag):List V->Hp->VK->Prop:=λxs H Q=>∃p ys,xs=[.ref p]/\(SqL K H p ys\/SqT K H p ys)/\∀l,H l=none->Q (.ref l) (upd H l (.lst ys))
theorem kj4(K:PySem.W.Frag)(hK:autoParam (X.K=K) Ŕ):CallR X (.type "list") (qkf K):=by subst hK;exact kwa
end
abbrev LET:Str:="abcdefghijklmnopqrstuvwxyz"
def Wd(z:Str):Prop:=1<=z.length/\z.length<=8/\∀ch∈z.cps.toList,ch∈LET.cps.toList
section
variable {X:Cx}
noncomputable def qkh:List V->Hp->VK->Prop:=λxs H Q=>(∃i,xs=[.int i]/\Q (.int i) H)\/(∃k,xs=[.bl k]/\Q (.int (if k then 1 else 0)) H)\/∃(x:Str) (n:Int),xs=[.str x]/\PySem.intText? x=some n/\x.length<=640/\Q (.int n) H
theorem WZ:CallR X (.type "int") qkh:=by
 intro pins s σ H xs us Q I r h;rcases h with h|h|⟨x,n,rfl,hx,hl,q⟩
 ·exact qvs pins s σ H xs us Q I r (.inl h)
 ·exact qvs pins s σ H xs us Q I r (.inr h)
 ·obtain⟨u,rfl,t,rfl⟩:=xx r;exact PySem.W.KIN.call_text hx hl ⟨.int n,H,I.tok _,⟨_,rfl⟩,q⟩
end
end L3
namespace L2
open PySem PySem.Spec PyProof.Rows
section
variable {X:Cx}{pins:List (Addr×Obj)}{σ:List (Option V)}{H H':Hp}{s:Shared}{h':Heap}
theorem Inv.stepN{g':Array GenState}{t':Nat}{d':Drawn}{ch:List Addr}(I:Inv X pins σ H s)
  (fg:∀b∈ch,(b∈X.ex\/X.s₀.heap.get? b=none)/\b≠X.env.locals/\(∀x c,X.env.cells.lookup x=some c->c≠b)/\∀p∈X.pn++pins,p.1≠b)
  (keep:∀b o,b≠X.env.locals->b∉X.fs->b∉ch->s.heap.get? b=some o->H b=none->h'.get? b=some o)
  (slot:∀b o,b≠X.env.locals->b∈X.fs->b∉ch->s.heap.get? b=some o->H b=none->∃sl,h'.get? b=some { o with slots:=sl }) (free:∀b o,b∉ch->s.heap.get? b=some o->H b=none->H' b=none)
  (there:∀b o,b∉ch->s.heap.get? b=some o->∃o',h'.get? b=some o')
  (tups:∀b xs,H b=some (.tup xs)->H' b=some (.tup xs)) (frzs:∀b o u,H b=some (.frz o u)->H' b=some (.frz o u)) (tbls:∀b ps,H b=some (.tbl ps)->∃more,H' b=some (.tbl (ps++more)))
  (ns:∀m,s.heap.Ns X.env.locals m->h'.Ns X.env.locals m) (hok:HOk X.prog X.w H' h') (hg:AllBare g'):
  Inv X pins σ H' { s with heap:=h',gens:=g',drawn:=d',toks:=t' }:=by
 have qt:∀b o,X.s₀.heap.get? b=some o->b≠X.env.locals:=λb o e=>Xn (Xg (Xe e) I.ok.above)
 have kd:∀b o,X.s₀.heap.get? b=some o->b∉X.ex->b∉ch:=λb o e hx hb=>by
  rcases(fg b hb).1 with z|z
  ·exact hx z
  ·rw[z]at e;cases e
 have fw:∀x c,X.env.cells.lookup x=some c->∀v,s.heap.IsCell c v->h'.IsCell c v:=λx c e v ⟨o,ho,hd⟩=>by
  have je:c∉ch:=λz=>(fg c z).2.2.1 x c e rfl
  by_cases hc:c∈X.fs
  ·obtain⟨sl,q⟩:=slot c o (I.cne x c e) hc je ho (I.freeC x c e);exact⟨_,q,hd⟩
  ·exact⟨o,keep c o (I.cne x c e) hc je ho (I.freeC x c e),hd⟩
 refine⟨I.ok,I.os,hg,⟨λb o e n hb hx=>?_,λb o e n hb hx=>?_,λb o e n hx=>?_,λb o e hx=>?_,λb xs e=>tups b xs (I.base.tups b xs e),λb o xs e=>frzs b o xs (I.base.frzs b o xs e),λb ps e=>?_⟩,?_,λx c e=>?_,?_,λx c e=>?_,λp hp=>?_,hok,I.len⟩
 ·exact keep b o (qt b o e) hb (kd b o e hx) (I.base.keep b o e n hb hx) (I.base.free b o e n hx)
 ·obtain⟨sl,e1⟩:=I.base.slot b o e n hb hx;obtain⟨sl',e2⟩:=slot b _ (qt b o e) hb (kd b o e hx) e1 (I.base.free b o e n hx);exact⟨sl',e2⟩
 ·obtain⟨o',e1⟩:=I.base.there b o e hx;exact free b o' (kd b o e hx) e1 (I.base.free b o e n hx)
 ·obtain⟨o',e1⟩:=I.base.there b o e hx;exact there b o' (kd b o e hx) e1
 ·obtain⟨m1,e1⟩:=I.base.tbls b ps e;obtain⟨m2,e2⟩:=tbls b _ e1;exact⟨m1++m2,by rw[e2,Array.append_assoc]⟩
 ·obtain⟨m,hn,hl⟩:=I.loc;refine⟨m,ns m hn,λi x v e1 e2 e3=>?_⟩;obtain⟨u,r,l⟩:=hl i x v e1 e2 e3;refine⟨u,r,?_⟩;rcases l with l|⟨k,c,e,z⟩
  ·exact .inl l
  ·exact .inr ⟨k,c,e,fw x c e _ z⟩
 ·obtain⟨v,z⟩:=I.cell x c e;exact⟨v,fw x c e v z⟩
 ·obtain⟨m,⟨o,_,_,ho,_⟩,_⟩:=I.loc;exact free _ o (λz=>(fg _ z).2.1 rfl) ho I.free
 ·obtain⟨v,o,ho,hd⟩:=I.cell x c e;exact free c o (λz=>(fg c z).2.2.1 x c e rfl) ho (I.freeC x c e)
 ·obtain⟨e,n,ne,nf,d⟩:=I.pin p hp;have je:p.1∉ch:=λz=>(fg p.1 z).2.2.2 p hp rfl
  exact⟨keep p.1 p.2 ne nf je e n,free p.1 p.2 je e n,ne,nf,d⟩
theorem Inv.callN{g':Array GenState}{t':Nat}{d':Drawn}{ch:List Addr}(I:Inv X pins σ H s)(u:Un (frs X.stack) ch H H' s.heap h')(hok:HOk X.prog X.w H' h')(hg:AllBare g')
  (fg:∀b∈ch,(b∈X.ex\/X.s₀.heap.get? b=none)/\b≠X.env.locals/\(∀x c,X.env.cells.lookup x=some c->c≠b)/\∀p∈X.pn++pins,p.1≠b):
  Inv X pins σ H' { s with heap:=h',gens:=g',drawn:=d',toks:=t' }:=by
 obtain⟨m,⟨o,es,ep,ho,r⟩,_⟩:=id I.loc;obtain⟨sl,hL⟩:=u.any ho I.free λz=>(fg _ z).2.1 rfl
 exact I.stepN (ch:=ch) fg (λb o hL hb hc e n=>u.keep b o e n (λz=>(List.mem_cons.mp (I.stkSub b z)).elim hL hb) hc) (λb o _ _ hc e n=>u.any e n hc) (λb o hc e n=>u.free b o e n hc) (λb o hc e=>u.there b o e hc) u.tups u.frzs u.tbls (λm' hm=>by
  obtain⟨o',es',n9,fq,r'⟩:=hm;rw[ho]at fq;cases fq;exact⟨_,es',n9,hL,r'⟩) hok hg
end
end L2
namespace L3
open PySem PySem.Spec PyProof.Rows L2
theorem kjg{e:Value}{env env0:Env}(h:env.frame=env0.frame):noteFrame e env=noteFrame e env0:=by
 unfold noteFrame PySem.frameOf;rw[h]
structure Fl0 (h:Heap)(x:Addr)(C:Value)(vs:Array Value):Prop where
 ob:h.get? x=some { cls:=C,data:=.fields vs }
 sz:1<vs.size
structure FlT (h:Heap)(x T:Addr)(C:Value)(fl:Value):Prop where
 ex:∃vs,h.get? x=some { cls:=C,data:=.fields vs }/\vs[1]?=some (.ref T)
 tb:∃oT ts,h.get? T=some oT/\oT.data=.fields ts/\ts[3]?=some fl
 ne:T≠x
structure Chg (fs ch:List Addr)(h h':Heap):Prop where
 keep:∀b o,h.get? b=some o->b∉fs->b∉ch->h'.get? b=some o
 slot:∀b o,h.get? b=some o->b∉ch->∃sl,h'.get? b=some { cls:=o.cls,dict:=o.dict,data:=o.data,slots:=sl }
 size:h.objs.size<=h'.objs.size
theorem Chg.trans{fs ch ch':List Addr}{h h1 h2:Heap}(a:Chg fs ch h h1)(b:Chg fs ch' h1 h2)(hc:∀x∈ch',x∈ch\/h.get? x=none):Chg fs ch h h2 where
 keep:=λx o e h1 h2=>b.keep x o (a.keep x o e h1 h2) h1 λz=>(hc x z).elim h2 λq=>by rw[q]at e;cases e
 slot:=λx o e hn=>by
  obtain⟨sl,e1⟩:=a.slot x o e hn;obtain⟨lb,e2⟩:=b.slot x _ e1 λz=>(hc x z).elim hn λq=>by rw[q]at e;cases e
  exact⟨lb,e2⟩
 size:=Yk a.size b.size
theorem Chg.mono{fs ch ch':List Addr}{h h1:Heap}(a:Chg fs ch h h1)(hc:∀x∈ch,x∈ch'):Chg fs ch' h h1:=⟨λb o e h1 h2=>a.keep b o e h1 λz=>h2 (hc b z),λb o e h2=>a.slot b o e λz=>h2 (hc b z),a.size⟩
theorem Chg.of_upd{fs : List Addr}{h : Heap}{a : Addr}{f : Obj -> Obj}: Chg fs [a] h (h.update a f):=
  ⟨λb o e _ hn=>by rw[Yw _ _ _ _ (λz=>hn (List.mem_singleton.mpr z))]; exact e,
   λb o e hn=>⟨o.slots, by rw[Yw _ _ _ _ (λz=>hn (List.mem_singleton.mpr z))]; exact e⟩, by rw[Heap.size_update]; exact Xd _⟩
theorem Chg.of_push{fs:List Addr}{h:Heap}{o:Obj}:Chg fs [] h (h.push o):=
 ⟨λb o e _ _=>X2 _ e,λb o e _=>⟨o.slots,X2 _ e⟩,by rw[Heap.size_push];lia⟩
theorem Chg.of_slots{fs:List Addr}{h h':Heap}(s:Heap.SlotsOnly fs h h'):Chg fs [] h h':=
 ⟨λb o e hn _=>(s.2.1 b hn).trans e,λb o e _=>s.2.2 b o e,by rw[s.1];exact Xd _⟩
theorem Chg.refl{fs ch:List Addr}{h:Heap}:Chg fs ch h h:=⟨λ_ _ e _ _=>e,λb o e _=>⟨o.slots,e⟩,Xd _⟩
section
variable {M:Model}{A:Around}{E:Value->Shared->Prop}{s:Shared}{base:Heap}{env:Env}{outer:List Env}{L x T:Addr}{C fl:Value}
theorem kw6{head:Value}{hadNext:Bool}{vs:Array Value}{Q:Unit->Shared->Prop}(hA:A.frames=some (env::outer))(hF:s.heap.FunFrames base (env::outer))(hL:env.frame=some L)(ho:Fl0 s.heap x C vs)
  (h:∀h' T',Chg (frs (env::outer)) [x] s.heap h'->s.heap.objs.size<=T'->FlT h' x T' C (rawInt ↑L)->Q () { s with heap:=h' }):
  wpAny M A (do
   let a <-PySem.frameOf env
   let pl <-entryPlaceOf L hadNext
   let b <-EntryCells.newEntry head a Value.none (rawInt ↑L) Value.none pl
   setField (Value.ref x) 1 b) Q E s:=by
 refine X0 (wpAny_frameOf_fun hA hF hL λh1 s1=>?_);have hx:x∉frs (env::outer):=λz=>by
  obtain⟨_,o,e,hn⟩:=hF.mem z;rw[ho.ob]at e;cases e;exact hn _ rfl
 have o1:h1.get? x=some { cls:=C,data:=.fields vs }:=(s1.2.1 x hx).trans ho.ob;have fin:∀pl:List Value,IsPlace pl->wpAny M A (do
   let b <-EntryCells.newEntry head (Value.ref L) Value.none (rawInt ↑L) Value.none pl
   setField (Value.ref x) 1 b) Q E { s with heap:=h1 }:=λpl bn=>by
  refine X0 ?_;unfold EntryCells.newEntry newFields;have har:([head,Value.ref L,Value.none,rawInt ↑L,Value.none]++if pl.isEmpty=true then List.replicate 6 Value.none else pl).toArray[3]?=some (rawInt ↑L):=by simp
  have hsz:([head,Value.ref L,Value.none,rawInt ↑L,Value.none]++if pl.isEmpty=true then List.replicate 6 Value.none else pl).toArray.size<=sizeLine+2:=by
   rcases bn with rfl|⟨_,_,_,_,_,_,_,rfl⟩<;>simp<;>decide
  generalize ([head,Value.ref L,Value.none,rawInt ↑L,Value.none]++if pl.isEmpty=true then List.replicate 6 Value.none else pl).toArray=ar at har hsz;refine Xy ?_ hsz;have o2:(h1.push { cls:=.type "traceback",data:=.fields ar }).get? x=some { cls:=C,data:=.fields vs }:=X2 _ o1;refine Yq (s:={ s with heap:=h1.push _ }) o2 rfl ho.sz ?_;have en:h1.objs.size≠x:=λe=>absurd (Xe o1) (by rw[<-e];exact Yp _)
  have o3:((h1.push { cls:=.type "traceback",data:=.fields ar }).update x (Obj.mapFields λy=>y.setIfInBounds 1 (.ref h1.objs.size))).get? h1.objs.size=some { cls:=.type "traceback",data:=.fields ar }:=by
   rw[Yw _ _ _ _ en];exact X9 _ rfl
  refine h _ h1.objs.size (((Chg.of_slots s1).mono (λ_ z=>nomatch z)).trans ((Chg.of_push.mono λ_ z=>nomatch z).trans (ch:=[x]) Chg.of_upd λy hy=>.inl hy) λy hy=>.inl hy) (by rw[s1.1];exact Xd _) ⟨⟨vs.setIfInBounds 1 (.ref h1.objs.size),?_,Array.getElem?_setIfInBounds_self_of_lt ho.sz⟩,⟨_,_,o3,rfl,har⟩,en⟩;exact Y2 _ o2 rfl
 exact X0 (wpAny_entryPlaceOf λpl bn=>fin pl bn)
theorem wj6{vs:Array Value}{Q:Unit->Shared->Prop}(hA:A.frames=some (env::outer))(hF:s.heap.FunFrames base (env::outer))(hL:env.frame=some L)(ho:Fl0 s.heap x C vs)(hv:vs[1]?=some .none)
  (h:∀h' T',Chg (frs (env::outer)) [x] s.heap h'->s.heap.objs.size<=T'->FlT h' x T' C (rawInt ↑L)->Q () { s with heap:=h' }):wpAny M A (noteFrame (.ref x) env) Q E s:=by
 unfold noteFrame;rw[hL];refine X0 (Z4 ho.ob rfl hv ?_);exact kw6 (hadNext:=false) hA hF hL ho h
theorem upd3{T:Addr}{oT:Obj}{ts:Array Value}{v:Value}{h:Heap}(e:h.get? T=some oT)(ed:oT.data=.fields ts)(h3:3<ts.size):
  ∃o' ts',(h.update T (Obj.mapFields λy=>y.setIfInBounds 3 v)).get? T=some o'/\o'.data=.fields ts'/\ts'[3]?=some v:=by
 obtain⟨c,d,dt,sl⟩:=oT;cases(show dt=.fields ts from ed);exact⟨_,ts.setIfInBounds 3 v,Y2 _ e rfl,rfl,Array.getElem?_setIfInBounds_self_of_lt h3⟩
theorem wj5{Q:Unit->Shared->Prop}(hA:A.frames=some (env::outer))(hF:s.heap.FunFrames base (env::outer))(hL:env.frame=some L)(f:FlT s.heap x T C fl)
  (h:∀h' T',Chg (frs (env::outer)) [x,T] s.heap h'->(s.heap.objs.size<=T'\/T'=T)->FlT h' x T' C (rawInt ↑L)->Q () { s with heap:=h' }):wpAny M A (noteFrame (.ref x) env) Q E s:=by
 obtain⟨⟨vs,e1,v1⟩,⟨oT,ts,e2,d2,v2⟩,en⟩:=f;have h3:3<ts.size:=by
  rw[Array.getElem?_eq_some_iff]at v2;exact v2.1
 have h1:1<vs.size:=by
  rw[Array.getElem?_eq_some_iff]at v1;exact v1.1
 unfold noteFrame;rw [hL];refine X0 (Z4 e1 rfl v1 ?_);show wpAny M A (if((Value.ref T != Value.none)=true)then _ else _) Q E s;rw [Xf (show(Value.ref T != Value.none)=true from rfl)];refine X0 (Z4 e2 d2 v2 ?_)
 by_cases hf:(fl==rawInt ↑L)=true
 ·rw[Xf hf];have e:fl=rawInt ↑L:=eq_of_beq hf;subst e;exact X4 (h s.heap T Chg.refl (.inr rfl) ⟨⟨vs,e1,v1⟩,⟨oT,ts,e2,d2,v2⟩,en⟩)
 ·rw[Xj hf];refine X0 (Yq e2 d2 h3 ?_);have c1:Chg (frs (env::outer)) [x,T] s.heap (s.heap.update T (Obj.mapFields λy=>y.setIfInBounds 3 Value.none)):=Chg.of_upd.mono λy hy=>by
   rw[List.mem_singleton.mp hy];simp
  have e1':(s.heap.update T (Obj.mapFields λy=>y.setIfInBounds 3 Value.none)).get? x=some { cls:=C,data:=.fields vs }:=by
   rw[Yw _ _ _ _ en.symm];exact e1
  have hF':(s.heap.update T (Obj.mapFields λy=>y.setIfInBounds 3 Value.none)).FunFrames base (env::outer):=by
   refine hF.of_keeps λb o e hn=>⟨o,?_,rfl⟩
   rw[Yw _ _ _ _ λz=>?_]
   ·exact e
   ·rw[z,e2]at e;cases e;exact hn _ d2
  refine kw6 (s:={ s with heap:=s.heap.update T _ }) (hadNext:=true) hA hF' hL ⟨e1',h1⟩ λh' T' c2 hs f'=>?_
  refine h h' T' (c1.trans (c2.mono (ch':=[x,T]) λy hy=>by rw[List.mem_singleton.mp hy];simp) λy hy=>.inl hy) (.inl ?_) f';rw[Heap.size_update]at hs;exact hs
theorem vx0{Q:Unit->Shared->Prop}{fr:Option Addr}(f:FlT s.heap x T C fl)(h:∀h',Chg (frs outer) [x,T] s.heap h'->FlT h' x T C (fr.elim Value.none λf=>rawInt ↑f)->Q () { s with heap:=h' }):wpAny M A (setFlight (.ref x) fr) Q E s:=by
 obtain⟨⟨vs,e1,v1⟩,⟨oT,ts,e2,d2,v2⟩,en⟩:=f;have h3:3<ts.size:=by
  rw[Array.getElem?_eq_some_iff]at v2;exact v2.1
 unfold setFlight;refine X0 (Z4 e1 rfl v1 ?_);rw[Xf (show(Value.ref T != Value.none)=true from rfl)];refine Yq e2 d2 h3 (h _ (Chg.of_upd.mono λy hy=>by rw[List.mem_singleton.mp hy];simp) ⟨⟨vs,?_,v1⟩,upd3 e2 d2 h3,en⟩);rw[Yw _ _ _ _ en.symm];exact e1
end
structure XCls (K:PySem.W.Frag)(C:Addr):Prop where
 ga:PySem.W.findIn K (.ref C) "__getattribute__"=some (some (.builtin "BaseException.__getattribute__"))
 gt:PySem.W.findIn K (.ref C) "__getattr__"=some none
 fo:PySem.W.findObj K C none "__class__"=some (.bind (.builtin "getset_descriptor.__get__") (.builtin "object.__class__"))
 ob:PySem.W.mroIn K C (.type "object")=some true
 bx:PySem.W.mroIn K C (.type "BaseException")=some true
 cl:(PySem.W.clsIn K C).isSome=true
noncomputable def FpX(X:Cx)(pins:List (Addr×Obj))(H:Hp)(b:Addr):Prop:=
 H b=none/\b≠X.env.locals/\b∉X.fs/\(b∈X.ex\/X.s₀.heap.get? b=none)/\(∀x c,X.env.cells.lookup x=some c->c≠b)/\∀p∈X.pn++pins,p.1≠b
section
variable {X:Cx}{pins:List (Addr×Obj)}{σ:L2.St}{H:Hp}{s:Shared}
theorem fpX{H':Hp}{b:Addr}(I:Inv X pins σ H s)(hb:s.heap.get? b=none)(hn:H' b=none):FpX X pins H' b:=by
 refine⟨hn,λz=>?_,λz=>?_,?_,λx c e z=>?_,λp hp z=>?_⟩
 ·obtain⟨m,⟨o,_,_,ho,_⟩,_⟩:=I.loc;rw[<-z,hb]at ho;cases ho
 ·obtain⟨_,o,e,_⟩:=I.ok.funs.mem z
  by_cases hx:b∈X.ex
  ·exact I.ok.exfs b hx z
  ·obtain⟨o',e'⟩:=I.base.there b o e hx;rw[hb]at e';cases e'
 ·by_cases hx:b∈X.ex
  ·exact .inl hx
  ·cases e:X.s₀.heap.get? b with
   |none=>exact .inr rfl
   |some o=>
    obtain⟨o',e'⟩:=I.base.there b o e hx;rw[hb]at e';cases e'
 ·obtain⟨v,o,ho,_⟩:=I.cell x c e;rw[z,hb]at ho;cases ho
 ·have:=(I.pin p hp).1;rw[z,hb]at this;cases this
theorem FpX.of{b:Addr}(h:wK X pins H b):FpX X pins H b:=⟨h.1,h.2.1,h.2.2.1,h.2.2.2.1.imp id λz=>Heap.get?_none_of_le z,h.2.2.2.2⟩
theorem kx6{h':Heap}{ch:List Addr}(I:Inv X pins σ H s)(c:Chg (frs X.stack) ch s.heap h')(hf:∀b∈ch,FpX X pins H b):Inv X pins σ H { s with heap:=h' }:=by
 refine I.callN (g':=s.gens) (t':=s.toks) (d':=s.drawn) (ch:=ch) ⟨λb o e _ h1 h2=>c.keep b o e h1 h2,λb o e _ _ h2=>c.slot b o e h2,λ_ _ _ n _=>n,λb o e h2=>?_,λ_ _ e=>e,λ_ _ _ e=>e,λ_ _ e=>⟨#[],by rw[e];simp⟩⟩ (λb u e=>?_) I.bare λb hb=>?_
 ·obtain⟨sl,q⟩:=c.slot b o e h2;exact⟨_,q⟩
 ·have no:∀d v,H d=some v->d∉frs X.stack/\d∉ch:=λd v e=>⟨λz=>(by rw[I.stkFree d z]at e;cases e),λz=>(by rw[(hf d z).1]at e;cases e)⟩
  refine(I.hok b u e).stay (λd v hc q=>?_) (λ_ q=>q) λ_ _ q=>q
  rcases hc with z|z
  ·rw[z]at q ⊢;exact c.keep b v q (no b u e).1 (no b u e).2
  ·exact c.keep d v q (no d _ z).1 (no d _ z).2
 ·obtain⟨_,f1,_,f3,f4,f5⟩:=hf b hb;exact⟨f3,f1,f4,f5⟩
end
structure Fx (X:Cx)(pins:List (Addr×Obj))(H:Hp)(h:Heap)(x:Addr)(C:Value):Prop where
 fp:FpX X pins H x
 st:(∃vs,Fl0 h x C vs/\vs[1]?=some .none)\/∃T fl,FlT h x T C fl/\FpX X pins H T
structure Xt (X:Cx)(pins:List (Addr×Obj))(σ:L2.St)(H:Hp)(x T:Addr)(C fl:Value)(s:Shared):Prop where
 inv:Inv X pins σ H s
 fx:FpX X pins H x
 fT:FpX X pins H T
 f:FlT s.heap x T C fl
theorem Xt.to{X:Cx}{pins:List (Addr×Obj)}{σ:L2.St}{H:Hp}{x T:Addr}{C fl:Value}{s:Shared}(h:Xt X pins σ H x T C fl s):Fx X pins H s.heap x C:=⟨h.fx,.inr ⟨T,fl,h.f,h.fT⟩⟩
noncomputable def Xo(X:Cx)(E:XK)(e:Value)(s:Shared):Prop:=∃pins σ H x C,e=.ref x/\Inv X pins σ H s/\Fx X pins H s.heap x C/\E C none H
def zQ(X:Cx)(E:XK):Prop:=∀pins σ H s x C,Inv X pins σ H s->Fx X pins H s.heap x C->E C none H->X.xe (.ref x) s
abbrev Cx.ex'(X:Cx)(E:XK):Cx:=X.wish (Xo X E)
theorem WV{X:Cx}{E:XK}:zQ (Cx.ex' X E) E:=λpins σ H s x C I f q=>⟨pins,σ,H,x,C,rfl,I.unwish,⟨f.fp,f.st⟩,q⟩
def K5(X:Cx):Prop:=∃env0 out,X.stack=env0::out/\X.env.frame=env0.frame
section
variable {X:Cx}{pins:List (Addr×Obj)}{σ:L2.St}{H:Hp}{s:Shared}{M:Model}{E':Value->Shared->Prop}{x T:Addr}{C fl:Value}
theorem qq5{A:Around}{Q:Unit->Shared->Prop}(top:K5 X)(hA:A.frames=X.A.frames)(I:Inv X pins σ H s)(f:Fx X pins H s.heap x C)(h:∀L T s',X.env.frame=some L->Xt X pins σ H x T C (rawInt ↑L) s'->Q () s'):
  wpAny M A (noteFrame (.ref x) X.env) Q E' s:=by
 obtain⟨env0,out,e1,e2⟩:=top;have hF:=I.stack;have jf:A.frames=some (env0::out):=by rw[hA,I.ok.frames,e1]
 rw[e1]at hF;obtain⟨_,⟨L,o,hL,_⟩,_⟩:=id hF;rw[kjg e2];have hL':X.env.frame=some L:=e2.trans hL;rcases f.st with⟨vs,f0,hv⟩|⟨T,fl,fT,pT⟩
 ·refine wj6 jf hF hL f0 hv λh' T' c hs lh=>h L T' _ hL' ⟨?_,f.fp,fpX I (Heap.get?_none_of_le hs) (I.hok.fresh hs),lh⟩
  rw[<-e1]at c;exact kx6 I c λb hb=>by rw[List.mem_singleton.mp hb];exact f.fp
 ·refine wj5 jf hF hL fT λh' T' c hs lh=>?_
  rw[<-e1]at c;refine h L T' _ hL' ⟨kx6 I c λb hb=>?_,f.fp,?_,lh⟩
  ·simp only[Xr,Xk,or_false]at hb;rcases hb with rfl|rfl
   ·exact f.fp
   ·exact pT
  ·rcases hs with hs|hs
   ·exact fpX I (Heap.get?_none_of_le hs) (I.hok.fresh hs)
   ·rw[hs];exact pT
theorem kqr{A:Around}{Q:Unit->Shared->Prop}{fr:Option Addr}(t:Xt X pins σ H x T C fl s)(h:∀s',Xt X pins σ H x T C (fr.elim Value.none λf=>rawInt ↑f) s'->Q () s'):wpAny M A (setFlight (.ref x) fr) Q E' s:=by
 refine vx0 (outer:=X.stack) t.f λh' c lh=>h _ ⟨kx6 t.inv c λb hb=>?_,t.fx,t.fT,lh⟩
 simp only[Xr,Xk,or_false]at hb;rcases hb with rfl|rfl
 ·exact t.fx
 ·exact t.fT
theorem vvt{α:Type}{A:Around}{what:String}{iq:Env}{Q:α->Shared->Prop}(t:Xt X pins σ H x T C fl s)(h:∀s' lh,Xt X pins σ H x T C lh s'->E' (.ref x) s'):wpAny M A (PySem.passOn what (.ref x) iq:Sem α) Q E' s:=by
 unfold PySem.passOn;obtain⟨vs,e1,v1⟩:=t.f.ex;refine X0 (Z4 e1 rfl v1 ?_);rw[Xj (show ¬(Value.ref T==Value.none)=true by intro z;cases z)];refine X0 (kqr t λs' t'=>?_);exact wpAny_throw (h s' _ t')
theorem vvx{E:XK}(top:K5 X):PassesOwn M X.A X.env (Xo X E):=by
 rintro e s' ⟨pins,σ,H,x,C,rfl,I,f,q⟩;unfold notedBy;refine qq5 top rfl I f λL T s1 _ t=>?_
 unfold cameBackBy;obtain⟨vs,e1,v1⟩:=t.f.ex;refine X0 (Z4 e1 rfl v1 ?_);rw[Xj (show ¬(Value.ref T==Value.none)=true by intro z;cases z)];exact kqr t λs2 t2=>⟨pins,σ,H,x,C,rfl,t2.inv,t2.to,q⟩
end
noncomputable def CXE(P:Program)(w:World):CXT:=λouter H s E e s'=>∃x T C fl H',e=.ref x/\s'.os=s.os/\AllBare s'.gens/\Un (frs outer) [] H H' s.heap s'.heap/\HOk P w H' s'.heap /\
 s.heap.get? x=none/\s.heap.get? T=none/\H' x=none/\H' T=none/\FlT s'.heap x T C fl/\E C none H'
theorem wj0{X:Cx}{E:XK}(g:zQ X E):qw1 (CXE X.prog X.w) X E:=by
 rintro pins σ H s e s' I ⟨x,T,C,fl,H',rfl,os,bare,un,hok,hx,hT,nx,nT,f,q⟩;refine g pins σ H' s' x C (I.call' os un hok bare λb hb=>nomatch hb) ⟨fpX I hx nx,.inr ⟨T,fl,f,fpX I hT nT⟩⟩ q
theorem qzn{CX:CXT}{P:Program}{w:World}{K:PySem.W.Frag}{mg:Str->Option Value}{base:Heap}{N:List Str}{qual:Str}{scope:Scope}{f:Addr}{cd:Value}{A:Around}{outer:List Env}{s:Shared}{H:Hp}{E:XK}:
  K5 (JQ CX P w K mg base N qual scope f cd A outer s H E):=⟨_,_,rfl,rfl⟩
theorem qqf{P:Program}{w:World}{K:PySem.W.Frag}{mg:Str->Option Value}{base:Heap}{N:List Str}{qual:Str}{scope:Scope}{f:Addr}{cd:Value}{A:Around}{outer:List Env}{s:Shared}{H:Hp}{E:XK}{e:Value}{s':Shared}
  (h:Xo (JQ (CXE P w) P w K mg base N qual scope f cd A outer s H E) E e s'):(JQ (CXE P w) P w K mg base N qual scope f cd A outer s H E).xe e s':=by
 obtain⟨pins,σ,H',x,C,rfl,I,fx,q⟩:=h;show wpAny (model P w) _ (leaving _ (.ref x)) _ _ s';unfold leaving;refine X0 (qq5 (X:=JQ (CXE P w) P w K mg base N qual scope f cd A outer s H E) qzn rfl I fx λL T s1 _ t=>?_);refine kqr t λs2 t2=>?_
 have ge:∀b,FpX (JQ (CXE P w) P w K mg base N qual scope f cd A outer s H E) pins H' b->s.heap.get? b=none:=λb hb=>hb.2.2.2.1.elim (λz=>nomatch z) λz=>z
 exact⟨x,T,C,_,H',rfl,t2.inv.os,t2.inv.bare,t2.inv.base,t2.inv.hok,ge x t2.fx,ge T t2.fT,t2.fx.1,t2.fT.1,t2.f,q⟩
section
variable {P:Program}{w:World}{K:PySem.W.Frag}{mg:Str->Option Value}{base:Heap}
theorem v3{x qual:Str}{st:Stmt}{f:Addr}{fd:FuncData}{N ps:List Str}{k:Nat}{sp:Sp}(F:Fun K x qual st f fd)(S:FnScope N ps (kY st))(len:∀vs H Q E,sp vs H Q E->vs.length=ps.length)
  (iz:∀(bd:Value) (A:Around) (outer:List Env) (s:Shared) (H:Hp) (vs:List V) (Q:VK) (E:XK),Room k (A.deeper (envOfC qual (kY st) s.heap.objs.size f bd))->sp vs H Q E ->
   ∃t,PSs (Cx.ex' (JQ (CXE P w) P w K mg base N qual (kY st) f bd A outer s H E) E) (KW st) t/\t { nx:=λ_ H'=>Q .non H',rt:=Q } (L2.start N vs) H):FnOk P w K mg base (CXE P w) (k+1) f fd ps sp:=by
 obtain⟨oc,od,kV,fm,pm,an,bd,ct,lj,rfl,lk,gk⟩:=F.ex;refine wji lk gk S len λA outer s H vs Q E hr lp=>?_
 obtain⟨t,h,q⟩:=iz bd A outer s H vs Q E hr lp;exact⟨t,λpins s' σ H' D I hw=>wpAny_mono (h pins s' σ H' D (I.wish _) hw) (λf j' z=>z.unwish) λe j' z=>qqf z,q⟩
noncomputable def qx(P:Program)(w:World)(K:PySem.W.Frag)(mg:Str->Option Value)(base:Heap)(k:Nat)(x:Str)(ps:List Str)(sp:Sp):Prop:=
 ∃(f:Addr) (fd:FuncData),FnOk P w K mg base (CXE P w) k f fd ps sp/\Binds K fd ps []/\PySem.W.keepIn K (.ref f)=true/\mg x=some (.ref f)
end
section
variable {X:Cx}{x:Str}{p pos:Pos}{e:Expr}{es:List Expr}{t:TA}{ps:List Str}{sp:Sp}{k:Nat}{v:V}{E:XK}
theorem qkv(D:qx X.prog X.w X.K X.mg X.base k x ps sp)(hr:Room k X.A)(g:zQ X E)(ha:PA X (e::es) t)(hg:autoParam (Gl X x) Ŕ)(f9:autoParam ((x==("__debug__":Str))=false) ŕ)
  (he:autoParam (starEach (e::es) X.env=(false,eval e X.env)::starEach es X.env) Ŕ) (bn:autoParam ((backTo pos (starEach es X.env)).any (·.1)=false) Ŕ):
  PE X (.Call (.Name x p) (e::es) [] pos) (vq3 sp [] E t):=by
 obtain⟨f,fd,F,b,kp,m⟩:=D;exact vjf F hr hg m kp b .nil (wj0 g) ha f9 he bn
end
abbrev lcE(X:Cx)(scope:Scope)(N:List Str)(cl:List (Str×Addr))(C:Addr)(s0:Shared)(H0:Hp)(fp:List Addr)(EX:XK):Cx:=Cx.ex' (lcX X scope N cl C s0 H0 fp) EX
section
variable {prog:Program}{w:World}{A:Around}{R:Result->Shared->Prop}{s:Shared}
theorem vjv{em d7 au:Expr}{dq:List Expr}{scope:Scope}{pos:Pos}{it ae:Value}{env:Env}(Ex:Value->Shared->Prop)(I:Nat->Shared->Prop)
  (fj:∀n s,I n s->wpAny (model prog w) A (pyNext it) (λr s1=>match r with
   | none=>R (.ok .next) s1
   | some v=>wpAny (model prog w) A (letOwnedTupleGo d7 it v) (λ_ s2=>wpAny (model prog w) A (assign d7 env v) (λ_ s3=>
     wpAny (model prog w) A (qqj dq env) (λok s4=>
      if ok=true then
       wpAny (model prog w) A (eval em env) (λx s5=>wpAny (model prog w) A (call (.builtin "list.append") [ae,x]) (λ_ s6=>∃m,m<n/\I m s6) Ex s5) Ex s4
      else ∃m,m<n/\I m s4) Ex s3) Ex s2) Ex s1) Ex s)
  (hx:∀e s,Ex e s->notedBy (model prog w) A env (λe s'=>R (.error e) s') e s) (n:Nat) (h:I n s):codeAny (model prog w) A (.compLoop (.ListComp em [⟨d7,au,dq,0⟩] scope pos) 0 it ae env) R s:=by
 refine codeAny_loop rfl I (λn s hI=>?_) n h;show wpAny _ A ((compTurn (.ListComp em [⟨d7,au,dq,0⟩] scope pos) 0 it ae env).onRaise _) _ _ s;refine wpAny_noted ?_;rw[compTurn_list];refine wpAny_mono (E:=Ex) (X0 (wpAny_standAt (X0 (thn (fj n s hI) λr s1 h1=>?_)))) (λ_ _ q=>q) (λe s q=>?_)
 rotate_left
 ·exact hx e s q
 cases r with
 |none=>exact X4 h1
 |some v=>
  refine X0 (thn h1 λ_ s2 h2=>?_);refine X0 (thn h2 λ_ s3 h3=>?_);refine X0 (thn h3 λok s4 h4=>?_);cases ok with
  |false=>exact X4 ⟨rfl,h4⟩
  |true=>exact X0 (X0 (thn h4 λx s5 h5=>X0 (thn h5 λ_ s6 h6=>X4 (X4 ⟨rfl,h6⟩))))
end
section
variable {X:Cx}{tg au em:Expr}{dq:List Expr}{scope:Scope}{N:List Str}{k:Nat}{R:List Nat}{g:TG}{tt:TT}{te:TE}{pos:Pos}
theorem qxz{EX:XK}{pins cm:List (Addr×Obj)}{σ σ':L2.St}{H2 H':Hp}{s2 s':Shared}{fp:List Addr}{cl:List (Str×Addr)}{C x T:Addr}{Cc fl:Value}{Q:Value->Shared->Prop}{ae:Value}{use:Option (Value->Sem Unit)}(gx:zQ X EX)
  (I2:Inv X pins σ H2 s2) (f2:∀b∈fp,wK X pins H2 b) (hC:s2.heap.objs.size<=C) (t:Xt (lcX X scope N cl C s2 H2 fp) cm σ' H' x T Cc fl s') (q:EX Cc none H'):
  compPost (model X.prog X.w) X.A X.xe use Q ae C (.error (.ref x)) s':=by
 obtain⟨m,hn,_⟩:=t.inv.loc;refine⟨m,hn,λh' sb iq _=>?_⟩;have J1:Inv X pins σ H' s':=I2.call' t.inv.os t.inv.base t.inv.hok t.inv.bare λb hb=>⟨(f2 b hb).2.2.2.1,(f2 b hb).2.1,(f2 b hb).2.2.2.2.1,(f2 b hb).2.2.2.2.2⟩
 have fC:wK X pins H' C:=I2.fpOk hC t.inv.free;have J2:Inv X pins σ H' { s' with heap:=h',toks:=s'.toks }:=J1.turned (it:=C) (λb o hb e=>(sb.2 b hb).trans e) fC.1 fC.2.1 fC.2.2.2.1 fC.2.2.2.2.1 fC.2.2.2.2.2;have fp':∀b,FpX (lcX X scope N cl C s2 H2 fp) cm H' b->FpX X pins H' b:=λb hb=>by
  rcases hb.2.2.2.1 with z|z
  ·exact⟨hb.1,(FpX.of (f2 b z)).2⟩
  ·exact fpX I2 z hb.1
 have nx:x≠C:=t.fx.2.1;have nT:T≠C:=t.fT.2.1;have f:FlT h' x T Cc fl:=by
  obtain⟨⟨vs,e1,v1⟩,⟨oT,ts,e2,d2,v2⟩,en⟩:=t.f;exact⟨⟨vs,(sb.2 x nx).trans e1,v1⟩,⟨oT,ts,(sb.2 T nT).trans e2,d2,v2⟩,en⟩
 refine vvt (X:=X) (pins:=pins) (σ:=σ) (H:=H') (s:={ s' with heap:=h' }) ⟨J2,fp' x t.fx,fp' T t.fT,f⟩ λs3 lh t3=>gx pins σ H' s3 x Cc t3.inv t3.to q
theorem kw2{EX:XK}{pins:List (Addr×Obj)}{σ:L2.St}{H2:Hp}{s2:Shared}{it:Addr}{fp:List Addr}{tn:Nat->Heap->Prop}{J:It}{Q:VK}{W:Nat->Nat->List V->L2.St->Hp->Prop}{cl:List (Str×Addr)}{E:Value->Shared->Prop}
  {RR:Value->Addr->Result->Shared->Prop} (hc:X.calm=true) (top:K5 X) (sc:LcOk X scope N k R)
  (de:∀x c,cl.lookup x=some c->X.env.cells.lookup x=some c) (be:∀y∈scope.names,y.2=.free->∃c,cl.lookup y.1=some c)
  (hg:∀C s0 H0 fp,PG (lcE X scope N cl C s0 H0 fp EX) tg g) (ht:∀C s0 H0 fp,PTs (lcE X scope N cl C s0 H0 fp EX) dq tt) (he:∀C s0 H0 fp,PE (lcE X scope N cl C s0 H0 fp EX) em te)
  (I2:Inv X pins σ H2 s2) (T:Turn X.prog X.w X.K tg J fp it tn) (bm:tn 0 s2.heap) (f2:∀b∈fp,wK X pins H2 b) (w0:∃m,W 0 m [] (JX k R σ) H2) (fj:LcW g tt te Q J W)
  (hRR:∀D C oC m ys H' s',Inv X (pins++[(C,oC)]) σ (upd H' D (.lst ys)) s'->s'.heap.get? C=some oC->s'.heap.Ns C m->wK X pins (upd H' D (.lst ys)) C->Q (.ref D) (upd H' D (.lst ys))->RR (.ref D) C (.ok .next) s')
  (hER:∀D C s' cm σ' H' x T Cc fl,s2.heap.objs.size<=C->Xt (lcX X scope N cl C s2 H2 fp) cm σ' H' x T Cc fl s'->EX Cc none H'->RR (.ref D) C (.error (.ref x)) s'):
  wpAny (model X.prog X.w) X.A (newList []) (λae s3=>wpAny (model X.prog X.w) X.A (newFunctionEnv scope X.env.globals cl [] X.env.qual none .none (some X.env)) (λiq s4=>
   codeAny (model X.prog X.w) X.A (.compStart (.ListComp em [⟨tg,au,dq,0⟩] scope pos) 0 (.ref it) ae { iq with scope:=relabel scope X.env }) (RR ae iq.locals) s4) E s3) E s2:=by
 have qr:∀b∈fp,∃o,s2.heap.get? b=some o:=λb hb=>let ⟨o,e,_⟩:=T.obj 0 _ bm b hb;⟨o,e⟩
 refine Xy (wpAny_newFunctionEnv sc.nocell (by intro y hy;simp at hy) (λh1 hn1 oz=>?_) sc.kind);dsimp only at hn1 oz ⊢;generalize eH:s2.heap.push { cls:=.type "list",dict:=none,data:=.seq ([]:List Value).toArray }=Hx at hn1 oz ⊢;have eC:Hx.objs.size=s2.heap.objs.size+1:=by rw[<-eH,Heap.size_push]
 generalize eD:s2.heap.objs.size=D at eC;generalize eC':Hx.objs.size=C at hn1 oz eC ⊢;have mq:D≠C:=by lia
 have hC:s2.heap.objs.size<=C:=by lia
 have hD:s2.heap.objs.size<=D:=by lia
 have fe:∀b o,s2.heap.get? b=some o->h1.get? b=some o:=λb o e=>by
  exact oz.extBut b o (Xn (Xg (Xe e) hC)) (X2 _ (eH▸X2 _ e))
 have accD:h1.get? D=some (YV [] 0):=by
  refine oz.extBut _ _ mq (X2 _ ?_);rw [<-eH,<-eD];exact X9 _ rfl
 have below:∀b∈fp,b≠D/\b≠C:=λb hb=>by
  obtain⟨o,e⟩:=qr b hb;exact⟨Xn (Xg (Xe e) hD),Xn (Xg (Xe e) hC)⟩
 have gp:∀{H':Hp} {oD:Obj},(∀b∈fp,H' b=none)->∀b∈fp,wK (lcE X scope N cl C s2 H2 fp EX) [(D,oD)] H' b:=fun {H' oD} hn b hb=>by
  obtain⟨_,f1,f3,f4,f5,f6⟩:=f2 b hb;refine⟨hn b hb,(below b hb).2,λz=>?_,.inl hb,λx c h=>f5 x c (de x c h),λp hp=>?_⟩
  ·rcases List.mem_cons.mp (I2.stkSub b z)with y|y
   ·exact f1 y
   ·exact f3 y
  ·have e:p=(D,oD):=by
    have hp:p∈([]++[(D,oD)]:List (Addr×Obj)):=hp
    simpa using hp
   rw [e];exact(below b hb).1.symm
 have loop:∀s3:Shared,s3={ s2 with heap:=h1,toks:=s2.toks+([]:List (Str×Value)).length } ->
   codeAny (model X.prog X.w) X.A (.compLoop (.ListComp em [⟨tg,au,dq,0⟩] scope pos) 0 (.ref it) (.ref D) (compEnvC scope cl C X.env)) (RR (.ref D) C) s3:=by
  rintro s3 rfl;obtain⟨m0,w0⟩:=w0;have hxx:∀e s,Xo (lcX X scope N cl C s2 H2 fp) EX e s->notedBy (model X.prog X.w) X.A (compEnvC scope cl C X.env) (λe s'=>RR (.ref D) C (.error e) s') e s:=by
   rintro e s ⟨cm,σ',H',x,Cc,rfl,I',f',q'⟩;have top':K5 (lcX X scope N cl C s2 H2 fp):=top;exact qq5 (X:=lcX X scope N cl C s2 H2 fp) top' rfl I' f' λL T s1 _ t=>hER D C s1 cm σ' H' x T Cc _ hC t q'
  refine vjv (Xo (lcX X scope N cl C s2 H2 fp) EX) (λn s'=>∃i ys aa nn σ' H',Inv (lcE X scope N cl C s2 H2 fp EX) [(D,YV aa nn)] σ' H' s'/\Vals ys aa/\tn i s'.heap/\(∀b∈fp,H' b=none)/\W i n ys σ' H') ?_ hxx m0
   ⟨0,[],[],0,_,H2,(vjt I2 sc f2 qr hC hD mq de be fe hn1 accD (λv z=>by cases z)).wish _,.nil,T.keep _ _ _ bm (λb hb o e=>fe b o e),λb hb=>(f2 b hb).1,w0⟩
  rintro n s3 ⟨i,ys,aa,nn,σ3,H3,I3,rv,d3,lv,w3⟩;rcases fj i n ys σ3 H3 w3 with⟨stop,hz,qn⟩|⟨go,step⟩
  ·refine thn (T.done (lcE X scope N cl C s2 H2 fp EX) rfl rfl rfl hc i _ s3 σ3 H3 _ I3 (gp lv) d3 stop) λr s4 ⟨hr,I4⟩=>?_
   subst hr;show RR (.ref D) C (.ok .next) s4;have hD4:=I4.pin (D,YV aa nn) (by show _∈([]++[(D,YV aa nn)]:List (Addr×Obj));simp);have J1:Inv X pins σ H3 s4:=I2.call' I4.os I4.base I4.hok I4.bare λb hb=>⟨(f2 b hb).2.2.2.1,(f2 b hb).2.1,(f2 b hb).2.2.2.2.1,(f2 b hb).2.2.2.2.2⟩
   have fD:wK X pins H3 D:=I2.fpOk hD hD4.2.1;have fC:wK X pins H3 C:=I2.fpOk hC I4.free;have J2:Inv X pins σ (upd H3 D (.lst ys)) s4:=qqs J1 hD4.2.1 fD.2.1 fD.2.2.2.1 fD.2.2.2.2.1 fD.2.2.2.2.2 ⟨hz,aa,nn,rv,hD4.1⟩;obtain⟨mC,nC,_⟩:=I4.loc;obtain⟨oC,es,ep,hoC,hdC,hrest⟩:=id nC;have fC':wK X pins (upd H3 D (.lst ys)) C:=⟨by rw[kW mq.symm];exact fC.1,fC.2⟩;refine hRR D C oC mC ys H3 s4 (J2.pins_of λp hp=>?_) hoC nC fC' (qn D hD4.2.1);rcases List.mem_append.mp hp with z|z
   ·exact J2.pin p (lr9 _ z)
   ·rw[List.mem_singleton.mp z];exact⟨hoC,fC'.1,fC'.2.1,fC'.2.2.1,λv y=>by rw[hdC]at y;cases y⟩
  ·refine thn (T.item (lcE X scope N cl C s2 H2 fp EX) rfl rfl rfl hc i _ s3 σ3 H3 _ I3 (gp lv) d3 go) λr s4 ⟨u,hr,h4⟩=>?_
   subst hr;refine thn h4 λ_ s5 ⟨x,H5,I5,r5,y5,il,fr5⟩=>?_
   have I5':=I5.pinned (gp fr5) (T.obj _ _ il);have i6:∀{σ':L2.St} {H':Hp} {s':Shared} {pl:List (Addr×Obj)},Inv (lcE X scope N cl C s2 H2 fp EX) (pl++Q4 fp s5.heap) σ' H' s'->tn (i+1) s'.heap/\∀b∈fp,H' b=none:=fun {σ' H' s' pl} I'=>by
    have q:∀b∈fp,∀o,s5.heap.get? b=some o->s'.heap.get? b=some o/\H' b=none:=λb hb o e=>by
     obtain⟨a1,a2,_⟩:=I'.pin (b,o) (lr9 _ (lr9 _ (jzj hb e)));exact⟨a1,a2⟩
    refine⟨T.keep _ _ _ il λb hb o e=>(q b hb o e).1,λb hb=>?_⟩;obtain⟨o,e,_⟩:=T.obj _ _ il b hb;exact(q b hb o e).2
   refine thn (hg C s2 H2 fp _ s5 σ3 H5 x u _ I5' r5 (step x H5 y5)) λ_ s6 ⟨σ6,H6,I6,Ny,Nn,hNy,hNn,q6⟩=>?_
   refine thn (ht C s2 H2 fp _ s6 σ6 H6 _ I6 q6) λok s7 ⟨H7,I7,q7⟩=>?_
   cases ok with
   | false=>
    obtain⟨m',hm,w7⟩:=hNn _ q7;exact⟨m',hm,i+1,ys,aa,nn,σ6,H7,I7.unpinned,rv,(i6 I7).1,(i6 I7).2,w7⟩
   | true=>
    refine thn (he C s2 H2 fp _ s7 σ6 H7 _ I7 q7) λu8 s8 ⟨y,H8,I8,r8,q8⟩=>?_
    obtain⟨hz,m',hm,w8⟩:=hNy _ _ q8;have pD:=I8.pin (D,YV aa nn) (lr9 _ (ll9 _ (List.mem_singleton.mpr rfl)));have aj:=rv.length;refine append_at (hsz:=by rw[X8];lia) pD.1 λh9 sb9 e9=>?_
    have I8a:Inv (lcE X scope N cl C s2 H2 fp EX) ([]++Q4 fp s5.heap) σ6 H8 s8:=I8.pins_of λp hp=>I8.pin p (lr9 _ (lr9 _ hp))
    have I9:Inv (lcE X scope N cl C s2 H2 fp EX) ([]++Q4 fp s5.heap) σ6 H8 { s8 with heap:=h9,toks:=s8.toks }:=I8a.turned (it:=D) (λb o hb e=>(sb9.2 b hb).trans e) pD.2.1 mq (.inr hD)
     (λx c h z=>by
      obtain⟨v,q⟩:=I2.cell x c (de x c h);exact absurd (Xg q.lt (by rw[z];exact hD)) (Yp _))
     (λp hp z=>by
      have hp:p∈([]++([]++Q4 fp s5.heap):List (Addr×Obj)):=hp;have hp:p∈Q4 fp s5.heap:=by simpa using hp
      exact(below p.1 (kvv hp).1).1 z)
    have e9':h9.get? D=some (YV (aa++[u8]) (nn+1)):=by rw[e9];simp[List.push_toArray]
    refine⟨m',hm,i+1,ys++[y],aa++[u8],nn+1,σ6,H8,I9.pins_of λp hp=>?_,rv.append (.cons r8 .nil),(i6 I9).1,(i6 I9).2,w8⟩;rw[List.mem_singleton.mp hp];exact⟨e9',pD.2.1,pD.2.2.1,pD.2.2.2.1,λv z=>by cases z⟩
 exact codeAny_compStart_list (loop _ rfl) (T.self _ 0 _ _ _ (T.keep _ _ _ bm λb hb o e=>fe b o e) (loop _ rfl))
theorem vvr{EX:XK}{wi:TI}(N:List Str)(k:Nat)(R:List Nat)(hi:PI X tg au wi)
  (hg:∀cl C s0 H0 fp,PG (lcE X scope N cl C s0 H0 fp EX) tg g) (ht:∀cl C s0 H0 fp,PTs (lcE X scope N cl C s0 H0 fp EX) dq tt) (he:∀cl C s0 H0 fp,PE (lcE X scope N cl C s0 H0 fp EX) em te)
  (gx:zQ X EX) (top:K5 X) (hc:autoParam (X.calm=true) Ŕ) (hk:autoParam (scope.kind=.function) Ŕ) (jt:autoParam (V0 X.N X.env.scope scope N k R=true) Ŕ) (hs:autoParam (∀x,foldedSetIterable au X.env x=pure x) Ŗ):
  PE X (.ListComp em [⟨tg,au,dq,0⟩] scope pos) (tLC wi g tt te k R):=by
 intro pins s σ H Q I h;have sc:=kzg hk jt;obtain⟨cl,iu,de,be⟩:=kkw (scope:=scope) (env:=X.env) λy hy e=>I.ok.has y.1 (sc.caps y hy e)
 rw[eval_ListComp];refine wpAny_comprehension_free (use:=none) rfl hs iu sc.kind sc.names (thn (hi pins s σ H _ I h) λv s1 h1=>thn h1 λitv s2 h2=>?_);obtain⟨it,fp,tn,J,H2,e,I2,T,bm,f2,W,w0,fj⟩:=h2;subst e;refine kw2 (EX:=EX) (RR:=λae C=>compPost (model X.prog X.w) X.A X.xe none (EP X pins σ Q) ae C) hc top sc de be (hg cl) (ht cl) (he cl) I2 T bm f2 w0 fj ?_ ?_
 rotate_left
 ·intro D C s' cm σ' H' x T Cc fl hC t q;exact qxz gx I2 f2 hC t q
 intro D C oC m ys H' s' I' _ nC fC q;exact⟨m,nC,λh' sb=>⟨.ref D,_,I'.unpinned.turned (it:=C) (t':=s'.toks) (λb o hb e=>(sb.2 b hb).trans e) fC.1 fC.2.1 fC.2.2.2.1 fC.2.2.2.2.1 fC.2.2.2.2.2,rfl,q⟩⟩
end
structure ExAt (K:PySem.W.Frag)(x:Addr)(ox:Obj)(C:Addr):Prop where
 cls:ox.cls=.ref C
 no:PySem.W.notCls ox=true
 di:ox.dict=none
 xc:XCls K C
end L3
namespace Q
open PySem
inductive D where
 |non|bl (b:Bool)|int (i:Int)|str (z:Str)|tup (xs:List D)|lst (xs:List D)|dct (ak:List (D×D))|obj (c:Str) (fs:List (Str×D))
instance:DecidableEq D:=λa b=>Classical.propDecidable (a=b)
instance:Inhabited D:=⟨.non⟩
mutual
noncomputable def D.pure:D->Bool
 |.tup xs=>D.pures xs
 |.lst _=>false
 |.dct _=>false
 |.obj _ _=>false
 |_=>true
noncomputable def D.pures:List D->Bool
 |[]=>true
 |a::x=>D.pure a&&D.pures x
end
theorem D.pures_all:∀xs:List D,D.pures xs=xs.all D.pure
 |[]=>by simp[D.pures]
 |a::x=>by rw[D.pures,List.all_cons,D.pures_all x]
@[simp] theorem D.pures_map {α:Type}(f:α->D)(xs:List α)(h:∀x∈xs,(f x).pure=true):D.pures (xs.map f)=true:=by
 rw[D.pures_all,Z2];intro d hd;obtain⟨x,hx,rfl⟩:=List.mem_map.mp hd;exact h x hx
mutual
noncomputable def peq:D->D->Bool
 |.non,.non=>true
 |.bl a,.bl b=>a==b
 |.bl a,.int b=>(if a then 1 else 0)==b
 |.int a,.bl b=>a==(if b then 1 else 0)
 |.int a,.int b=>a==b
 |.str a,.str b=>a==b
 |.lst as,.lst bs=>peqs as bs
 |.tup as,.tup bs=>peqs as bs
 |_,_=>false
noncomputable def peqs:List D->List D->Bool
 |[],[]=>true
 |a::as,b::bs=>peq a b&&peqs as bs
 |_,_=>false
end
mutual
noncomputable def D.flat:Nat->D->Bool
 |0,.tup _=>false
 |0,.lst _=>false
 |n+1,.tup xs=>D.flats n xs
 |n+1,.lst xs=>D.flats n xs
 |_,.dct _=>false
 |_,.obj _ _=>false
 |_,_=>true
noncomputable def D.flats:Nat->List D->Bool
 |_,[]=>true
 |n,a::x=>D.flat n a&&D.flats n x
end
mutual
noncomputable def vxz:Nat->D->Bool
 |_,.non=>true
 |_,.int _=>true
 |_,.str _=>true
 |n+1,.tup xs=>keyDs n xs
 |_,_=>false
noncomputable def keyDs:Nat->List D->Bool
 |_,[]=>true
 |n,a::x=>vxz n a&&keyDs n x
end
inductive Own where
 |no|rt|dp
 deriving DecidableEq
abbrev Sd:=Own×D
abbrev En:=List (Option Sd)
inductive Res (α:Type) where
 |ok (E:En) (a:α)
 |exc (E:En) (c:Str)
abbrev Ev(α:Type):=En->Option (Res α)
abbrev Ex:=Ev Sd
noncomputable def bnd{α β:Type}(m:Option (Res α))(f:En->α->Option (Res β)):Option (Res β):=
 match m with
 |some (.ok E a)=>f E a
 |some (.exc E c)=>some (.exc E c)
 |none=>none
@[simp] theorem wq8 {α β:Type}(E:En)(a:α)(f:En->α->Option (Res β)):bnd (some (.ok E a)) f=f E a:=rfl
@[simp] theorem wjw {α β:Type}(E:En)(c:Str)(f:En->α->Option (Res β)):bnd (some (.exc E c)) f=some (.exc E c):=rfl
@[simp] theorem vz4 {α β:Type}(f:En->α->Option (Res β)):bnd none f=none:=rfl
def val{α:Type}(E:En)(x:Option α):Option (Res α):=x.map (Res.ok E)
@[simp] theorem vxq {α:Type}(E:En)(x:α):val E (some x)=some (.ok E x):=rfl
@[simp] theorem vxr {α:Type}(E:En):val E (none:Option α)=none:=rfl
def cC(d:D):Ex:=λE=>some (.ok E (.dp,d))
noncomputable def cV(i:Nat):Ex:=λE=>match E[i]? with
 |some (some (_,d))=>some (.ok (E.set i (some (.no,d))) (.no,d))
 |_=>none
def cMv(i:Nat):Ex:=λE=>match E[i]? with
 |some (some x)=>some (.ok (E.set i none) x)
 |_=>none
def vV(i:Nat):Ex:=λE=>match E[i]? with
 |some (some x)=>some (.ok E x)
 |_=>none
def vE(c:Ex):Ex:=λE=>bnd (c E) λE x=>some (.ok E (.no,x.2))
abbrev C9(z:Int):Ex:=vE (cC (.int z))
noncomputable def cH(v:Ex):Ex:=λE=>bnd (v E) λE x=>if x.1=.no then some (.ok E (.no,x.2))else if x.2.pure then some (.ok E (.dp,x.2))else none
def cF1(f:Sd->Option Sd)(a:Ex):Ex:=λE=>bnd (a E) λE x=>val E (f x)
def cF2(f:Sd->Sd->Option Sd)(a b:Ex):Ex:=λE=>bnd (a E) λE x=>bnd (b E) λE y=>val E (f x y)
def pu1(f:D->Option D):Sd->Option Sd:=λx=>(f x.2).map λd=>(.dp,d)
def pu2(f:D->D->Option D):Sd->Sd->Option Sd:=λx y=>(f x.2 y.2).map λd=>(.dp,d)
def wq2:D->List D
 |.lst xs=>xs
 |.tup xs=>xs
 |.dct ak=>ak.map (·.2)
 |_=>[]
def qW(x:Sd):Bool:=x.1 != .dp||D.pures (wq2 x.2)
def sub:Own->Own
 |.dp=>.dp
 |_=>.no
noncomputable def ixN(n:Nat)(i:Int):Option Nat:=if 0<=i then(if i<n then some i.toNat else none)else if -(n:Int)<=i then some (i+n).toNat else none
noncomputable def ixD:D->D->Option D
 |.lst xs,.int i=>(ixN xs.length i).bind λj=>xs[j]?
 |.tup xs,.int i=>(ixN xs.length i).bind λj=>xs[j]?
 |.str z,.int i=>(ixN z.cps.size i).bind λj=>(z.cps.toList[j]?).map λc=>.str ⟨#[c]⟩
 |.dct ak,k=>(ak.find? λe=>decide (e.1=k)).map (·.2)
 |_,_=>none
def big:Nat:=16777216
def i2(f:Int->Int->Option Int):D->D->Option D
 |.int a,.int b=>(f a b).map .int
 |_,_=>none
def c2(f:Int->Int->Bool):D->D->Option D
 |.int a,.int b=>some (.bl (f a b))
 |_,_=>none
def V3(a:Int):Bool:=decide (-(2 ^ 64)<a)&&decide (a<2 ^ 64)
noncomputable def j9:Sd->Sd->Option Sd:=λx y=>match x.2,y.2 with
 |.int a,.int b=>some (.dp,.int (a+b))
 |.str a,.str b=>if a.cps.size+b.cps.size<=big then some (.dp,.str (a++b))else none
 |.lst a,.lst b=>if a.length+b.length<=big/\qW x/\qW y then some (.rt,.lst (a++b))else none
 |.tup a,.tup b=>if a.length+b.length<=big/\qW x/\qW y then some (.no,.tup (a++b))else none
 |_,_=>none
def zX(a b:Int):Bool:=V3 a||V3 b||(decide (a.natAbs.log2<2000000)&&decide (b.natAbs.log2<2000000))
noncomputable def xk:Sd->Sd->Option Sd:=λx y=>match x.2,y.2 with
 |.int a,.int b=>if zX a b then some (.dp,.int (a*b))else none
 |.lst a,.int k=>if -(2 ^ 63)<=k/\k<2 ^ 63/\a.length*k.toNat<=big/\qW x then some (.rt,.lst (List.replicate k.toNat a).flatten)else none
 |.str z,.int n=>if(z.cps.size<=1024/\n<=1024/\-1024<=n)/\(Txt.mul z n).cps.size<=big then some (.dp,.str (Txt.mul z n))else none
 |_,_=>none
def K2:D->D->Option D:=i2 λa b=>some (a - b)
def z8:D->D->Option D:=i2 λa b=>if 0<b/\b.natAbs.log2<9000 then some (a / b)else none
def kq:D->D->Option D:=i2 λa b=>if 0<b then some (a % b)else none
def vz3:D->D->Option D:=i2 λa b=>if 0<=b/\b<=1000000/\a.natAbs<2 ^ 64 then some (a ^ b.toNat)else none
def fEq:D->D->Option D:=λa b=>if a.flat 40&&b.flat 40 then some (.bl (peq a b))else none
def isNon:D->Bool
 |.non=>true
 |_=>false
def fLt:D->D->Option D:=c2 λa b=>decide (a<b)
def fLe:D->D->Option D:=c2 λa b=>decide (a<=b)
def fGt:D->D->Option D:=c2 λa b=>decide (b<a)
def fGe:D->D->Option D:=c2 λa b=>decide (b<=a)
def vx1:D->Option D
 |.int a=>some (.int (-a))
 |_=>none
def JV(a b:Str):Bool:=!(Builtin.Str.occurrences b a 0 b.length 1).isEmpty
noncomputable def fIn:D->D->Option D:=λx y=>match y with
 |.lst ys=>if x.flat 30&&D.flats 30 ys then some (.bl (ys.any λz=>peq z x))else none
 |.tup ys=>if x.flat 30&&D.flats 30 ys then some (.bl (ys.any λz=>peq z x))else none
 |.str b=>(match x with
  |.str a=>some (.bl (JV a b))
  |_=>none)
 |.dct ak=>some (.bl (ak.any λe=>decide (e.1=x)))
 |_=>none
noncomputable def kZ:D->Option D
 |.lst xs=>some (.int xs.length)
 |.tup xs=>some (.int xs.length)
 |.str z=>some (.int z.length)
 |_=>none
noncomputable def kind:D->String
 |.non=>"NoneType"
 |.bl _=>"bool"
 |.int _=>"int"
 |.str _=>"str"
 |.tup _=>"tuple"
 |.lst _=>"list"
 |.dct _=>"dict"
 |.obj _ _=>""
def wja(t u:String):Bool:=t==u||(t == "bool" && u == "int")
def k8(u:String):D->Option D:=λd=>match d with
 |.obj _ _=>none
 |.dct _=>none
 |_=>some (.bl (wja (kind d) u))
def fIsNon:D->Option D:=λd=>some (.bl (isNon d))
def fNotNon:D->Option D:=λd=>some (.bl (!isNon d))
abbrev Ts:=Ev Bool
noncomputable def truth:D->Option Bool
 |.bl b=>some b
 |.non=>some false
 |.int i=>some (i != 0)
 |.str z=>some (z.cps.size != 0)
 |.lst xs=>some (!xs.isEmpty)
 |.tup xs=>some (!xs.isEmpty)
 |.dct xs=>some (!xs.isEmpty)
 |.obj _ _=>none
def tE(c:Ex):Ts:=λE=>bnd (c E) λE x=>val E (truth x.2)
def Z8(a b:Ts):Ts:=λE=>bnd (a E) λE x=>if x then b E else some (.ok E false)
def tOr(a b:Ts):Ts:=λE=>bnd (a E) λE x=>if x then some (.ok E true)else b E
def tNot(a:Ts):Ts:=λE=>bnd (a E) λE x=>some (.ok E (!x))
def tYes:Ts:=λE=>some (.ok E true)
def cIf(t:Ts)(a b:Ex):Ex:=λE=>bnd (t E) λE x=>if x then a E else b E
noncomputable def wQ(a b:Ex):Ex:=λE=>bnd (a E) λE x=>match x.2 with
 |.bl true=>b E
 |.bl false=>some (.ok E (.dp,.bl false))
 |_=>none
noncomputable def cOr(a b:Ex):Ex:=λE=>bnd (a E) λE x=>match x.2 with
 |.bl true=>some (.ok E (.dp,.bl true))
 |.bl false=>b E
 |_=>none
def VY:D->D->Option D:=λx y=>match y with
 |.dct _=>none
 |_=>fIn x y
def f2First(f:D->Option D):Sd->Sd->Option Sd:=λx y=>if isNon y.2 then(f x.2).map λd=>(.dp,d)else none
def kJ:D->D->Option D:=λx y=>match x with
 |.dct _=>none
 |_=>ixD x y
def jw(a b:Ex):Ex:=λE=>bnd (a E) λE x=>bnd (b E) λE y=>val E ((kJ x.2 y.2).map λd=>(sub x.1,d))
def truthQ:D->Option Bool:=λd=>match d with
 |.dct _=>none
 |_=>truth d
def tEQ(c:Ex):Ts:=λE=>bnd (c E) λE x=>val E (truthQ x.2)
def qxj(c:Ex):Ex:=λE=>bnd (c E) λE x=>val E ((truthQ x.2).map λk=>(.dp,.bl (!k)))
noncomputable def qY:List Ex->Ev (List Sd)
 |[],E=>some (.ok E [])
 |c::cs,E=>bnd (c E) λE x=>bnd (qY cs E) λE xs=>some (.ok E (x::xs))
def vk(x:Sd):Bool:=x.1 == .dp||x.2.pure
noncomputable def jx(o:Own)(cs:List Ex):Ex:=λE=>bnd (qY cs E) λE xs=>if o=.dp then(if xs.all vk then some (.ok E (.dp,.lst (xs.map (·.2))))else none)else some (.ok E (.rt,.lst (xs.map (·.2))))
noncomputable def jv(o:Own)(cs:List Ex):Ex:=λE=>bnd (qY cs E) λE xs=>if o=.dp then(if xs.all vk then some (.ok E (.dp,.tup (xs.map (·.2))))else none)else some (.ok E (.no,.tup (xs.map (·.2))))
inductive Fl where
 |nx (E:En)|rt (E:En) (x:Sd)|ct (E:En)|bk (E:En)|xc (E:En) (c:Str)
abbrev Sm:=En->Option Fl
noncomputable def ofE{α:Type}(m:Option (Res α))(f:En->α->Option Fl):Option Fl:=
 match m with
 |some (.ok E a)=>f E a
 |some (.exc E c)=>some (.xc E c)
 |none=>none
@[simp] theorem wku {α:Type}(E:En)(a:α)(f:En->α->Option Fl):ofE (some (.ok E a)) f=f E a:=rfl
@[simp] theorem wj4 {α:Type}(E:En)(c:Str)(f:En->α->Option Fl):ofE (some (.exc E c)) f=some (.xc E c):=rfl
@[simp] theorem vxy {α:Type}(f:En->α->Option Fl):ofE none f=none:=rfl
def j6(a b:Sm):Sm:=λE=>match a E with
 |some (.nx E)=>b E
 |r=>r
def vj:Sm:=λE=>some (.nx E)
def jk(i:Nat)(c:Ex):Sm:=λE=>ofE (c E) λE x=>some (.nx (E.set i (some x)))
def jX(c:Ex):Sm:=λE=>ofE (c E) λE x=>some (.rt E x)
def sRetN:Sm:=λE=>some (.rt E (.dp,.non))
def sIf(t:Ts)(a b:Sm):Sm:=λE=>ofE (t E) λE x=>if x then a E else b E
inductive Tg where
 |n (i:Nat)|t (ts:List Nat)
noncomputable def setAll:List Nat->List D->En->Option En
 |[],[],E=>some E
 |i::is,d::ds,E=>setAll is ds (E.set i (some (.no,d)))
 |_,_,_=>none
noncomputable def Tg.put:Tg->D->En->Option En
 |.n i,d,E=>some (E.set i (some (.no,d)))
 |.t is,.tup ds,E=>setAll is ds E
 |.t is,.lst ds,E=>setAll is ds E
 |.t _,_,_=>none
def W0(is:List Nat)(c:Ex):Sm:=λE=>ofE (c E) λE x=>(Tg.put (.t is) x.2 E).map .nx
noncomputable def K7(tg:Tg)(b:Sm):List D->En->Option Fl
 | [],E=>some (.nx E)
 | d::ds,E=>match tg.put d E with
  |none=>none
  |some E=>match b E with
   |some (.nx E)=>K7 tg b ds E
   |some (.ct E)=>K7 tg b ds E
   |some (.bk E)=>some (.nx E)
   |r=>r
def v8(it:Ev (List D))(tg:Tg)(b:Sm):Sm:=λE=>ofE (it E) λE ds=>K7 tg b ds E
def at'{α:Type}(L:List (Option α))(j:Nat):Option α:=(L[j]?).join
def clr{α:Type}:List Nat->List (Option α)->List (Option α)
 |[],L=>L
 |j::R,L=>clr R (L.set j none)
noncomputable def back{α:Type}:List Nat->List (Option α)->List (Option α)->List (Option α)
 |j::R,q::B,L=>back R B (L.set j q)
 |_,_,L=>L
def V9(k:Nat)(R:List Nat)(E:En):En:=List.replicate k none++R.map (at' E)
def VQ(k:Nat)(R:List Nat)(B E:En):En:=back R (B.drop k) (clr R E)
noncomputable def lcL(tg:Tg)(t:Ts)(c:Ex):List D->En->List Sd->Option (Res (List Sd))
 |[],B,ae=>some (.ok B ae)
 |d::ds,B,ae=>match tg.put d B with
  |none=>none
  |some B=>bnd (t B) λB x=>if x then bnd (c B) λB y=>lcL tg t c ds B (ae++[y])else lcL tg t c ds B ae
noncomputable def mkL(o:Own)(E:En)(xs:List Sd):Option (Res Sd):=
 if o=.dp then(if xs.all vk then some (.ok E (.dp,.lst (xs.map (·.2))))else none)else some (.ok E (.rt,.lst (xs.map (·.2))))
noncomputable def cLC(o:Own)(k:Nat)(R:List Nat)(it:Ev (List D))(tg:Tg)(t:Ts)(c:Ex):Ex:=λE=>bnd (it E) λE ds=>
 match lcL tg t c ds (V9 k R E) []with
 |some (.ok B xs)=>mkL o (VQ k R B E) xs
 |some (.exc B e)=>some (.exc (VQ k R B E) e)
 |none=>none
def Jj:Option (Option Sd)->Bool
 |some (some (_,.lst _))=>true
 |_=>false
noncomputable def qZ(f:List D->D->Option (List D))(i:Nat)(c:Ex):Sm:=λE=>if Jj E[i]? then ofE (c E) λE x=>match E[i]? with
 |some (some (o,.lst xs))=>if o=.no then none else(match f xs x.2 with
  |some ys=>some (.nx (E.set i (some (if o=.dp/\vk x then .dp else .rt,.lst ys))))
  |none=>none)
 |_=>none
 else none
def v4:List D->D->Option (List D):=λxs d=>if xs.length<big then some (xs++[d])else none
noncomputable def xJ:D->Option D
 |.int i=>some (.int i)
 |.bl k=>some (.int (if k then 1 else 0))
 |.str z=>if z.length<=640 then(PySem.intText? z).map .int else none
 |_=>none
noncomputable def K4:Sd->Option Sd:=λx=>match x.2 with
 |.lst xs=>if qW x then some (.rt,.lst xs)else none
 |.tup xs=>if qW x then some (.rt,.lst xs)else none
 |_=>none
noncomputable def J7:Sd->Option Sd:=λx=>match x.2 with
 |.lst xs=>if qW x then some (.no,.tup xs)else none
 |.tup xs=>if qW x then some (.no,.tup xs)else none
 |_=>none
def bls:List D->Option (List Bool)
 |[]=>some []
 |.bl b::ds=>(bls ds).map (b :: ·)
 |_=>none
def J8:D->Option D
 |.lst ds=>(bls ds).map λbs=>.bl (bs.all id)
 |_=>none
noncomputable def seqOf:D->Option (List D)
 |.lst xs=>some xs
 |.tup xs=>some xs
 |.str z=>if z.cps.size<=big then some (z.cps.toList.map λc=>.str ⟨#[c]⟩)else none
 |_=>none
def itS(c:Ex):Ev (List D):=λE=>bnd (c E) λE x=>val E (seqOf x.2)
def v7(i:Int):Bool:=decide (-(2 ^ 62)<=i)&&decide (i<2 ^ 62)
def k9(lo hi:Int):List D:=(List.range (hi - lo).toNat).map λ(k:Nat)=>.int (lo+(k:Int))
noncomputable def wx(c:Ex):Ev (List D):=λE=>bnd (c E) λE x=>match x.2 with
 |.int j=>if v7 j/\j.toNat<=big then some (.ok E (k9 0 j))else none
 |_=>none
noncomputable def vz0(c d:Ex):Ev (List D):=λE=>bnd (c E) λE x=>bnd (d E) λE y=>match x.2,y.2 with
 |.int i,.int j=>if v7 i/\v7 j/\(j - i).toNat<=big then some (.ok E (k9 i j))else none
 |_,_=>none
noncomputable def W7(c:Ex):Ex:=λE=>bnd (c E) λE x=>match x.2 with
 |.int j=>if v7 j/\j.toNat<=big then some (.ok E (.rt,.lst (k9 0 j)))else none
 |_=>none
abbrev Fn:=List Sd->Option (Res Sd)
noncomputable def fn(n:Nat)(b:Sm):Fn:=λxs=>match b (xs.map some++List.replicate (n - xs.length) none)with
 |some (.rt E x)=>some (.ok E x)
 |some (.nx E)=>some (.ok E (.dp,.non))
 |some (.xc E c)=>some (.exc E c)
 |_=>none
def letAll(xs:List Sd):List Sd:=xs.map λx=>(.no,x.2)
noncomputable def jJ(f:Fn)(cs:List Ex):Ex:=λE=>bnd (qY cs E) λE xs=>match f (letAll xs)with
 |some (.ok _ y)=>some (.ok E y)
 |some (.exc _ c)=>some (.exc E c)
 |none=>none
end Q
namespace Q
open PySem PySem.Spec PyProof.Rows L2 L3
mutual
noncomputable def vwv(w:PySem.World):D->Int
 |.int i=>hashInt i
 |.str z=>hashStr w z
 |.tup xs=>reduceHash (Builtin.Tuple.tupleHashOf (hashDs w xs))
 |_=>4238894112
noncomputable def hashDs(w:PySem.World):List D->List Int
 |[]=>[]
 |a::x=>vwv w a::hashDs w x
end
def Kd:Type:={ d:D // vxz 6 d=true }
instance:DecidableEq Kd:=λa b=>Classical.propDecidable (a=b)
abbrev Ent:=Kd×Addr×Value
noncomputable def XZ(a:Addr)(es:List Ent)(ep:Nat):HO:=.ext λw h=>∃o ds,h.get? a=some o/\o.ExactDict/\o.data=.dict ds ep/\ds.toList=es.map λx=>(⟨vwv w x.1.1,.ref x.2.1,x.2.2⟩:DictEntry)
mutual
noncomputable def PuR(K:PySem.W.Frag)(H:Hp):D->V->Prop
 |.non,v=>v=.non
 |.int i,v=>v=.int i
 |.str z,v=>v=.str z/\z.length<=sizeLine
 |.tup ds,v=>∃a xs,v=.ref a/\SqT K H a xs/\PuRs K H ds xs
 |_,_=>False
noncomputable def PuRs(K:PySem.W.Frag)(H:Hp):List D->List V->Prop
 |[],xs=>xs=[]
 |d::ds,xs=>∃x r,xs=x::r/\PuR K H d x/\PuRs K H ds r
end
noncomputable def DcN(K:PySem.W.Frag)(H:Hp)(a:Addr)(ks:List D)(vs:List V):Prop:=∃(es:List Ent) (ep:Nat),H a=some (XZ a es ep)/\(a==sysModules)=false/\es.length<=sizeLine/\(es.map (·.1)).Nodup/\ks=es.map (·.1.1)/\(∀x∈es,PuR K H x.1.1 (.ref x.2.1))/\Vals vs (es.map (·.2.2))
noncomputable def DcI(H:Hp)(a:Addr)(ks:List D)(vs:List V):Prop:=∃(kv:List (Int×V)) (m:Str),H a=some (.dK (kv.map λp=>(Sum.inl p.1,p.2)))/\ks=.str m::kv.map (λp=>D.int p.1)/\vs=.non::kv.map (·.2)
def DcA(K:PySem.W.Frag)(H:Hp)(a:Addr)(ks:List D)(vs:List V):Prop:=DcN K H a ks vs\/DcI H a ks vs
noncomputable def wqe(K:PySem.W.Frag)(a:Addr)(xs:List V):Prop:=∃(aa:Array Value) (n:Nat),K.lookup a=some { cls:=.type "list",data:=.seq aa n }/\aa.size<=sizeLine/\Vals xs aa.toList
def vxn(K:PySem.W.Frag)(H:Hp)(a:Addr)(xs:List V):Prop:=(∃o,H a=some (.frz o (.lst xs)))\/wqe K a xs
def LsR(K:PySem.W.Frag)(H:Hp)(a:Addr)(xs:List V):Prop:=Rd H a (.lst xs)\/wqe K a xs
theorem LsR.of{K:PySem.W.Frag}{H:Hp}{a:Addr}{xs:List V}(h:vxn K H a xs):LsR K H a xs:=h.imp .inr id
theorem LsR.sq{K:PySem.W.Frag}{H:Hp}{a:Addr}{xs:List V}(h:LsR K H a xs):SqL K H a xs:=by
 rcases h with h|⟨aa,n,h1,h2,h3⟩
 ·exact .inl h
 ·exact .inr ⟨_,aa,n,h1,rfl,rfl,rfl,h2,h3⟩
theorem LsR.is{X:Cx}{pins:List (Addr×Obj)}{σ:L2.St}{H:Hp}{s:Shared}{a:Addr}{xs:List V}(I:L2.Inv X pins σ H s)(h:LsR X.K H a xs):xs.length<=sizeLine/\∃(aa:List Value) (n:Nat),Vals xs aa/\s.heap.get? a=some { cls:=.type "list",data:=.seq aa.toArray n }:=by
 rcases h with h|⟨aa,n,h1,h2,h3⟩
 ·obtain⟨z,aa,n,r,e⟩:=h.ok I.hok;exact⟨z,aa,n,r,e⟩
 ·have hl:=h3.length;simp only[Xp]at hl;exact⟨by lia,aa.toList,n,h3,by simpa using I.kIn a _ h1⟩
noncomputable def ExD(K:PySem.W.Frag)(H:Hp)(c:Str)(v:V):Prop:=∃x o C,v=.ref x/\H x=some (.frz o (.ext λ_ _=>True))/\ExAt K x o C/\PySem.W.nsIn K mainGlobals c=some (some (.ref C))
mutual
noncomputable def RepL(K:PySem.W.Frag)(H:Hp)(g:Bool):D->V->List Addr->Prop
 |.non,v,as=>v=.non/\as=[]
 |.bl b,v,as=>v=.bl b/\as=[]
 |.int i,v,as=>v=.int i/\as=[]
 |.str z,v,as=>v=.str z/\as=[]/\z.length<=sizeLine
 |.tup ds,v,as=>∃a xs,v=.ref a/\SqT K H a xs/\RepA K H g ds xs as
 |.lst ds,v,as=>∃a xs bs,v=.ref a/\RepA K H g ds xs bs/\((H a=some (.lst xs)/\as=a::bs)\/(g=true/\vxn K H a xs/\as=bs))
 |.dct ak,v,as=>∃a xs bs,v=.ref a/\RepP K H g ak xs bs/\DcA K H a (ak.map (·.1)) xs/\as=a::bs
 |.obj c _,v,as=>as=[]/\ExD K H c v
noncomputable def RepA(K:PySem.W.Frag)(H:Hp)(g:Bool):List D->List V->List Addr->Prop
 |[],xs,as=>xs=[]/\as=[]
 |d::ds,xs,as=>∃x r bs cs,xs=x::r/\as=bs++cs/\RepL K H g d x bs/\RepA K H g ds r cs
noncomputable def RepP(K:PySem.W.Frag)(H:Hp)(g:Bool):List (D×D)->List V->List Addr->Prop
 |[],xs,as=>xs=[]/\as=[]
 |(_,d)::ds,xs,as=>∃x r bs cs,xs=x::r/\as=bs++cs/\RepL K H g d x bs/\RepP K H g ds r cs
end
noncomputable def RepR(K:PySem.W.Frag)(H:Hp):D->V->List Addr->Prop
 |.lst ds,v,as=>∃a xs bs,v=.ref a/\RepA K H true ds xs bs/\H a=some (.lst xs)/\as=a::bs
 |.dct ak,v,as=>∃a xs bs,v=.ref a/\RepP K H true ak xs bs/\DcA K H a (ak.map (·.1)) xs/\as=a::bs
 |_,_,_=>False
noncomputable def RepO(K:PySem.W.Frag)(H:Hp):Own->D->V->List Addr->Prop
 |.no=>RepL K H true
 |.rt=>RepR K H
 |.dp=>RepL K H false
section
variable {K:PySem.W.Frag}{H H':Hp}
noncomputable def Kp(H H':Hp)(as:List Addr):Prop:=(∀a xs,H a=some (.tup xs)->H' a=some (.tup xs))/\(∀a o u,H a=some (.frz o u)->H' a=some (.frz o u))/\∀a∈as,∀ob,H a=some ob->H' a=some ob
theorem Kp.left{as bs:List Addr}(k:Kp H H' (as++bs)):Kp H H' as:=⟨k.1,k.2.1,λa ha=>k.2.2 a (ll9 _ ha)⟩
theorem Kp.right{as bs:List Addr}(k:Kp H H' (as++bs)):Kp H H' bs:=⟨k.1,k.2.1,λa ha=>k.2.2 a (lr9 _ ha)⟩
theorem Kp.tail{a:Addr}{bs:List Addr}(k:Kp H H' (a::bs)):Kp H H' bs:=⟨k.1,k.2.1,λb hb=>k.2.2 b (lc9 _ hb)⟩
theorem Kp.tupT{as:List Addr}{a:Addr}{xs:List V}(k:Kp H H' as)(h:SqT K H a xs):SqT K H' a xs:=by
 rcases h with(h|⟨o,h⟩)|h
 ·exact .inl (.inl (k.1 a xs h))
 ·exact .inl (.inr ⟨o,k.2.1 a o _ h⟩)
 ·exact .inr h
theorem Kp.frzL{as:List Addr}{a:Addr}{xs:List V}(k:Kp H H' as)(h:vxn K H a xs):vxn K H' a xs:=by
 rcases h with⟨o,h⟩|h
 ·exact .inl ⟨o,k.2.1 a o _ h⟩
 ·exact .inr h
mutual
theorem PuR.kp{as:List Addr}(k:Kp H H' as):∀{d:D} {v:V},PuR K H d v->PuR K H' d v
 |.non,_,h=>by unfold PuR at h ⊢;exact h
 |.int _,_,h=>by unfold PuR at h ⊢;exact h
 |.tup ds,_,h=>by
  unfold PuR at h ⊢;obtain⟨a,xs,e,s,r⟩:=h;exact⟨a,xs,e,k.tupT s,PuRs.kp k r⟩
 |.bl _,_,h=>by unfold PuR at h;exact h.elim
 |.str _,_,h=>by unfold PuR at h ⊢;exact h
 |.lst _,_,h=>by unfold PuR at h;exact h.elim
 |.dct _,_,h=>by unfold PuR at h;exact h.elim
 |.obj _ _,_,h=>by unfold PuR at h;exact h.elim
theorem PuRs.kp{as:List Addr}(k:Kp H H' as):∀{ds:List D} {xs:List V},PuRs K H ds xs->PuRs K H' ds xs
 |[],_,h=>by unfold PuRs at h ⊢;exact h
 |d::ds,_,h=>by
  unfold PuRs at h ⊢;obtain⟨x,r,e,h1,h2⟩:=h;exact⟨x,r,e,PuR.kp k h1,PuRs.kp k h2⟩
end
theorem Kp.dcn{a:Addr}{bs:List Addr}{ks:List D}{vs:List V}(k:Kp H H' (a::bs))(h:DcN K H a ks vs):DcN K H' a ks vs:=by
 obtain⟨es,ep,e,h1,h2,h3,h4,h5,h6⟩:=h;exact⟨es,ep,k.2.2 a X3 _ e,h1,h2,h3,h4,λx hx=>PuR.kp k (h5 x hx),h6⟩
theorem Kp.dca{a:Addr}{bs:List Addr}{ks:List D}{vs:List V}(k:Kp H H' (a::bs))(h:DcA K H a ks vs):DcA K H' a ks vs:=by
 rcases h with h|⟨kv,m,e,h⟩
 ·exact .inl (k.dcn h)
 ·exact .inr ⟨kv,m,k.2.2 a X3 _ e,h⟩
theorem Kp.of_same{as:List Addr}(s:kj H H'):Kp H H' as:=⟨λa xs h=>s a _ h,λa o u h=>s a _ h,λa _ ob h=>s a ob h⟩
mutual
theorem RepL.kp{g:Bool}:∀{d:D} {v:V} {as:List Addr},RepL K H g d v as->Kp H H' as->RepL K H' g d v as
 | .non,_,_,h,_=>by unfold RepL at h ⊢;exact h
 | .bl _,_,_,h,_=>by unfold RepL at h ⊢;exact h
 | .int _,_,_,h,_=>by unfold RepL at h ⊢;exact h
 | .str _,_,_,h,_=>by unfold RepL at h ⊢;exact h
 | .tup ds,_,_,h,k=>by
  unfold RepL at h ⊢;obtain⟨a,xs,e,s,r⟩:=h;exact⟨a,xs,e,k.tupT s,RepA.kp r k⟩
 | .lst ds,_,_,h,k=>by
  unfold RepL at h ⊢;obtain⟨a,xs,bs,e,r,q⟩:=h;refine⟨a,xs,bs,e,?_,?_⟩
  ·rcases q with⟨_,rfl⟩|⟨_,_,rfl⟩
   ·exact RepA.kp r k.tail
   ·exact RepA.kp r k
  ·rcases q with⟨h1,rfl⟩|⟨hg,h1,rfl⟩
   ·exact .inl ⟨k.2.2 a X3 _ h1,rfl⟩
   ·exact .inr ⟨hg,k.frzL h1,rfl⟩
 |.dct ak,_,_,h,k=>by
  unfold RepL at h ⊢;obtain⟨a,xs,bs,e,r,q,rfl⟩:=h;exact⟨a,xs,bs,e,RepP.kp r k.tail,k.dca q,rfl⟩
 |.obj _ _,_,_,h,k=>by
  unfold RepL at h ⊢;obtain⟨e,x,o,C,h1,h2,h3⟩:=h;exact⟨e,x,o,C,h1,k.2.1 _ _ _ h2,h3⟩
theorem RepA.kp{g:Bool}:∀{ds:List D} {xs:List V} {as:List Addr},RepA K H g ds xs as->Kp H H' as->RepA K H' g ds xs as
 |[],_,_,h,_=>by unfold RepA at h ⊢;exact h
 |d::ds,_,_,h,k=>by
  unfold RepA at h ⊢;obtain⟨x,r,bs,cs,e1,rfl,h1,h2⟩:=h;exact⟨x,r,bs,cs,e1,rfl,RepL.kp h1 k.left,RepA.kp h2 k.right⟩
theorem RepP.kp{g : Bool}: ∀{ds : List (D × D)} {xs : List V} {as : List Addr}, RepP K H g ds xs as -> Kp H H' as -> RepP K H' g ds xs as
  | [], _, _, h, _=>by unfold RepP at h ⊢; exact h
  | (q, d)::ds, _, _, h, k=>by
    unfold RepP at h ⊢;obtain⟨x, r, bs, cs, e1, rfl, h1, h2⟩:= h;exact⟨x, r, bs, cs, e1, rfl, RepL.kp h1 k.left, RepP.kp h2 k.right⟩
end
mutual
theorem RepL.wk:∀{d:D} {v:V} {as:List Addr},RepL K H false d v as->RepL K H true d v as
 |.non,_,_,h=>by unfold RepL at h ⊢;exact h
 |.bl _,_,_,h=>by unfold RepL at h ⊢;exact h
 |.int _,_,_,h=>by unfold RepL at h ⊢;exact h
 |.str _,_,_,h=>by unfold RepL at h ⊢;exact h
 |.tup ds,_,_,h=>by
  unfold RepL at h ⊢;obtain⟨a,xs,e,s,r⟩:=h;exact⟨a,xs,e,s,RepA.wk r⟩
 |.lst ds,_,_,h=>by
  unfold RepL at h ⊢;obtain⟨a,xs,bs,e,r,q⟩:=h;refine⟨a,xs,bs,e,RepA.wk r,?_⟩;rcases q with q|⟨z,_⟩
  ·exact .inl q
  ·cases z
 |.dct ak,_,_,h=>by
  unfold RepL at h ⊢;obtain⟨a,xs,bs,e,r,q,z⟩:=h;exact⟨a,xs,bs,e,RepP.wk r,q,z⟩
 |.obj _ _,_,_,h=>by unfold RepL at h ⊢;exact h
theorem RepA.wk:∀{ds:List D} {xs:List V} {as:List Addr},RepA K H false ds xs as->RepA K H true ds xs as
 |[],_,_,h=>by unfold RepA at h ⊢;exact h
 |d::ds,_,_,h=>by
  unfold RepA at h ⊢;obtain⟨x,r,bs,cs,e1,e2,h1,h2⟩:=h;exact⟨x,r,bs,cs,e1,e2,RepL.wk h1,RepA.wk h2⟩
theorem RepP.wk : ∀{ds : List (D × D)} {xs : List V} {as : List Addr}, RepP K H false ds xs as -> RepP K H true ds xs as
  | [], _, _, h=>by unfold RepP at h ⊢; exact h
  | (q, d)::ds, _, _, h=>by
    unfold RepP at h ⊢;obtain⟨x, r, bs, cs, e1, e2, h1, h2⟩:= h;exact⟨x, r, bs, cs, e1, e2, RepL.wk h1, RepP.wk h2⟩
end
mutual
theorem RepL.al{g:Bool}:∀{d:D} {v:V} {as:List Addr},RepL K H g d v as->∀a∈as,(∃xs,H a=some (.lst xs))\/(∃ φ,H a=some (.ext φ))\/∃ak,H a=some (.dK ak)
 | .non,_,_,h=>by unfold RepL at h;rw[h.2];exact λ_ z=>nomatch z
 | .bl _,_,_,h=>by unfold RepL at h;rw[h.2];exact λ_ z=>nomatch z
 | .int _,_,_,h=>by unfold RepL at h;rw[h.2];exact λ_ z=>nomatch z
 | .str _,_,_,h=>by unfold RepL at h;rw[h.2.1];exact λ_ z=>nomatch z
 | .tup ds,_,_,h=>by
  unfold RepL at h;obtain⟨a,xs,e,s,r⟩:=h;exact RepA.al r
 | .lst ds,_,_,h=>by
  unfold RepL at h;obtain⟨a,xs,bs,e,r,q⟩:=h;rcases q with⟨h1,rfl⟩|⟨_,_,rfl⟩
  ·intro b hb;rcases List.mem_cons.mp hb with rfl|hb
   ·exact .inl ⟨_,h1⟩
   ·exact RepA.al r b hb
  ·exact RepA.al r
 | .dct ak,_,_,h=>by
  unfold RepL at h;obtain⟨a,xs,bs,e,r,q,rfl⟩:=h;intro b hb;rcases List.mem_cons.mp hb with rfl|hb
  ·rcases q with⟨es,ep,q,_⟩|⟨kv,m,q,_⟩
   ·exact .inr (.inl ⟨_,q⟩)
   ·exact .inr (.inr ⟨_,q⟩)
  ·exact RepP.al r b hb
 |.obj _ _,_,_,h=>by unfold RepL at h;rw[h.1];exact λ_ z=>nomatch z
theorem RepA.al{g:Bool}:∀{ds:List D} {xs:List V} {as:List Addr},RepA K H g ds xs as->∀a∈as,(∃xs,H a=some (.lst xs))\/(∃ φ,H a=some (.ext φ))\/∃ak,H a=some (.dK ak)
 |[],_,_,h=>by unfold RepA at h;rw[h.2];exact λ_ z=>nomatch z
 |d::ds,_,_,h=>by
  unfold RepA at h;obtain⟨x,r,bs,cs,e1,rfl,h1,h2⟩:=h;intro a ha;rcases List.mem_append.mp ha with ha|ha
  ·exact RepL.al h1 a ha
  ·exact RepA.al h2 a ha
theorem RepP.al{g : Bool}: ∀{ds : List (D × D)} {xs : List V} {as : List Addr}, RepP K H g ds xs as -> ∀a ∈ as, (∃xs, H a = some (.lst xs)) \/ (∃ φ, H a = some (.ext φ)) \/ ∃ak, H a = some (.dK ak)
  | [], _, _, h=>by unfold RepP at h; rw[h.2]; exact λ_ z=>nomatch z
  | (_, d)::ds, _, _, h=>by
    unfold RepP at h;obtain⟨x, r, bs, cs, e1, rfl, h1, h2⟩:= h;intro a ha;rcases List.mem_append.mp ha with ha|ha
    · exact RepL.al h1 a ha
    · exact RepP.al h2 a ha
end
mutual
theorem RepL.pu{g g':Bool}:∀{d:D} {v:V} {as:List Addr},RepL K H g d v as->d.pure=true->as=[]/\RepL K H g' d v []
 |.non,_,_,h,_=>by unfold RepL at h ⊢;exact⟨h.2,h.1,rfl⟩
 |.bl _,_,_,h,_=>by unfold RepL at h ⊢;exact⟨h.2,h.1,rfl⟩
 |.int _,_,_,h,_=>by unfold RepL at h ⊢;exact⟨h.2,h.1,rfl⟩
 |.str _,_,_,h,_=>by unfold RepL at h ⊢;exact⟨h.2.1,h.1,rfl,h.2.2⟩
 |.tup ds,_,_,h,p=>by
  unfold RepL at h ⊢;obtain⟨a,xs,e,s,r⟩:=h;obtain⟨z,r'⟩:=RepA.pu (g':=g') r (by unfold D.pure at p;exact p);exact⟨z,a,xs,e,s,r'⟩
 |.lst ds,_,_,h,p=>by unfold D.pure at p;cases p
 |.dct ds,_,_,h,p=>by unfold D.pure at p;cases p
 |.obj _ _,_,_,h,p=>by unfold D.pure at p;cases p
theorem RepA.pu{g g':Bool}:∀{ds:List D} {xs:List V} {as:List Addr},RepA K H g ds xs as->D.pures ds=true->as=[]/\RepA K H g' ds xs []
 |[],_,_,h,_=>by unfold RepA at h ⊢;exact⟨h.2,h.1,rfl⟩
 |d::ds,_,_,h,p=>by
  unfold RepA at h ⊢;unfold D.pures at p;rw[Bool.and_eq_true]at p;obtain⟨x,r,bs,cs,e1,rfl,h1,h2⟩:=h;obtain⟨rfl,q1⟩:=RepL.pu (g':=g') h1 p.1;obtain⟨rfl,q2⟩:=RepA.pu (g':=g') h2 p.2;exact⟨rfl,x,r,[],[],e1,rfl,q1,q2⟩
end
theorem RepR.wk:∀{d:D} {v:V} {as:List Addr},RepR K H d v as->RepL K H true d v as
 |.lst ds,_,_,h=>by
  obtain⟨a,xs,bs,e,r,q,z⟩:=h;unfold RepL;exact⟨a,xs,bs,e,r,.inl ⟨q,z⟩⟩
 |.dct ak,_,_,h=>by
  obtain⟨a,xs,bs,e,r,q,z⟩:=h;unfold RepL;exact⟨a,xs,bs,e,r,q,z⟩
theorem RepR.kp:∀{d:D} {v:V} {as:List Addr},RepR K H d v as->Kp H H' as->RepR K H' d v as
 |.lst ds,_,_,h,k=>by
  obtain⟨a,xs,bs,e,r,q,rfl⟩:=h;exact⟨a,xs,bs,e,r.kp k.tail,k.2.2 a X3 _ q,rfl⟩
 |.dct ak,_,_,h,k=>by
  obtain⟨a,xs,bs,e,r,q,rfl⟩:=h;exact⟨a,xs,bs,e,r.kp k.tail,k.dca q,rfl⟩
theorem RepO.wk:∀{o:Own} {d:D} {v:V} {as:List Addr},RepO K H o d v as->RepL K H true d v as
 |.no,_,_,_,h=>h
 |.rt,_,_,_,h=>RepR.wk h
 |.dp,_,_,_,h=>RepL.wk h
theorem RepO.kp:∀{o:Own} {d:D} {v:V} {as:List Addr},RepO K H o d v as->Kp H H' as->RepO K H' o d v as
 |.no,_,_,_,h,k=>RepL.kp h k
 |.rt,_,_,_,h,k=>RepR.kp h k
 |.dp,_,_,_,h,k=>RepL.kp h k
end
structure Sl where
 o:Own
 d:D
 v:V
 as:List Addr
def Sl.own(x:Sl):List Addr:=match x.o with
 |.no=>[]
 |.rt=>x.as.take 1
 |.dp=>x.as
def Sl.frz(x:Sl):List Addr:=match x.o with
 |.no=>x.as
 |.rt=>x.as.drop 1
 |.dp=>[]
theorem Sl.parts(x:Sl):x.own++x.frz=x.as:=by
 unfold Sl.own Sl.frz;cases x.o with
 |no=>rfl
 |rt=>exact List.take_append_drop 1 x.as
 |dp=>exact Y0 _
theorem Sl.own_as{x:Sl}{a:Addr}(h:a∈x.own):a∈x.as:=by rw[<-x.parts];exact ll9 _ h
theorem Sl.frz_as{x:Sl}{a:Addr}(h:a∈x.frz):a∈x.as:=by rw[<-x.parts];exact lr9 _ h
theorem Sl.as_of{x:Sl}{a:Addr}(h:a∈x.as):a∈x.own\/a∈x.frz:=by rw[<-x.parts]at h;exact List.mem_append.mp h
def Sl.let(x:Sl):Sl:={ x with o:=.no }
abbrev Ls:=List (Option Sl)
def j7(L:Ls):List Addr:=L.flatMap λx=>x.elim [] Sl.own
def jW(L:Ls):List Addr:=L.flatMap λx=>x.elim [] Sl.frz
@[simp] theorem qq1:j7 []=[]:=rfl
@[simp] theorem vks:jW []=[]:=rfl
@[simp] theorem jK (x:Sl)(L:Ls):j7 (some x::L)=x.own++j7 L:=by simp[j7]
@[simp] theorem qJ (x:Sl)(L:Ls):jW (some x::L)=x.frz++jW L:=by simp[jW]
@[simp] theorem kkq (L:Ls):j7 (none::L)=j7 L:=by simp[j7]
@[simp] theorem kx7 (L:Ls):jW (none::L)=jW L:=by simp[jW]
@[simp] theorem k3 (L T:Ls):j7 (L++T)=j7 L++j7 T:=by simp[j7]
@[simp] theorem qv (L T:Ls):jW (L++T)=jW L++jW T:=by simp[jW]
theorem mem_owned{L:Ls}{a:Addr}:a∈j7 L↔∃x,some x∈L/\a∈x.own:=by
 unfold j7;rw[List.mem_flatMap];constructor
 ·rintro ⟨y,hy,h⟩;cases y with
  |none=>exact nomatch h
  |some x=>exact⟨x,hy,h⟩
 ·rintro ⟨x,hx,h⟩;exact⟨some x,hx,h⟩
theorem mem_frozen{L:Ls}{a:Addr}:a∈jW L↔∃x,some x∈L/\a∈x.frz:=by
 unfold jW;rw[List.mem_flatMap];constructor
 ·rintro ⟨y,hy,h⟩;cases y with
  |none=>exact nomatch h
  |some x=>exact⟨x,hy,h⟩
 ·rintro ⟨x,hx,h⟩;exact⟨some x,hx,h⟩
def Sl.ok(K:PySem.W.Frag)(H:Hp)(x:Sl):Prop:=RepO K H x.o x.d x.v x.as
theorem Sl.ok.al{K:PySem.W.Frag}{H:Hp}{x:Sl}(h:x.ok K H):∀a∈x.as,(∃xs,H a=some (.lst xs))\/(∃ φ,H a=some (.ext φ))\/∃ak,H a=some (.dK ak):=(RepO.wk h).al
theorem Sl.ok.some{K:PySem.W.Frag}{H:Hp}{x:Sl}(h:x.ok K H){a:Addr}(ha:a∈x.as):H a≠none:=λz=>by
 rcases h.al a ha with⟨xs,e⟩|⟨xs,e⟩|⟨xs,e⟩<;>(rw[z]at e;cases e)
structure World (K:PySem.W.Frag)(H:Hp)(L:Ls):Prop where
 ok:∀x,some x∈L->x.ok K H
 nd:(j7 L).Nodup
 ds:∀a∈j7 L,a∉jW L
structure Step (H:Hp)(L:Ls)(H':Hp)(L':Ls):Prop where
 keep:∀a ob,H a=some ob->a∉j7 L->H' a=some ob
 own:∀a∈j7 L',a∈j7 L\/H a=none
 frz:∀a∈jW L',a∈jW L\/a∈j7 L\/H a=none
section
variable {K:PySem.W.Frag}{H H1 H2 H':Hp}{L L1 L2' L' T:Ls}{x y:Sl}
theorem World.own_al(w:World K H L){a:Addr}(h:a∈j7 L):(∃xs,H a=some (.lst xs))\/(∃ φ,H a=some (.ext φ))\/∃ak,H a=some (.dK ak):=by
 obtain⟨x,hx,ha⟩:=mem_owned.mp h;exact(w.ok x hx).al a (Sl.own_as ha)
theorem World.own_some(w:World K H L){a:Addr}(h:a∈j7 L):H a≠none:=by
 obtain⟨x,hx,ha⟩:=mem_owned.mp h;exact(w.ok x hx).some (Sl.own_as ha)
theorem World.frz_some(w:World K H L){a:Addr}(h:a∈jW L):H a≠none:=by
 obtain⟨x,hx,ha⟩:=mem_frozen.mp h;exact(w.ok x hx).some (Sl.frz_as ha)
theorem Step.refl:Step H L H L:=⟨λ_ _ h _=>h,λ_ h=>.inl h,λ_ h=>.inl h⟩
theorem Step.trans(a:Step H L H1 L1)(b:Step H1 L1 H2 L2'):Step H L H2 L2' where
 keep:=λc ob h hn=>b.keep c ob (a.keep c ob h hn) λz=>(a.own c z).elim hn λe=>by rw[h]at e;cases e
 own:=λc hc=>by
  rcases b.own c hc with z|z
  ·exact a.own c z
  ·by_cases h:c∈j7 L
   ·exact .inl h
   ·refine .inr ?_;cases e:H c with
    |none=>rfl
    |some ob=>rw[a.keep c ob e h]at z;cases z
 frz:=λc hc=>by
  rcases b.frz c hc with z|z|z
  ·exact a.frz c z
  ·exact .inr (a.own c z)
  ·by_cases h:c∈j7 L
   ·exact .inr (.inl h)
   ·refine .inr (.inr ?_);cases e:H c with
    |none=>rfl
    |some ob=>rw[a.keep c ob e h]at z;cases z
theorem Step.kp(a:Step H L H' L')(w:World K H L){as:List Addr}(h:∀b∈as,b∉j7 L):Kp H H' as:=by
 have no:∀b ob,H b=some ob->(∀xs,ob≠.lst xs)->(∀ φ,ob≠.ext φ)->(∀ak,ob≠.dK ak)->H' b=some ob:=λb ob e h1 h2 h3=>a.keep b ob e λz=>by
  rcases w.own_al z with⟨xs,q⟩|⟨es,q⟩|⟨es,q⟩
  ·rw[e]at q;cases q;exact h1 _ rfl
  ·rw[e]at q;cases q;exact h2 _ rfl
  ·rw[e]at q;cases q;exact h3 _ rfl
 exact⟨λb xs e=>no b _ e (λ_ z=>(nomatch z)) (λ_ z=>(nomatch z)) (λ_ z=>(nomatch z)),λb o u e=>no b _ e (λ_ z=>(nomatch z)) (λ_ z=>(nomatch z)) (λ_ z=>(nomatch z)),λb hb ob e=>a.keep b ob e (h b hb)⟩
theorem Step.frame(a:Step H L H' L')(w:World K H (L++T))(w':World K H' L')(wL:World K H L):World K H' (L'++T):=by
 have nd:=w.nd;rw [k3,Xa]at nd;have dis:∀b∈j7 L,b∉j7 T:=λb hb hT=>nd.2.2 b hb b hT rfl
 have okT:∀x,some x∈T->x.ok K H:=λx hx=>w.ok x (lr9 _ hx)
 have nT:∀x,some x∈T->∀b∈x.as,b∉j7 L:=λx hx b hb hL=>by
  rcases Sl.as_of hb with z|z
  ·exact dis b hL (mem_owned.mpr ⟨x,hx,z⟩)
  ·refine w.ds b (by rw[k3];exact ll9 _ hL) ?_;rw[qv];exact lr9 _ (mem_frozen.mpr ⟨x,hx,z⟩)
 refine⟨λx hx=>?_,?_,λb hb=>?_⟩
 ·rcases List.mem_append.mp hx with hx|hx
  ·exact w'.ok x hx
  ·exact(okT x hx).kp (a.kp wL (nT x hx))
 ·rw[k3,Xa];refine⟨w'.nd,nd.2.1,λb hb c hc e=>?_⟩;subst e;obtain⟨x,hx,ft⟩:=mem_owned.mp hc;rcases a.own b hb with z|z
  ·exact dis b z hc
  ·exact(okT x hx).some (Sl.own_as ft) z
 ·rw[k3]at hb;rw[qv];intro hf;rcases List.mem_append.mp hb with hb|hb
  ·rcases List.mem_append.mp hf with hf|hf
   ·exact w'.ds b hb hf
   ·obtain⟨x,hx,ft⟩:=mem_frozen.mp hf;rcases a.own b hb with z|z
    ·exact nT x hx b (Sl.frz_as ft) z
    ·exact(okT x hx).some (Sl.frz_as ft) z
  ·rcases List.mem_append.mp hf with hf|hf
   ·obtain⟨x,hx,ft⟩:=mem_owned.mp hb;rcases a.frz b hf with z|z|z
    ·exact w.ds b (by rw[k3];exact lr9 _ hb) (by rw[qv];exact ll9 _ z)
    ·exact dis b z hb
    ·exact(okT x hx).some (Sl.own_as ft) z
   ·exact w.ds b (by rw[k3];exact lr9 _ hb) (by rw[qv];exact lr9 _ hf)
theorem World.left(w:World K H (L++T)):World K H L:=by
 have nd:=w.nd;rw[k3,Xa]at nd;exact⟨λx hx=>w.ok x (ll9 _ hx),nd.1,λa ha hf=>w.ds a (by rw[k3];exact ll9 _ ha) (by rw[qv];exact ll9 _ hf)⟩
theorem World.right(w:World K H (L++T)):World K H T:=by
 have nd:=w.nd;rw[k3,Xa]at nd;exact⟨λx hx=>w.ok x (lr9 _ hx),nd.2.1,λa ha hf=>w.ds a (by rw[k3];exact lr9 _ ha) (by rw[qv];exact lr9 _ hf)⟩
theorem World.comm(w:World K H (L++T)):World K H (T++L):=by
 refine⟨λx hx=>w.ok x ?_,?_,λa ha hf=>w.ds a ?_ ?_⟩
 ·rcases List.mem_append.mp hx with h|h
  ·exact lr9 _ h
  ·exact ll9 _ h
 ·have nd:=w.nd;rw[k3,Xa]at nd ⊢;exact⟨nd.2.1,nd.1,λa ha b hb e=>nd.2.2 b hb a ha e.symm⟩
 ·rw[k3]at ha ⊢;rcases List.mem_append.mp ha with h|h
  ·exact lr9 _ h
  ·exact ll9 _ h
 ·rw[qv]at hf ⊢;rcases List.mem_append.mp hf with h|h
  ·exact lr9 _ h
  ·exact ll9 _ h
theorem World.tail{q:Option Sl}(w:World K H (q::L)):World K H L:=World.right (L:=[q]) w
theorem World.head(w:World K H (some x::L)):x.ok K H:=w.ok x X3
theorem World.apart(w:World K H (some x::L)):∀a∈x.as,a∉j7 L:=λa ha hL=>by
 rcases Sl.as_of ha with z|z
 ·have nd:=w.nd;rw[jK,Xa]at nd;exact nd.2.2 a z a hL rfl
 ·exact w.ds a (by rw[jK];exact lr9 _ hL) (by rw[qJ];exact ll9 _ z)
theorem World.cons(w:World K H L)(h:x.ok K H)(n:x.own.Nodup)(h1:∀a∈x.own,a∉j7 L)(h2:∀a∈x.own,a∉jW L)(h3:∀a∈x.frz,a∉j7 L)(h4:∀a∈x.own,a∉x.frz):World K H (some x::L):=by
 refine⟨λy hy=>?_,?_,λa ha hf=>?_⟩
 ·rcases List.mem_cons.mp hy with z|z
  ·cases z;exact h
  ·exact w.ok y z
 ·rw[jK,Xa];exact⟨n,w.nd,λa ha b hb e=>by subst e;exact h1 a ha hb⟩
 ·rw[jK]at ha;rw[qJ]at hf;rcases List.mem_append.mp ha with ha|ha
  ·rcases List.mem_append.mp hf with hf|hf
   ·exact h4 a ha hf
   ·exact h2 a ha hf
  ·rcases List.mem_append.mp hf with hf|hf
   ·exact h3 a hf ha
   ·exact w.ds a ha hf
theorem World.consNo(w:World K H L)(h:x.ok K H)(ho:x.o=.no)(h3:∀a∈x.as,a∉j7 L):World K H (some x::L):=by
 have e1:x.own=[]:=by unfold Sl.own;rw[ho]
 have e2:x.frz=x.as:=by unfold Sl.frz;rw[ho]
 exact w.cons h (by rw[e1];exact Y1) (by rw[e1];exact λ_ z=>nomatch z) (by rw[e1];exact λ_ z=>nomatch z) (by rw[e2];exact h3) (by rw[e1];exact λ_ z=>nomatch z)
theorem World.consPu(w:World K H L)(h:x.ok K H)(e:x.as=[]):World K H (some x::L):=by
 have e1:∀a,a∉x.own:=λa ha=>by have:=Sl.own_as ha;rw[e]at this;exact nomatch this
 have e2:∀a,a∉x.frz:=λa ha=>by have:=Sl.frz_as ha;rw[e]at this;exact nomatch this
 have e3:x.own=[]:=List.eq_nil_iff_forall_not_mem.mpr e1;exact w.cons h (by rw[e3];exact Y1) (λa z=>absurd z (e1 a)) (λa z=>absurd z (e1 a)) (λa z=>absurd z (e2 a)) (λa z=>absurd z (e1 a))
theorem jv0{L:Ls}{i:Nat}{q:Option Sl}(h:some y∈L.set i q):q=some y\/some y∈L:=by
 rcases Y4 h with z|z
 ·exact .inr z
 ·exact .inl z.symm
theorem Wv{i:Nat}{a:Addr}(h:a∈j7 (L.set i (some x))):a∈x.own\/a∈j7 L:=by
 obtain⟨y,hy,ha⟩:=mem_owned.mp h;rcases jv0 hy with z|z
 ·cases z;exact .inl ha
 ·exact .inr (mem_owned.mpr ⟨y,z,ha⟩)
theorem jkq{i:Nat}{a:Addr}(h:a∈jW (L.set i (some x))):a∈x.frz\/a∈jW L:=by
 obtain⟨y,hy,ha⟩:=mem_frozen.mp h;rcases jv0 hy with z|z
 ·cases z;exact .inl ha
 ·exact .inr (mem_frozen.mpr ⟨y,z,ha⟩)
theorem jqv:∀{L:Ls} {i:Nat},(x.own++j7 L).Nodup->(j7 (L.set i (some x))).Nodup
 |[],_,h=>by simp
 |q::L,0,h=>by
  rw[List.set_cons_zero,jK];have e:j7 (q::L)=q.elim [] Sl.own++j7 L:=by simp[j7]
  rw[e,Xa]at h;obtain⟨h1,h2,h3⟩:=h;rw[Xa]at h2 ⊢;exact⟨h1,h2.2.1,λa ha b hb=>h3 a ha b (lr9 _ hb)⟩
 |q::L,i+1,h=>by
  rw[List.set_cons_succ];have e:∀M:Ls,j7 (q::M)=q.elim [] Sl.own++j7 M:=λM=>by simp[j7]
  rw[e]at h ⊢;rw[Xa]at h;obtain⟨h1,h2,h3⟩:=h;rw[Xa]at h2;rw[Xa];refine⟨h2.1,jqv (by rw[Xa];exact⟨h1,h2.2.1,λa ha b hb=>h3 a ha b (lr9 _ hb)⟩),λa ha b hb e=>?_⟩;subst e;rcases Wv hb with z|z
  ·exact h3 a z a (ll9 _ ha) rfl
  ·exact h2.2.2 a ha a z rfl
theorem World.set{i:Nat}(w:World K H (some x::L)):World K H (L.set i (some x)):=by
 refine⟨λy hy=>?_,jqv (by have:=w.nd;rwa [jK]at this),λa ha hf=>?_⟩
 ·rcases jv0 hy with z|z
  ·cases z;exact w.head
  ·exact w.ok y (lc9 _ z)
 ·refine w.ds a ?_ ?_
  ·rw[jK];exact List.mem_append.mpr (Wv ha)
  ·rw[qJ];exact List.mem_append.mpr (jkq hf)
theorem Step.set{i:Nat}:Step H (some x::L) H (L.set i (some x)) where
 keep:=λ_ _ h _=>h
 own:=λa ha=>.inl (by rw[jK];exact List.mem_append.mpr (Wv ha))
 frz:=λa ha=>.inl (by rw[qJ];exact List.mem_append.mpr (jkq ha))
theorem Step.drop{q:Option Sl}:Step H (q::L) H L where
 keep:=λ_ _ h _=>h
 own:=λa ha=>.inl (by rw[show(q::L:Ls)=[q]++L from rfl,k3];exact lr9 _ ha)
 frz:=λa ha=>.inl (by rw[show(q::L:Ls)=[q]++L from rfl,qv];exact lr9 _ ha)
theorem ww{i:Nat}(h:L[i]?=some (some x)):some x∈L:=List.mem_of_getElem? h
theorem Zz(x:Sl):x.let.own=[]/\x.let.frz=x.as/\x.let.as=x.as:=⟨rfl,rfl,rfl⟩
theorem kvm{i:Nat}{a:Addr}(h:a∈j7 (L.set i (some x.let))):a∈j7 L:=by
 rcases Wv h with z|z
 ·exact nomatch z
 ·exact z
theorem kx2:∀{L:Ls} {i:Nat},(j7 L).Nodup->(∀a∈j7 L,a∉jW L)->L[i]?=some (some x)->∀a∈x.as,a∉j7 (L.set i (some x.let))
 | [],_,_,_,h,_,_=>by simp at h
 | q::L,0,nd,ds,h,a,ha=>by
  have e:q=some x:=by simpa using h
  subst e;rw[List.set_cons_zero,jK];intro hm;have hm:a∈j7 L:=by simpa [Zz]using hm
  rcases Sl.as_of ha with z|z
  ·rw[jK,Xa]at nd;exact nd.2.2 a z a hm rfl
  ·exact ds a (by rw[jK];exact lr9 _ hm) (by rw[qJ];exact ll9 _ z)
 | q::L,i+1,nd,ds,h,a,ha=>by
  have h:L[i]?=some (some x):=by simpa using h
  rw[List.set_cons_succ];have e:∀M:Ls,j7 (q::M)=q.elim [] Sl.own++j7 M:=λM=>by simp[j7]
  have f:jW (q::L)=q.elim [] Sl.frz++jW L:=by simp[jW]
  rw[e];intro hm;rw[e,Xa]at nd;rcases List.mem_append.mp hm with hm|hm
  ·rcases Sl.as_of ha with z|z
   ·exact nd.2.2 a hm a (mem_owned.mpr ⟨x,ww h,z⟩) rfl
   ·exact ds a (by rw[e];exact ll9 _ hm) (by rw[f];exact lr9 _ (mem_frozen.mpr ⟨x,ww h,z⟩))
  ·exact kx2 (L:=L) nd.2.1 (λb hb hf=>ds b (by rw[e];exact lr9 _ hb) (by rw[f];exact lr9 _ hf)) h a ha hm
theorem Vx(h:x.ok K H):x.let.ok K H:=RepO.wk h
theorem World.let{i:Nat}(w:World K H L)(h:L[i]?=some (some x)):World K H (L.set i (some x.let)):=by
 have out:=kx2 w.nd w.ds h;refine⟨λy hy=>?_,jqv (by rw[(Zz x).1];exact w.nd),λa ha hf=>?_⟩
 ·rcases jv0 hy with z|z
  ·cases z;exact Vx (w.ok x (ww h))
  ·exact w.ok y z
 ·rcases jkq hf with z|z
  ·exact out a z ha
  ·exact w.ds a (kvm ha) z
theorem World.read{i:Nat}(w:World K H L)(h:L[i]?=some (some x)):World K H (some x.let::L.set i (some x.let)):=
 (w.let h).consNo (Vx (w.ok x (ww h))) rfl (kx2 (x:=x) w.nd w.ds h)
theorem Step.read{i:Nat}(h:L[i]?=some (some x)):Step H L H (some x.let::L.set i (some x.let)) where
 keep:=λ_ _ h _=>h
 own:=λa ha=>.inl (by rw[jK,(Zz x).1]at ha;exact kvm ha)
 frz:=λa ha=>by
  have hx:=ww h;have q:∀a∈x.as,a∈jW L\/a∈j7 L\/H a=none:=λa ha=>by
   rcases Sl.as_of ha with z|z
   ·exact .inr (.inl (mem_owned.mpr ⟨x,hx,z⟩))
   ·exact .inl (mem_frozen.mpr ⟨x,hx,z⟩)
  rw[qJ]at ha;rcases List.mem_append.mp ha with z|z
  ·exact q a z
  ·rcases jkq z with z|z
   ·exact q a z
   ·exact .inl z
end
inductive Mt:En->L2.St->Ls->Prop
 |nil:Mt [] [] []
 |un {E:En} {σ:L2.St} {L:Ls} {y:Option V}:Mt E σ L->Mt (none::E) (y :: σ) (none::L)
 |cons {E:En} {σ:L2.St} {L:Ls} {x:Sl}:Mt E σ L->Mt (some (x.o,x.d)::E) (some x.v :: σ) (some x::L)
theorem Mt.get:∀{E:En} {σ:L2.St} {L:Ls} {i:Nat} {o:Own} {d:D},Mt E σ L->E[i]?=some (some (o,d))->∃x,L[i]?=some (some x)/\x.o=o/\x.d=d/\σ[i]?=some (some x.v)
 |_,_,_,_,_,_,.nil,h=>by simp at h
 |_,_,_,0,_,_,.un _,h=>by simp at h
 |_,_,_,i+1,_,_,.un m,h=>by simpa using m.get (i:=i) (by simpa using h)
 |_,_,_,0,_,_,.cons (x:=x) m,h=>by
  simp only[List.getElem?_cons_zero,Option.some.injEq,Prod.mk.injEq]at h;exact⟨x,by simp,h.1,h.2,by simp⟩
 |_,_,_,i+1,_,_,.cons m,h=>by simpa using m.get (i:=i) (by simpa using h)
theorem Mt.set{x:Sl}:∀{E:En} {σ:L2.St} {L:Ls} (i:Nat),Mt E σ L->Mt (E.set i (some (x.o,x.d))) (σ.set i (some x.v)) (L.set i (some x))
 |_,_,_,_,.nil=>.nil
 |_,_,_,0,.un m=>.cons m
 |_,_,_,i+1,.un m=>.un (m.set i)
 |_,_,_,0,.cons m=>.cons m
 |_,_,_,i+1,.cons m=>.cons (m.set i)
theorem Mt.let{x:Sl}:∀{E:En} {σ:L2.St} {L:Ls} {i:Nat},Mt E σ L->L[i]?=some (some x)->Mt (E.set i (some (.no,x.d))) σ (L.set i (some x.let))
 |_,_,_,_,.nil,h=>by simp at h
 |_,_,_,0,.un m,h=>by simp at h
 |_,_,_,i+1,.un m,h=>.un (m.let (i:=i) (by simpa using h))
 |_,_,_,0,.cons (x:=y) m,h=>by
  have e:y=x:=by simpa using h
  subst e;exact .cons (x:=y.let) m
 |_,_,_,i+1,.cons m,h=>.cons (m.let (i:=i) (by simpa using h))
theorem Mt.len:∀{E:En} {σ:L2.St} {L:Ls},Mt E σ L->E.length=σ.length/\L.length=σ.length
 |_,_,_,.nil=>⟨rfl,rfl⟩
 |_,_,_,.un m=>by simp[m.len]
 |_,_,_,.cons m=>by simp[m.len]
def sls(L:Ls):List Sl:=L.filterMap id
theorem KY(L:Ls):j7 L=(sls L).flatMap Sl.own:=by
 induction L with
 |nil=>rfl
 |cons q L ih=>
  cases q with
  |none=>rw[kkq,ih];rfl
  |some x=>rw[jK,ih];rfl
theorem Qz(L:Ls):jW L=(sls L).flatMap Sl.frz:=by
 induction L with
 |nil=>rfl
 |cons q L ih=>
  cases q with
  |none=>rw[kx7,ih];rfl
  |some x=>rw[qJ,ih];rfl
theorem mem_sls{L:Ls}{x:Sl}:x∈sls L↔some x∈L:=by simp[sls]
@[simp] theorem Qj (L T:Ls):sls (L++T)=sls L++sls T:=by simp[sls]
@[simp] theorem qwe (L:Ls):sls (none::L)=sls L:=rfl
@[simp] theorem kxo (x:Sl)(L:Ls):sls (some x::L)=x::sls L:=rfl
@[simp] theorem vzc:sls []=[]:=rfl
@[simp] theorem vzd (T:List Sl):sls (T.map some)=T:=by simp[sls]
@[simp] theorem qzp (k:Nat):sls (List.replicate k none)=[]:=by
 induction k with
 |zero=>rfl
 |succ k ih=>rw[List.replicate_succ,qwe,ih]
theorem Z7{α β:Type}(f:α->List β){l l':List α}(h:l.Sublist l'):(l.flatMap f).Sublist (l'.flatMap f):=by
 induction h with
 |slnil=>exact List.Sublist.refl _
 |cons a _ ih=>rw[List.flatMap_cons];exact List.Sublist.trans ih (List.sublist_append_right _ _)
 |cons_cons a _ ih=>rw[List.flatMap_cons,List.flatMap_cons];exact List.Sublist.append (List.Sublist.refl _) ih
section
variable {K:PySem.W.Frag}{H H':Hp}{L L' M M':Ls}
theorem World.same(w:World K H L)(p:(sls L).Perm (sls L')):World K H L':=by
 have po:(j7 L).Perm (j7 L'):=by rw[KY,KY];exact p.flatMap_right _
 have pf:(jW L).Perm (jW L'):=by rw[Qz,Qz];exact p.flatMap_right _
 exact⟨λx hx=>w.ok x (mem_sls.mp (p.mem_iff.mpr (mem_sls.mpr hx))),po.nodup_iff.mp w.nd,λa ha hf=>w.ds a (po.mem_iff.mpr ha) (pf.mem_iff.mpr hf)⟩
theorem Step.same(s:Step H L H' L')(p:(sls L).Perm (sls M))(p':(sls L').Perm (sls M')):Step H M H' M':=by
 have po:(j7 L).Perm (j7 M):=by rw[KY,KY];exact p.flatMap_right _
 have pf:(jW L).Perm (jW M):=by rw[Qz,Qz];exact p.flatMap_right _
 have po':(j7 L').Perm (j7 M'):=by rw[KY,KY];exact p'.flatMap_right _
 have pf':(jW L').Perm (jW M'):=by rw[Qz,Qz];exact p'.flatMap_right _
 exact⟨λa ob h hn=>s.keep a ob h λz=>hn (po.mem_iff.mp z),λa ha=>(s.own a (po'.mem_iff.mpr ha)).imp (λz=>po.mem_iff.mp z) id,
  λa ha=>(s.frz a (pf'.mem_iff.mpr ha)).imp (λz=>pf.mem_iff.mp z) λz=>z.imp (λz=>po.mem_iff.mp z) id⟩
theorem World.sub(w:World K H L)(p:(sls L').Sublist (sls L)):World K H L':=by
 refine⟨λx hx=>w.ok x (mem_sls.mp (p.subset (mem_sls.mpr hx))),?_,λa ha hf=>w.ds a ?_ ?_⟩
 ·have:=w.nd;rw[KY]at this ⊢;exact(Z7 _ p).nodup this
 ·rw[KY]at ha ⊢;exact(Z7 _ p).subset ha
 ·rw[Qz]at hf ⊢;exact(Z7 _ p).subset hf
theorem Step.sub(s:Step H L H' L')(p:(sls M).Sublist (sls L')):Step H L H' M:=by
 refine⟨s.keep,λa ha=>s.own a ?_,λa ha=>s.frz a ?_⟩
 ·rw[KY]at ha ⊢;exact(Z7 _ p).subset ha
 ·rw[Qz]at ha ⊢;exact(Z7 _ p).subset ha
end
theorem jxg:∀{L:Ls} {j:Nat},(sls (at' L j::L.set j none)).Perm (sls L)
 | [],j=>by simp[at',sls]
 | q::L,0=>by
  cases q with
  |none=>simp[at',sls]
  |some x=>simp[at',sls]
 | q::L,j+1=>by
  have ih:=jxg (L:=L) (j:=j);have e:at' (q::L) (j+1)=at' L j:=by simp[at']
  rw[e,List.set_cons_succ];have e2:∀(a b:Option Sl) (M:Ls),(sls (a::b::M)).Perm (sls (b::a::M)):=λa b M=>by
   cases a<;>cases b<;>simp[sls]
   exact List.Perm.swap ..
  refine(e2 _ _ _).trans ?_;cases q with
  |none=>simpa [sls]using ih
  |some y=>simpa [sls]using ih
theorem kzq:∀{R:List Nat} {L:Ls},R.Nodup->(sls (R.map (at' L)++clr R L)).Perm (sls L)
 | [],L,_=>by simp[clr]
 | j::R,L,h=>by
  rw[List.nodup_cons]at h;have e:R.map (at' L)=R.map (at' (L.set j none)):=by
   apply List.map_congr_left;intro i hi;have:j≠i:=λe=>h.1 (e▸hi)
   unfold at';rw[Xz this]
  rw[List.map_cons,List.cons_append,clr,e];have ih:=kzq (R:=R) (L:=L.set j none) h.2;refine List.Perm.trans ?_ (jxg (L:=L) (j:=j));cases hq:at' L j with
  |none=>simpa [sls]using ih
  |some x=>simpa [sls]using ih
theorem qvh{α:Type}:∀{R:List Nat} {L:List (Option α)},(clr R L).length=L.length
 |[],_=>rfl
 |j::R,L=>by rw[clr,qvh,Yx]
theorem qvi{α:Type}:∀{R:List Nat} {L:List (Option α)} {j:Nat},j∈R->at' (clr R L) j=none
 | [],_,_,h=>by cases h
 | i :: R,L,j,h=>by
  rw [clr]
  by_cases hR:j∈R
  ·exact qvi hR
  ·have e:j=i:=by simpa [hR]using h
   subst e;have gen:∀{R:List Nat} {M:List (Option α)},j∉R->at' (clr R M) j=at' M j:=by
    intro R
    induction R with
    |nil=>intro M _;rfl
    |cons r R ih=>
     intro M h;rw[Xr,not_or]at h;rw[clr,ih h.2];unfold at';rw[Xz (Z6 h.1)]
   rw[gen hR];unfold at'
   by_cases hl:j<L.length
   ·rw[Ye hl];rfl
   ·rw[List.set_eq_of_length_le (by lia),Yj (by lia)];rfl
theorem kwh:∀{R:List Nat} {B L:Ls},R.Nodup->(∀j∈R,at' L j=none)->(∀j∈R,j<L.length)->B.length=R.length->(sls (back R B L)).Perm (sls (B++L))
 | [],B,L,_,_,_,hl=>by
  have:B=[]:=by simpa using hl
  subst this;simp [back]
 | j :: R,[],L,_,_,_,hl=>by simp at hl
 | j :: R,q::B,L,hn,hz,hr,hl=>by
  rw [List.nodup_cons]at hn;rw [back];have hj:=hr j X3;have ih:=kwh (R:=R) (B:=B) (L:=L.set j q) hn.2 (λi hi=>by
   have:j≠i:=λe=>hn.1 (e▸hi)
   unfold at';rw [Xz this];exact hz i (lc9 _ hi)) (λi hi=>by rw[Yx];exact hr i (lc9 _ hi)) (by simpa using hl)
  refine ih.trans ?_;have sp:∀{M:Ls} {i:Nat},at' M i=none->i<M.length->(sls (M.set i q)).Perm (sls (q::M)):=by
   intro M
   induction M with
   | nil=>intro i _ h;simp at h
   | cons r M ihM=>
    intro i h1 h2;cases i with
    | zero=>
     have:r=none:=by simpa [at']using h1
     subst this;cases q<;>simp[sls]
    | succ i=>
     have:=ihM (i:=i) (by simpa [at']using h1) (by simpa using h2);rw[List.set_cons_succ];cases r with
     | none=>cases q<;>simpa [sls]using this
     | some y=>
      cases q with
      |none=>simpa [sls]using this
      |some x=>
       simp only[kxo]at this ⊢;exact(this.cons y).trans (List.Perm.swap ..)
  rw[Qj,List.cons_append];have h1:=sp (hz j X3) hj;have h2:(sls B++sls (L.set j q)).Perm (sls B++sls (q::L)):=h1.append_left _;refine h2.trans ?_;cases q with
  |none=>simp
  |some x=>
   simp only[kxo,Qj];exact List.perm_middle
section
variable {K:PySem.W.Frag}{H H1 H2 H':Hp}{L L1 L' T:Ls}{x y:Sl}
theorem YJ(p:L.Perm L'):(j7 L).Perm (j7 L'):=p.flatMap_right _
theorem jx9(p:L.Perm L'):(jW L).Perm (jW L'):=p.flatMap_right _
theorem World.perm(w:World K H L)(p:L.Perm L'):World K H L':=
 ⟨λx hx=>w.ok x (p.mem_iff.mpr hx),(YJ p).nodup_iff.mp w.nd,λa ha hf=>w.ds a ((YJ p).mem_iff.mpr ha) ((jx9 p).mem_iff.mpr hf)⟩
theorem Step.perm(s : Step H L H' L'){M M' : Ls}(p : L.Perm M)(p' : L'.Perm M'): Step H M H' M':=
  ⟨λa ob h hn=>s.keep a ob h λz=>hn ((YJ p).mem_iff.mp z),
   λa ha=>(s.own a ((YJ p').mem_iff.mpr ha)).imp (λz=>(YJ p).mem_iff.mp z) id,
   λa ha=>(s.frz a ((jx9 p').mem_iff.mpr ha)).imp (λz=>(jx9 p).mem_iff.mp z) λz=>z.imp (λz=>(YJ p).mem_iff.mp z) id⟩
theorem Step.frm(s:Step H L H' L'):Step H (L++T) H' (L'++T) where
 keep:=λa ob h hn=>s.keep a ob h λz=>hn (by rw[k3];exact ll9 _ z)
 own:=λa ha=>by
  rw[k3]at ha ⊢;rcases List.mem_append.mp ha with z|z
  ·exact(s.own a z).imp (ll9 _) id
  ·exact .inl (lr9 _ z)
 frz:=λa ha=>by
  rw[qv]at ha ⊢;rw[k3];rcases List.mem_append.mp ha with z|z
  ·exact(s.frz a z).imp (ll9 _) λz=>z.imp (ll9 _) id
  ·exact .inl (lr9 _ z)
theorem wq4(w:World K H (T++L))(s:Step H L H' L')(w':World K H' L'):World K H' (T++L')/\Step H (T++L) H' (T++L'):=by
 have w1:World K H (L++T):=w.comm;exact⟨(s.frame w1 w' w1.left).comm,s.frm.perm List.perm_append_comm List.perm_append_comm⟩
end
theorem ex8{α β γ:Type}{P:Prop}{a b c d e:α->β->γ->Prop}(h:∃x y z,a x y z/\b x y z/\c x y z/\d x y z/\e x y z)(f:∀x y z,a x y z->b x y z->c x y z->d x y z->e x y z->P):P:=
 h.elim λx h=>h.elim λy h=>h.elim λz h=>f x y z h.1 h.2.1 h.2.2.1 h.2.2.2.1 h.2.2.2.2
theorem ex7{α β γ:Type}{P:Prop}{a b c d:α->β->γ->Prop}(h:∃x y z,a x y z/\b x y z/\c x y z/\d x y z)(f:∀x y z,a x y z->b x y z->c x y z->d x y z->P):P:=
 h.elim λx h=>h.elim λy h=>h.elim λz h=>f x y z h.1 h.2.1 h.2.2.1 h.2.2.2
theorem qV{X:Cx}{e:Expr}{t t':TE}(h:PE X e t)(w:∀ σ H Q,t' σ H Q->t σ H Q):PE X e t':=λpins s σ H Q I q=>h pins s σ H Q I (w σ H Q q)
theorem kz2{X:Cx}{e:Expr}{t t':TT}(h:PT X e t)(w:∀ σ H Q,t' σ H Q->t σ H Q):PT X e t':=λpins s σ H Q I q=>h pins s σ H Q I (w σ H Q q)
theorem JZ{X:Cx}{e:Stmt}{t t':TS}(h:PS X e t)(w:∀D σ H,t' D σ H->t D σ H):PS X e t':=λpins s σ H D I q=>h pins s σ H D I (w D σ H q)
theorem kwu{X:Cx}{e:List Stmt}{t t':TS}(h:PSs X e t)(w:∀D σ H,t' D σ H->t D σ H):PSs X e t':=λpins s σ H D I q=>h pins s σ H D I (w D σ H q)
structure Fx0 where
 K:PySem.W.Frag
 mg:Str->Option Value
 EX:XK
noncomputable def Xc{α:Type}(Z:Fx0)(σ:L2.St)(H:Hp)(L:Ls)(r:Res α):Prop:=∀E' c,r=.exc E' c->∀C L' H',Z.mg c=some (.ref C)->Mt E' σ L'->World Z.K H' L'->Step H L H' L'->Z.EX (.ref C) none H'
theorem Xc.step{α:Type}{Z:Fx0}{σ:L2.St}{H H1:Hp}{L L1:Ls}{r:Res α}(x:Xc Z σ H L r)(s:Step H L H1 L1):Xc Z σ H1 L1 r:=λE' c e C L' H' hm m w s'=>x E' c e C L' H' hm m w (s.trans s')
theorem Xc.map{α β:Type}{Z:Fx0}{σ:L2.St}{H:Hp}{L:Ls}{r:Res α}{E':En}{c:Str}(x:Xc Z σ H L r)(e:r=.exc E' c):Xc Z σ H L (.exc E' c:Res β):=λE1 c1 e1=>by
 injection e1 with h1 h2;subst h1 h2;exact x _ _ e
noncomputable def tQ(Z:Fx0)(q:Bool)(c:Ex):TE:=fun σ H Q=>∃E L r,Mt E σ L/\World Z.K H L/\c E=some r/\Xc Z σ H L r /\
 ∀E' a,r=.ok E' a->∀(x:Sl) L' H',x.o=a.1->x.d=a.2->Mt E' σ L'->World Z.K H' (some x::L')->Step H L H' (some x::L')->(q=true->kj H H'/\∀b∈x.own,H b=none)->Q x.v H'
def Src(H:Hp)(L:Ls)(as:List Addr):Prop:=∀b∈as,b∈jW L\/b∈j7 L\/H b=none
theorem Src.back{H H1:Hp}{L L1:Ls}{as:List Addr}(h:Src H1 L1 as)(s:Step H L H1 L1):Src H L as:=λb hb=>by
 rcases h b hb with z|z|z
 ·exact s.frz b z
 ·exact .inr (s.own b z)
 ·by_cases ho:b∈j7 L
  ·exact .inr (.inl ho)
  ·refine .inr (.inr ?_);cases e:H b with
   |none=>rfl
   |some ob=>rw[s.keep b ob e ho]at z;cases z
noncomputable def tV(Z:Fx0)(q:Bool)(c:Ex):TE:=fun σ H Q=>∃E L r,Mt E σ L/\World Z.K H L/\c E=some r/\Xc Z σ H L r /\
 ∀E' a,r=.ok E' a->∀(x:Sl) L' H',x.o=a.1->x.d=a.2->Mt E' σ L'->World Z.K H' L'->x.ok Z.K H'->(∀b∈x.frz,b∉j7 L')->Src H L x.as->Step H L H' L'->(q=true->kj H H')->Q x.v H'
def QE(X:Cx)(Z:Fx0)(q:Bool)(c:Ex)(e:Expr):Prop:=PE X e (tQ Z q c)
def QV(X:Cx)(Z:Fx0)(q:Bool)(c:Ex)(e:Expr):Prop:=PE X e (tV Z q c)
section
variable {X:Cx}{Z:Fx0}{q qa qb:Bool}{a b c:Ex}{e ea eb:Expr}{pos:Pos}{α:Type}{σ:L2.St}{H:Hp}{L:Ls}{E:En}
theorem vY{β:Type}{m:Option (Res α)}{F:En->α->Option (Res β)}{r:Res β}(h:bnd m F=some r):(∃E1 x,m=some (.ok E1 x)/\F E1 x=some r)\/∃E1 c,m=some (.exc E1 c)/\r=.exc E1 c:=by
 cases m with
 |none=>cases h
 |some q=>
  cases q with
  |ok E1 x=>exact .inl ⟨E1,x,rfl,h⟩
  |exc E1 c=>exact .inr ⟨E1,c,rfl,(oq9 h).symm⟩
theorem qzx{F:En->Sd->Option (Res α)}{r:Res α}{G:VK}(m:Mt E σ L)(w:World Z.K H L)(h:bnd (a E) F=some r)(xc:Xc Z σ H L r)
  (k:∀E1 s,F E1 s=some r->∀(x:Sl) L1 H1,x.o=s.1->x.d=s.2->Mt E1 σ L1->World Z.K H1 (some x::L1)->Step H L H1 (some x::L1)->(q=true->kj H H1/\∀b∈x.own,H b=none)->G x.v H1):tQ Z q a σ H G:=by
 rcases vY h with⟨E1,s,h1,h2⟩|⟨E1,c,h1,h2⟩
 ·exact⟨E,L,_,m,w,h1,(λ_ _ z=>by cases z),λE' s' z x L' H' e1 e2 m' w' st sm=>by
   injection z with z1 z2;subst z1 z2;exact k _ _ h2 x L' H' e1 e2 m' w' st sm⟩
 ·exact⟨E,L,_,m,w,h1,xc.map h2,λE' s' z=>by cases z⟩
theorem vZ{F:En->Sd->Option (Res α)}{r:Res α}{G:VK}(m:Mt E σ L)(w:World Z.K H L)(h:bnd (a E) F=some r)(xc:Xc Z σ H L r)
  (k:∀E1 s,F E1 s=some r->∀(x:Sl) L1 H1,x.o=s.1->x.d=s.2->Mt E1 σ L1->World Z.K H1 L1->x.ok Z.K H1->(∀b∈x.frz,b∉j7 L1)->Src H L x.as->Step H L H1 L1->(q=true->kj H H1)->G x.v H1):tV Z q a σ H G:=by
 rcases vY h with⟨E1,s,h1,h2⟩|⟨E1,c,h1,h2⟩
 ·exact⟨E,L,_,m,w,h1,(λ_ _ z=>by cases z),λE' s' z x L' H' e1 e2 m' w' ok fr sr st sm=>by
   injection z with z1 z2;subst z1 z2;exact k _ _ h2 x L' H' e1 e2 m' w' ok fr sr st sm⟩
 ·exact⟨E,L,_,m,w,h1,xc.map h2,λE' s' z=>by cases z⟩
theorem Qk{x:Sl}{K:PySem.W.Frag}{H1 H2:Hp}{L1 L2':Ls}(ok:x.ok K H1)(fr:∀b∈x.frz,b∉j7 L1)(st:Step H1 L1 H2 L2')(sm:kj H1 H2):x.ok K H2/\∀b∈x.frz,b∉j7 L2':=
 ⟨RepO.kp ok (Kp.of_same sm),λb hb ho=>(st.own b ho).elim (fr b hb) λz=>ok.some (Sl.frz_as hb) z⟩
theorem K0{x:Option α}{r:Res α}(h:val E x=some r):∃y,x=some y/\r=.ok E y:=by
 cases x with
 |none=>cases h
 |some y=>exact⟨y,rfl,(oq9 h).symm⟩
theorem QE.weak(h:QE X Z true c e):QE X Z q c e:=qV h fun σ H Q av=>ex8 av λE L r m w hc xc k=>⟨E,L,r,m,w,hc,xc,λE' s z x L' H' e1 e2 m' w' st sm=>k E' s z x L' H' e1 e2 m' w' st λ_=>sm rfl⟩
theorem kq6{x:Sl}{H1:Hp}{L1:Ls}(st:Step H L H1 (some x::L1)):Src H L x.as:=λb hb=>by
 rcases Sl.as_of hb with z|z
 ·exact .inr (st.own b (by rw[jK];exact ll9 _ z))
 ·exact st.frz b (by rw[qJ];exact ll9 _ z)
theorem j4(h:QE X Z q c e):QV X Z q (vE c) e:=qV h fun σ H Q av=>ex8 av λE L r m w hc xc k=>
 qzx m w hc xc λE1 s h1 x L1 H1 e1 e2 m1 w1 st sm=>by
  cases oq9 h1;exact k _ _ rfl x.let L1 H1 rfl e2 m1 w1.tail (Vx w1.head) (λb hb=>w1.apart b hb) (kq6 (x:=x) st) (st.trans Step.drop) λhq=>(sm hq).1
theorem V8{x:Sl}{H1:Hp}{L1:Ls}(st:Step H L H1 L1)(sr:Src H L x.as)(ho:x.own=[]):Step H L H1 (some x::L1) where
 keep:=st.keep
 own:=λb hb=>by rw[jK,ho]at hb;exact st.own b hb
 frz:=λb hb=>by
  rw[qJ]at hb;rcases List.mem_append.mp hb with z|z
  ·exact sr b (Sl.frz_as z)
  ·exact st.frz b z
theorem kz8{x:Sl}(h:x.o=.no):x.own=[]:=by unfold Sl.own;rw[h]
theorem ZJ{x:Sl}(h:x.o=.no):x.frz=x.as:=by unfold Sl.frz;rw[h]
theorem vjh{x:Sl}(h:x.as=[]):x.own=[]:=List.eq_nil_iff_forall_not_mem.mpr λa ha=>by have:=Sl.own_as ha;rw[h]at this;exact nomatch this
theorem vX(h:QV X Z q c e):QE X Z q (cH c) e:=qV h fun σ H Q av=>ex8 av λE L r m w hc xc k=>
 vZ m w hc xc λE1 s h1 x L1 H1 e1 e2 m1 w1 ok fr sr st sm=>by
  by_cases ho:s.1=.no
  ·rw[Xf ho]at h1;cases oq9 h1;have eo:x.o=.no:=e1.trans ho;exact k _ _ rfl x L1 H1 eo e2 m1 (w1.consNo ok eo λb hb=>fr b (by rw[ZJ eo];exact hb)) (V8 st sr (kz8 eo)) λhq=>⟨sm hq,by rw[kz8 eo];exact λ_ z=>(nomatch z)⟩
  ·rw[Xj ho]at h1
   by_cases hp:s.2.pure=true
   ·rw[Xf hp]at h1;cases oq9 h1;obtain⟨z,rp⟩:=RepL.pu (g':=false) (RepO.wk ok) (by rw[e2];exact hp);exact k _ _ rfl ⟨.dp,x.d,x.v,[]⟩ L1 H1 rfl e2 m1 (w1.consPu rp rfl) (V8 (x:=⟨.dp,x.d,x.v,[]⟩) st (λb hb=>nomatch hb) rfl) λhq=>⟨sm hq,λ_ z=>(nomatch z)⟩
   ·rw[Xj hp]at h1;cases h1
theorem q_C{d:D}{v:V}(h:PE X e (tC v))(hr:∀H,RepL Z.K H false d v []):QE X Z true (cC d) e:=qV h fun σ H Q av=>ex8 av λE L r m w hc xc k=>by
 cases oq9 hc;exact k _ _ rfl ⟨.dp,d,v,[]⟩ L H rfl rfl m (w.consPu (hr H) rfl) (V8 (x:=⟨.dp,d,v,[]⟩) Step.refl (λb hb=>nomatch hb) rfl) λ_=>⟨λ_ _ z=>z,λ_ z=>(nomatch z)⟩
theorem q_V{i:Nat}(h:PE X e (xW i)):QE X Z true (cV i) e:=qV h fun σ H Q av=>ex8 av λE L r m w hc xc k=>by
 unfold cV at hc
 split at hc
 ·rename_i o d hE;cases oq9 hc;obtain⟨x,h1,h2,h3,h4⟩:=m.get hE;refine⟨x.v,h4,k _ _ rfl x.let _ H rfl h3 ?_ (w.read h1) (Step.read h1) λ_=>⟨λ_ _ z=>z,λ_ z=>(nomatch z)⟩⟩;have:=m.let h1
  rwa [h3]at this
 ·cases hc
theorem kx0:∀{E:En} {σ:L2.St} {L:Ls} (j:Nat),Mt E σ L->Mt (E.set j none) σ (L.set j none):=by
 intro E σ L j m
 induction m generalizing j with
 |nil=>exact .nil
 |un m ih=>cases j with
  |zero=>exact .un m
  |succ j=>exact .un (ih j)
 |cons m ih=>cases j with
  |zero=>exact .un m
  |succ j=>exact .cons (ih j)
theorem Zw{x:Sl}:∀{L:Ls} {i:Nat},L[i]?=some (some x)->(none::L).Perm (some x::L.set i none)
 |[],_,h=>by simp at h
 |q::L,0,h=>by
  have e:q=some x:=by simpa using h
  subst e;exact List.Perm.swap ..
 |q::L,i+1,h=>by
  have:=Zw (L:=L) (i:=i) (by simpa using h);rw[List.set_cons_succ];exact(List.Perm.swap ..).trans ((this.cons q).trans (List.Perm.swap ..))
theorem wks{i:Nat}(h:PE X e (xW i)):QE X Z false (cMv i) e:=qV h fun σ H Q av=>ex8 av λE L r m w hc xc k=>by
 unfold cMv at hc
 split at hc
 ·rename_i s hE;cases oq9 hc;obtain⟨o,d⟩:=s;obtain⟨x,h1,h2,h3,h4⟩:=m.get hE;have wn:World Z.K H (none::L):=⟨λy hy=>w.ok y (by simpa using hy),by simpa using w.nd,by simpa using w.ds⟩;have sn:Step H L H (none::L):=⟨λ_ _ z _=>z,λa z=>.inl (by simpa using z),λa z=>.inl (by simpa using z)⟩;exact⟨x.v,h4,k _ _ rfl x _ H h2 h3 (kx0 i m) (wn.perm (Zw h1)) (sn.trans (Step.refl.perm (List.Perm.refl _) (Zw h1))) λz=>(nomatch z)⟩
 ·cases hc
theorem q_vV{i:Nat}(h:PE X e (xW i)):QV X Z true (vV i) e:=qV h fun σ H Q av=>ex8 av λE L r m w hc xc k=>by
 unfold vV at hc
 split at hc
 ·rename_i s hE;cases oq9 hc;obtain⟨o,d⟩:=s;obtain⟨x,h1,h2,h3,h4⟩:=m.get hE;have hx:=ww h1;refine⟨x.v,h4,k _ _ rfl x L H h2 h3 m w (w.ok x hx) (λb hb ho=>w.ds b ho (mem_frozen.mpr ⟨x,hx,hb⟩)) (λb hb=>?_) Step.refl λ_=>λ_ _ z=>z⟩;rcases Sl.as_of hb with z|z
  ·exact .inr (.inl (mem_owned.mpr ⟨x,hx,z⟩))
  ·exact .inl (mem_frozen.mpr ⟨x,hx,z⟩)
 ·cases hc
structure Out (K:PySem.W.Frag)(H H':Hp)(z:Sl)(fr:List Addr):Prop where
 same:kj H H'
 ok:z.ok K H'
 new:∀b∈z.own,H b=none
 nd:z.own.Nodup
 fr:∀b∈z.frz,b∈fr
noncomputable def Ad1(K:PySem.W.Frag)(r:V->Hp->VK->Prop)(f:Sd->Option Sd):Prop:=∀(H:Hp) (x:Sl) (s:Sd) (Q:VK),x.ok K H->f (x.o,x.d)=some s->(∀(z:Sl) H',z.o=s.1->z.d=s.2->Out K H H' z x.frz->Q z.v H')->r x.v H Q
noncomputable def Ad2(K:PySem.W.Frag)(r:R2)(f:Sd->Sd->Option Sd):Prop:=∀(H:Hp) (x y:Sl) (s:Sd) (Q:VK),x.ok K H->y.ok K H->f (x.o,x.d) (y.o,y.d)=some s->(∀(z:Sl) H',z.o=s.1->z.d=s.2->Out K H H' z (x.frz++y.frz)->Q z.v H')->r x.v y.v H Q
theorem kqg{K:PySem.W.Frag}{H H':Hp}{d:D}{v:V}{fr:List Addr}(s:kj H H')(r:RepL K H' false d v []):Out K H H' ⟨.dp,d,v,[]⟩ fr:=⟨s,r,λ_ h=>(nomatch h),Y1,λ_ h=>(nomatch h)⟩
theorem z6{H:Hp}:kj H H:=λ_ _ z=>z
theorem qk{H H1 H2:Hp}(a:kj H H1)(b:kj H1 H2):kj H H2:=λc ob h=>b c ob (a c ob h)
theorem KJ{z:Sl}{fr:List Addr}{H1 H2:Hp}{L1:Ls}(w:World Z.K H1 L1)(st:Step H L H1 L1)(o:Out Z.K H1 H2 z fr)(ap:∀b∈fr,b∉j7 L1)(al:∀b∈fr,H1 b≠none)(sr:Src H L fr):
  World Z.K H2 (some z::L1)/\Step H L H2 (some z::L1):=by
 have w2:World Z.K H2 L1:=⟨λx hx=>RepO.kp (w.ok x hx) (Kp.of_same o.same),w.nd,w.ds⟩;refine⟨w2.cons o.ok o.nd (λb hb ho=>w.own_some ho (o.new b hb)) (λb hb hf=>w.frz_some hf (o.new b hb)) (λb hb=>ap b (o.fr b hb)) (λb hb hf=>al b (o.fr b hf) (o.new b hb)),?_⟩;refine⟨λb ob h hn=>o.same b ob (st.keep b ob h hn),λb hb=>?_,λb hb=>?_⟩
 ·rw[jK]at hb;rcases List.mem_append.mp hb with z|z
  ·by_cases ho:b∈j7 L
   ·exact .inl ho
   ·refine .inr ?_;cases e:H b with
    |none=>rfl
    |some ob=>have:=o.new b z;rw[st.keep b ob e ho]at this;cases this
  ·exact st.own b z
 ·rw[qJ]at hb;rcases List.mem_append.mp hb with z|z
  ·exact sr b (o.fr b z)
  ·exact st.frz b z
theorem V4{as bs:List Addr}(h:Src H L as)(hb:∀b∈bs,b∈as):Src H L bs:=λb z=>h b (hb b z)
theorem qk2{as bs:List Addr}(h:Src H L as)(h':Src H L bs):Src H L (as++bs):=λb z=>(List.mem_append.mp z).elim (h b) (h' b)
theorem zj{H H1:Hp}{b:Addr}(s:kj H H1)(h:H1 b=none):H b=none:=by
 cases e:H b with
 |none=>rfl
 |some ob=>rw[s b ob e]at h;cases h
theorem Qq{r:V->Hp->VK->Prop}{f:Sd->Option Sd}(ad:Ad1 Z.K r f){Q:VK}(h:tQ Z q (cF1 f a) σ H Q):tUn r (tV Z q a) σ H Q:=by
 obtain⟨E,L,R,m,w,hc,xc,k⟩:=h;refine vZ m w hc xc λE1 s h1 x L1 H1 e1 e2 m1 w1 ok fr sr st sm=>?_
 obtain⟨z,hz,rfl⟩:=K0 h1;refine ad H1 x z Q ok (by rw[e1,e2];exact hz) λy H' ho hd o=>?_
 obtain⟨w3,d3⟩:=KJ w1 st o fr (λb hb=>ok.some (Sl.frz_as hb)) (V4 sr λb hb=>Sl.frz_as hb);exact k _ _ rfl y L1 H' ho hd m1 w3 d3 λhq=>⟨qk (sm hq) o.same,λb hb=>zj (sm hq) (o.new b hb)⟩
theorem kv0{r:R2}{f:Sd->Sd->Option Sd}(ad:Ad2 Z.K r f){Q:VK}(h:tQ Z qa (cF2 f a b) σ H Q):tOp r (tV Z qa a) (tV Z true b) σ H Q:=by
 obtain⟨E,L,R,m,w,hc,xc,k⟩:=h;refine vZ m w hc xc λE1 s h1 x L1 H1 e1 e2 m1 w1 ok fr sr st sm=>?_
 refine vZ m1 w1 h1 (xc.step st) λE2 s2 h2 y L2 H2 e3 e4 m2 w2 ic pw oh bm dh=>?_
 obtain⟨z,hz,rfl⟩:=K0 h2;have kx:=Qk ok fr bm (dh rfl);refine ad H2 x y z Q kx.1 ic (by rw[e1,e2,e3,e4];exact hz) λy' H' ho hd o=>?_
 obtain⟨w3,d3⟩:=KJ w2 (st.trans bm) o (λb hb=>(List.mem_append.mp hb).elim (kx.2 b) (pw b)) (λb hb=>(List.mem_append.mp hb).elim (λz=>kx.1.some (Sl.frz_as z)) λz=>ic.some (Sl.frz_as z))
  (qk2 (V4 sr λb hb=>Sl.frz_as hb) (V4 (oh.back st) λb hb=>Sl.frz_as hb))
 exact k _ _ rfl y' L2 H' ho hd m2 w3 d3 λhq=>⟨qk (sm hq) (qk (dh rfl) o.same),λb hb=>zj (qk (sm hq) (dh rfl)) (o.new b hb)⟩
theorem xY{op:Operator}{r:R2}{f:Sd->Sd->Option Sd}(ho:OpR X (binaryOp op) r)(ad:Ad2 Z.K r f)(ha:QV X Z qa a ea)(hb:QV X Z true b eb):QE X Z qa (cF2 f a b) (.BinOp ea op eb pos):=
 qV (vzx ho ha hb) fun σ H Q h=>kv0 ad h
theorem xV{op:CmpOp}{r:R2}{f:Sd->Sd->Option Sd}(ho:OpR X (compareOp op) r)(ad:Ad2 Z.K r f)(ha:QV X Z qa a ea)(hb:QV X Z true b eb)(hm:behindInMarks op eb=false):QE X Z qa (cF2 f a b) (.Compare ea [op] [eb] pos):=
 qV (vje ho ha hb hm) fun σ H Q h=>kv0 ad h
theorem wkr{op:UnaryOp}{r:V->Hp->VK->Prop}{f:Sd->Option Sd}(ho:UnR X (unaryOp op) r)(ad:Ad1 Z.K r f)(ha:QV X Z q a ea):QE X Z q (cF1 f a) (.UnaryOp op ea pos):=
 qV (vvk ho ha) fun σ H Q h=>Qq ad h
theorem RepA.get{K:PySem.W.Frag}{H:Hp}{g:Bool}:∀{ds:List D} {xs:List V} {as:List Addr} {i:Nat} {d:D},RepA K H g ds xs as->ds[i]?=some d->∃v bs,xs[i]?=some v/\RepL K H g d v bs/\∀b∈bs,b∈as
 | [],_,_,_,_,_,e=>by simp at e
 | d::ds,_,_,i,d',h,e=>by
  unfold RepA at h;obtain⟨x,r,bs,cs,rfl,rfl,h1,h2⟩:=h;cases i with
  |zero=>
   have e:d=d':=by simpa using e
   subst e;exact⟨x,bs,by simp,h1,λb hb=>ll9 _ hb⟩
  |succ i=>
   obtain⟨v,f8,e1,e2,e3⟩:=RepA.get (i:=i) h2 (by simpa using e);exact⟨v,f8,by simpa using e1,e2,λb hb=>lr9 _ (e3 b hb)⟩
theorem RepA.len{K:PySem.W.Frag}{H:Hp}{g:Bool}:∀{ds:List D} {xs:List V} {as:List Addr},RepA K H g ds xs as->ds.length=xs.length
 |[],_,_,h=>by unfold RepA at h;rw[h.1];rfl
 |d::ds,_,_,h=>by
  unfold RepA at h;obtain⟨x,r,bs,cs,rfl,rfl,h1,h2⟩:=h;simp[RepA.len h2]
theorem items{K:PySem.W.Frag}{H:Hp}{x:Sl}{ds:List D}(ok:x.ok K H)(h:x.d=.lst ds\/x.d=.tup ds):∃a xs bs,x.v=.ref a/\((x.d=.lst ds/\LsR K H a xs)\/(x.d=.tup ds/\SqT K H a xs))/\RepA K H (x.o != .dp) ds xs bs/\(∀b∈bs,b∈x.as)/\(x.o≠.dp->∀b∈bs,b∈x.frz):=by
 obtain⟨o,d,v,as⟩:=x;dsimp only at h;rcases h with rfl|rfl
 ·cases o with
  |no=>
   have ok:RepL K H true (.lst ds) v as:=ok;unfold RepL at ok;obtain⟨a,xs,bs,rfl,r,q⟩:=ok;rcases q with⟨q,rfl⟩|⟨_,q,rfl⟩
   ·exact⟨a,xs,bs,rfl,.inl ⟨rfl,.inl (.inl q)⟩,r,λb hb=>lc9 _ hb,λ_ b hb=>lc9 _ hb⟩
   ·exact⟨a,xs,as,rfl,.inl ⟨rfl,.of q⟩,r,λb hb=>hb,λ_ b hb=>hb⟩
  |rt=>
   obtain⟨a,xs,bs,rfl,r,q,rfl⟩:=(show RepR K H (.lst ds) v as from ok);exact⟨a,xs,bs,rfl,.inl ⟨rfl,.inl (.inl q)⟩,r,λb hb=>lc9 _ hb,λ_ b hb=>by simpa [Sl.frz]using hb⟩
  |dp=>
   have ok:RepL K H false (.lst ds) v as:=ok;unfold RepL at ok;obtain⟨a,xs,bs,rfl,r,q⟩:=ok;rcases q with⟨q,rfl⟩|⟨z,_⟩
   ·exact⟨a,xs,bs,rfl,.inl ⟨rfl,.inl (.inl q)⟩,r,λb hb=>lc9 _ hb,λz=>absurd rfl z⟩
   ·cases z
 ·cases o with
  |no=>
   have ok:RepL K H true (.tup ds) v as:=ok;unfold RepL at ok;obtain⟨a,xs,rfl,q,r⟩:=ok;exact⟨a,xs,as,rfl,.inr ⟨rfl,q⟩,r,λb hb=>hb,λ_ b hb=>hb⟩
  |rt=>exact(show RepR K H (.tup ds) v as from ok).elim
  |dp=>
   have ok:RepL K H false (.tup ds) v as:=ok;unfold RepL at ok;obtain⟨a,xs,rfl,q,r⟩:=ok;exact⟨a,xs,as,rfl,.inr ⟨rfl,q⟩,r,λb hb=>hb,λz=>absurd rfl z⟩
theorem J5{K:PySem.W.Frag}{H:Hp}{x:Sl}{ds:List D}(ok:x.ok K H)(h:x.d=.lst ds\/x.d=.tup ds)(hl:qW (x.o,x.d)=true):∃a xs bs,x.v=.ref a/\((x.d=.lst ds/\LsR K H a xs)\/(x.d=.tup ds/\SqT K H a xs))/\RepA K H true ds xs bs/\(∀b∈bs,b∈x.frz):=by
 obtain⟨a,xs,bs,e,q,r,h1,h2⟩:=items ok h
 by_cases ho:x.o=.dp
 ·have hp:D.pures ds=true:=by
   unfold qW at hl;rw[show(x.o,x.d).1=Own.dp from ho]at hl;have:wq2 x.d=ds:=by rcases h with h|h<;>rw[h]<;>rfl
   simpa [this]using hl
  obtain⟨rfl,r'⟩:=RepA.pu (g':=true) r hp;exact⟨a,xs,[],e,q,r',λ_ z=>nomatch z⟩
 ·have:(x.o != Own.dp)=true:=by simpa using ho
  rw[this]at r;exact⟨a,xs,bs,e,q,r,h2 ho⟩
end
section
variable {K:PySem.W.Frag}{H:Hp}{x y:Sl}
theorem qz{i:Int}(ok:x.ok K H)(h:x.d=.int i):x.v=.int i:=by
 have:=RepO.wk ok;rw[h]at this;unfold RepL at this;exact this.1
theorem QK{i:Bool}(ok:x.ok K H)(h:x.d=.bl i):x.v=.bl i:=by
 have:=RepO.wk ok;rw[h]at this;unfold RepL at this;exact this.1
theorem qxv(ok:x.ok K H)(h:x.d=.non):x.v=.non:=by
 have:=RepO.wk ok;rw[h]at this;unfold RepL at this;exact this.1
theorem zV{z:Str}(ok:x.ok K H)(h:x.d=.str z):x.v=.str z/\z.length<=sizeLine:=by
 have:=RepO.wk ok;rw[h]at this;unfold RepL at this;exact⟨this.1,this.2.2⟩
theorem K6{i:Int}{g:Bool}:RepL K H g (.int i) (.int i) []:=by unfold RepL;exact⟨rfl,rfl⟩
theorem vJ{i:Bool}{g:Bool}:RepL K H g (.bl i) (.bl i) []:=by unfold RepL;exact⟨rfl,rfl⟩
theorem qkb{g:Bool}:RepL K H g .non .non []:=by unfold RepL;exact⟨rfl,rfl⟩
theorem W6{z:Str}{g:Bool}(h:z.length<=sizeLine):RepL K H g (.str z) (.str z) []:=by unfold RepL;exact⟨rfl,rfl,h⟩
theorem K8{i:Int}{fr:List Addr}:Out K H H ⟨.dp,.int i,.int i,[]⟩ fr:=kqg z6 K6
theorem Jk{i:Bool}{fr:List Addr}:Out K H H ⟨.dp,.bl i,.bl i,[]⟩ fr:=kqg z6 vJ
theorem YX{z:Str}{fr:List Addr}(h:z.length<=sizeLine):Out K H H ⟨.dp,.str z,.str z,[]⟩ fr:=kqg z6 (W6 h)
theorem vkm{C:Int->Int->Prop}{g:Int->Int->Int}{f:Int->Int->Option Int}(h:∀i j k,f i j=some k->C i j/\k=g i j):Ad2 K (rI C λi j=>.int (g i j)) (pu2 (i2 f)):=by
 intro H x y s Q ox oy hf k;unfold pu2 i2 at hf;dsimp only at hf
 split at hf
 ·rename_i i j e1 e2;cases hk:f i j with
  |none=>rw[hk]at hf;cases hf
  |some n=>
   rw[hk]at hf;cases oq9 hf;obtain⟨hc,rfl⟩:=h i j n hk;exact⟨i,j,qz ox e1,qz oy e2,hc,k ⟨.dp,.int (g i j),.int (g i j),[]⟩ H rfl rfl K8⟩
 ·cases hf
theorem wk3{g:Int->Int->Int}{f:Int->Int->Option Int}(h:∀i j,f i j=some (g i j)):Ad2 K (rI0 λi j=>.int (g i j)) (pu2 (i2 f)):=by
 intro H x y s Q ox oy hf k;unfold pu2 i2 at hf;dsimp only at hf
 split at hf
 ·rename_i i j e1 e2;rw[h]at hf;cases oq9 hf;exact⟨i,j,qz ox e1,qz oy e2,k ⟨.dp,.int (g i j),.int (g i j),[]⟩ H rfl rfl K8⟩
 ·cases hf
theorem xQ{g:Int->Int->Bool}:Ad2 K (rI0 λi j=>.bl (g i j)) (pu2 (c2 g)):=by
 intro H x y s Q ox oy hf k;unfold pu2 c2 at hf;dsimp only at hf
 split at hf
 ·rename_i i j e1 e2;cases oq9 hf;exact⟨i,j,qz ox e1,qz oy e2,k ⟨.dp,.bl (g i j),.bl (g i j),[]⟩ H rfl rfl Jk⟩
 ·cases hf
theorem Vw:Ad2 K (rI0 λi j=>.int (i - j)) (pu2 K2):=wk3 λ_ _=>rfl
theorem qzh:Ad2 K (rI vxp λi j=>.int (i / j)) (pu2 z8):=vkm λi j k h=>by
 split at h
 ·rename_i c;exact⟨c,(oq9 h).symm⟩
 ·cases h
theorem vxj:Ad2 K (rI (λ_ j=>0<j) λi j=>.int (i % j)) (pu2 kq):=vkm λi j k h=>by
 split at h
 ·rename_i c;exact⟨c,(oq9 h).symm⟩
 ·cases h
theorem qzd:Ad2 K (rI wqf λi j=>.int (i ^ j.toNat)) (pu2 vz3):=vkm λi j k h=>by
 split at h
 ·rename_i c;exact⟨c,(oq9 h).symm⟩
 ·cases h
end
noncomputable def vqu(K:PySem.W.Frag):R2:=λx y H Q=>∃l b xs zs,x=.ref l/\y=.ref b/\LsR K H l xs/\LsR K H b zs/\xs.length+zs.length<=sizeLine/\∀p,H p=none->Q (.ref p) (upd H p (.lst (xs++zs)))
theorem op_catL{X:Cx}:OpR X (binaryOp .Add) (vqu X.K):=by
 intro pins s σ H x y v u Q I rx ry h;obtain⟨l,b,xs,zs,rfl,rfl,hH,hB,hz,q⟩:=h;cases rx;cases ry;obtain⟨z,aa,n,r,e⟩:=hH.is I;obtain⟨z2,ja,n2,r2,e2⟩:=hB.is I;have hl:=r.length;have hl2:=r2.length;refine PySem.P.add_list e e2 ?_ (by rw[X8,X8];lia);have ea:aa.toArray++ja.toArray=(aa++ja).toArray:=by simp
 rw[ea];exact⟨.ref _,_,I.lnew (t':=s.toks) (r.append r2) (by rw[Xi];lia),rfl,q _ I.fresh⟩
def vqv(K:PySem.W.Frag):R2:=λx y H Q=>∃a b ys,x=.ref a/\y=.ref b/\SqT K H a []/\SqT K H b ys/\Q (.ref b) H
theorem op_catE{X:Cx}:OpR X (binaryOp .Add) (vqv X.K):=by
 intro pins s σ H x y v u Q I rx ry h;obtain⟨a,b,ys,rfl,rfl,ha,hb,q⟩:=h;cases rx;cases ry;obtain⟨aa,r1,p1,_⟩:=I.tuple ha;obtain⟨ja,r2,p2,_⟩:=I.tuple hb;obtain⟨⟨cls,dd,data,sl⟩,ho,hc,n,hd⟩:=id p1;obtain⟨⟨cls2,dd2,data2,lb⟩,ho2,hc2,n2,gi⟩:=id p2;simp only at hc hd hc2 gi;subst hc hd hc2 gi;have e:aa=[]:=r1.nil_iff.mpr rfl;subst e;exact concat_meets ⟨_,ho,rfl⟩ ⟨_,ho2,rfl⟩ noFill_tuple_add seq_tuple_add PySem.F.slot_tuple_add PySem.F.entry_tuple_add (PySem.F.args_tuple_add_2 _ _)
   (tuple_addW0 a b [].toArray ja.toArray n n2 dd dd2 sl lb (by simp)) ⟨ho,ho2,⟨.ref b,H,I,rfl,q⟩⟩
noncomputable def vqw(K:PySem.W.Frag):R2:=λx y H Q=>rI0 (λi j=>.int (i+j)) x y H Q\/(∃i j,x=.str i/\y=.str j/\i.length+j.length<=sizeLine/\Q (.str (i++j)) H)\/vqu K x y H Q\/vqv K x y H Q\/vqt K x y H Q
theorem vw4{X:Cx}{K:PySem.W.Frag}(hK:X.K=K):OpR X (binaryOp .Add) (vqw K):=by subst hK;exact op_add.or (op_add_str.or (op_catL.or (op_catE.or vjj)))
theorem RepA.app{K:PySem.W.Frag}{H:Hp}{g:Bool}{ds':List D}{xs':List V}{f8:List Addr}(h':RepA K H g ds' xs' f8):∀{ds:List D} {xs:List V} {as:List Addr},RepA K H g ds xs as->RepA K H g (ds++ds') (xs++xs') (as++f8)
 |[],_,_,h=>by unfold RepA at h;rw[h.1,h.2];exact h'
 |d::ds,_,_,h=>by
  unfold RepA at h;obtain⟨x,r,bs,cs,rfl,rfl,h1,h2⟩:=h;rw[List.cons_append];unfold RepA;exact⟨x,r++xs',bs,cs++f8,rfl,by rw[Xm],h1,RepA.app h' h2⟩
theorem z7{H:Hp}{p:Addr}{o:HO}(h:H p=none):kj H (upd H p o):=λb u q=>by rw[kW (Jw q h)];exact q
theorem JK{K:PySem.W.Frag}{H:Hp}{p:Addr}{ds:List D}{xs:List V}{bs fr:List Addr}(hp:H p=none)(r:RepA K H true ds xs bs)(hb:∀b∈bs,b∈fr):Out K H (upd H p (.lst xs)) ⟨.rt,.lst ds,.ref p,p::bs⟩ fr:=by
 refine⟨z7 hp,⟨p,xs,bs,rfl,r.kp (Kp.of_same (z7 hp)),xq,rfl⟩,λb hb=>?_,?_,λb df=>hb b (by simpa [Sl.frz]using df)⟩
 ·have:b=p:=by simpa [Sl.own]using hb
  rw[this];exact hp
 ·simp[Sl.own]
theorem YW{K:PySem.W.Frag}{H:Hp}{p:Addr}{ds:List D}{xs:List V}{bs fr:List Addr}(hp:H p=none)(r:RepA K H true ds xs bs)(hb:∀b∈bs,b∈fr):Out K H (upd H p (.tup xs)) ⟨.no,.tup ds,.ref p,bs⟩ fr:=by
 refine⟨z7 hp,?_,λb hb=>(nomatch hb),Y1,λb df=>hb b df⟩;show RepL K _ true (.tup ds) (.ref p) bs;unfold RepL;exact⟨p,xs,rfl,SqT.of xq,r.kp (Kp.of_same (z7 hp))⟩
theorem vxm{K:PySem.W.Frag}:Ad2 K (vqw K) j9:=by
 intro H x y s Q ox oy hf k;unfold j9 at hf;dsimp only at hf
 split at hf
 ·rename_i i j e1 e2;cases oq9 hf;exact .inl ⟨i,j,qz ox e1,qz oy e2,k ⟨.dp,.int _,.int _,[]⟩ H rfl rfl K8⟩
 ·rename_i i j e1 e2
  split at hf
  ·rename_i hl;cases oq9 hf;have hl':(i++j).length<=sizeLine:=by rw[strLen_append];exact hl
   exact .inr (.inl ⟨i,j,(zV ox e1).1,(zV oy e2).1,hl,k ⟨.dp,.str _,.str _,[]⟩ H rfl rfl (YX hl')⟩)
  ·cases hf
 ·rename_i i j e1 e2
  split at hf
  ·rename_i hl;cases oq9 hf;obtain⟨a,xs,bs,e3,q3,r3,h3⟩:=J5 ox (.inl e1) hl.2.1;obtain⟨b,ys,cs,e4,q4,r4,h4⟩:=J5 oy (.inl e2) hl.2.2;have q3:LsR K H a xs:=by rcases q3 with⟨_,z⟩|⟨z,_⟩;exact z;rw[e1]at z;cases z
   have q4:LsR K H b ys:=by rcases q4 with⟨_,z⟩|⟨z,_⟩;exact z;rw[e2]at z;cases z
   refine .inr (.inr (.inl ⟨a,b,xs,ys,e3,e4,q3,q4,by rw[<-r3.len,<-r4.len];exact hl.1,λp hp=>?_⟩));exact k ⟨.rt,.lst (i++j),.ref p,p::(bs++cs)⟩ _ rfl rfl (JK hp (r4.app r3) λb hb=>(List.mem_append.mp hb).elim (λz=>ll9 _ (h3 b z)) λz=>lr9 _ (h4 b z))
  ·cases hf
 ·rename_i i j e1 e2
  split at hf
  ·rename_i hl;cases oq9 hf;obtain⟨a,xs,bs,e3,q3,r3,h3⟩:=J5 ox (.inr e1) hl.2.1;obtain⟨b,ys,cs,e4,q4,r4,h4⟩:=J5 oy (.inr e2) hl.2.2;have q3:SqT K H a xs:=by rcases q3 with⟨z,_⟩|⟨_,z⟩;rw[e1]at z;cases z;exact z
   have q4:SqT K H b ys:=by rcases q4 with⟨z,_⟩|⟨_,z⟩;rw[e2]at z;cases z;exact z
   have ap:=r4.app r3;have jf:∀b∈bs++cs,b∈x.frz++y.frz:=λb hb=>(List.mem_append.mp hb).elim (λz=>ll9 _ (h3 b z)) λz=>lr9 _ (h4 b z)
   have same:∀c zs,zs=xs++ys->SqT K H c zs->Q (.ref c) H:=λc zs e hq=>by
    refine k ⟨.no,.tup (i++j),.ref c,bs++cs⟩ H rfl rfl ⟨z6,?_,λb hb=>(nomatch hb),Y1,jf⟩;show RepL K H true (.tup (i++j)) (.ref c) (bs++cs);unfold RepL;exact⟨c,zs,rfl,hq,by rw[e];exact ap⟩
   by_cases hx:xs=[]
   ·subst hx;exact .inr (.inr (.inr (.inl ⟨a,b,ys,e3,e4,q3,q4,same b ys rfl q4⟩)))
   ·refine .inr (.inr (.inr (.inr ⟨a,b,xs,ys,e3,e4,q3,q4,hx,by rw[<-r3.len,<-r4.len];exact hl.1,λhy=>?_,λhy p hp=>?_⟩)))
    ·exact same a xs (by rw[hy,Y0]) q3
    ·exact k ⟨.no,.tup (i++j),.ref p,bs++cs⟩ _ rfl rfl (YW hp ap jf)
  ·cases hf
 ·cases hf
noncomputable def tT(Z:Fx0)(q:Bool)(c:Ts):TT:=fun σ H Q=>∃E L r,Mt E σ L/\World Z.K H L/\c E=some r/\Xc Z σ H L r /\
 ∀E' k,r=.ok E' k->∀L' H',Mt E' σ L'->World Z.K H' L'->Step H L H' L'->(q=true->kj H H')->Q k H'
def QT(X:Cx)(Z:Fx0)(q:Bool)(c:Ts)(e:Expr):Prop:=PT X e (tT Z q c)
def QW(X:Cx)(Z:Fx0)(q:Bool)(c:Ts)(e:Expr):Prop:=PW X e (tT Z q c)
section
variable {X:Cx}{Z:Fx0}{q qa qb:Bool}{a b c:Ex}{u v:Ts}{e ea eb:Expr}{es:List Expr}{pos:Pos}{α β:Type}{σ:L2.St}{H:Hp}{L:Ls}{E:En}
theorem vva{e:Expr}{t t':TT}(h:PW X e t)(w:∀ σ H Q,t' σ H Q->t σ H Q):PW X e t':=λwh pins s σ H Q I q=>h wh pins s σ H Q I (w σ H Q q)
theorem vq0{F:En->Bool->Option (Res α)}{r:Res α}{G:Bool->Hp->Prop}(m:Mt E σ L)(w:World Z.K H L)(h:bnd (u E) F=some r)(xc:Xc Z σ H L r)
  (k:∀E1 s,F E1 s=some r->∀L1 H1,Mt E1 σ L1->World Z.K H1 L1->Step H L H1 L1->(q=true->kj H H1)->G s H1):tT Z q u σ H G:=by
 rcases vY h with⟨E1,s,h1,h2⟩|⟨E1,c,h1,h2⟩
 ·exact⟨E,L,_,m,w,h1,(λ_ _ z=>by cases z),λE' s' z L' H' m' w' st sm=>by
   injection z with z1 z2;subst z1 z2;exact k _ _ h2 L' H' m' w' st sm⟩
 ·exact⟨E,L,_,m,w,h1,xc.map h2,λE' s' z=>by cases z⟩
theorem Vv(ha:QT X Z q u ea):QW X Z q u (.BoolOp .Or [ea] pos):=vv9 ha
theorem W1(ha:QT X Z q u ea)(hb:QW X Z q v (.BoolOp .Or (eb::es) pos)):QW X Z q (Q.tOr u v) (.BoolOp .Or (ea::eb::es) pos):=
 vva (vzu ha hb) fun σ H Q av=>ex8 av λE L r m w hc xc k=>vq0 m w hc xc λE1 s h1 L1 H1 m1 w1 st sm=>by
  cases s with
  |false=>
   rw[Xj (by decide)]at h1 ⊢;exact⟨E1,L1,r,m1,w1,h1,xc.step st,λE' k' z L' H' m' w' fu mf=>k E' k' z L' H' m' w' (st.trans fu) λhq=>qk (sm hq) (mf hq)⟩
  |true=>
   rw[Xf rfl]at h1 ⊢;cases oq9 h1;exact k _ _ rfl L1 H1 m1 w1 st sm
theorem QW.pt(h:QW X Z q u e):QT X Z q u e:=PW.pt h
theorem wW(ha:QT X Z q u ea):QT X Z q (Q.tNot u) (.UnaryOp .Not ea pos):=
 kz2 (vvc ha) fun σ H Q av=>ex8 av λE L r m w hc xc k=>vq0 m w hc xc λE1 s h1 L1 H1 m1 w1 st sm=>by
  cases oq9 h1;exact k _ _ rfl L1 H1 m1 w1 st sm
theorem QJ{op:CmpOp}{r:R2}{f:Sd->Sd->Option Sd}(ho:OpR X (compareOp op) r)(ad:Ad2 Z.K r f)(ha:QV X Z qa a ea)(hb:QV X Z true b eb)(hm:behindInMarks op eb=false)(hf:∀x y s,f x y=some s->∃k,s.2=.bl k):QT X Z qa (Q.tE (cF2 f a b)) (.Compare ea [op] [eb] pos):=
 kz2 (vj5 ho ha hb hm) fun σ H Q av=>ex8 av λE L r m w hc xc k=>by
  refine kv0 ad ?_;have lc:bnd (cF2 f a b E) (λE x=>val E (truth x.2))=some r:=hc;rcases vY lc with⟨E1,s,h1,h2⟩|⟨E1,c,h1,h2⟩
  ·refine⟨E,L,_,m,w,h1,(λ_ _ z=>by cases z),λE' s' z x L' H' e1 e2 m' w' st sm=>?_⟩;injection z with z1 z2;subst z1 z2;obtain⟨kk,hk⟩:∃k,s.2=.bl k:=by
    unfold cF2 at h1;rcases vY h1 with⟨E2,s2,h3,h4⟩|⟨_,_,_,z⟩
    ·rcases vY h4 with⟨E3,s3,h5,h6⟩|⟨_,_,_,z⟩
     ·obtain⟨y,hy,z⟩:=K0 h6;cases z;exact hf _ _ _ hy
     ·cases z
    ·cases z
   rw[hk]at h2;cases oq9 h2;exact⟨kk,QK w'.head (e2.trans hk),k _ _ rfl L' H' m' w'.tail (st.trans Step.drop) λhq=>(sm hq).1⟩
  ·exact⟨E,L,_,m,w,h1,xc.map h2,λE' s' z=>by cases z⟩
end
def Pn(pn:List Nat)(σ σ':L2.St):Prop:=∀p∈pn,σ'[p]?=σ[p]?
theorem Pn.refl{pn:List Nat}{σ:L2.St}:Pn pn σ σ:=λ_ _=>rfl
theorem Pn.trans{pn:List Nat}{σ σ1 σ2:L2.St}(a:Pn pn σ σ1)(b:Pn pn σ1 σ2):Pn pn σ σ2:=λp hp=>(b p hp).trans (a p hp)
theorem Pn.set{pn:List Nat}{σ σ1:L2.St}{i:Nat}{y:Option V}(a:Pn pn σ σ1)(h:i∉pn):Pn pn σ (σ1.set i y):=λp hp=>by
 have:i≠p:=λe=>h (e▸hp)
 rw[Xz this];exact a p hp
noncomputable def FlP(Z:Fx0)(pn:List Nat)(D:Ends)(σ:L2.St)(H:Hp)(L:Ls):Fl->Prop
 |.nx E'=>∀ σ' L' H',Pn pn σ σ'->Mt E' σ' L'->World Z.K H' L'->Step H L H' L'->D.nx σ' H'
 |.ct E'=>∀ σ' L' H',Pn pn σ σ'->Mt E' σ' L'->World Z.K H' L'->Step H L H' L'->D.ct σ' H'
 |.bk E'=>∀ σ' L' H',Pn pn σ σ'->Mt E' σ' L'->World Z.K H' L'->Step H L H' L'->D.bk σ' H'
 |.rt E' a=>∀(x:Sl) σ' L' H',x.o=a.1->x.d=a.2->Pn pn σ σ'->Mt E' σ' L'->World Z.K H' (some x::L')->Step H L H' (some x::L')->D.rt x.v H'
 |.xc E' c=>∀C σ' L' H',Z.mg c=some (.ref C)->Pn pn σ σ'->Mt E' σ' L'->World Z.K H' L'->Step H L H' L'->Z.EX (.ref C) none H'
theorem FlP.step{Z:Fx0}{pn:List Nat}{D:Ends}{σ σ1:L2.St}{H H1:Hp}{L L1:Ls}{r:Fl}(k:FlP Z pn D σ H L r)(s:Step H L H1 L1)(p:Pn pn σ σ1):FlP Z pn D σ1 H1 L1 r:=by
 cases r with
 |nx E'=>exact fun σ' L' H' p' m w s'=>k σ' L' H' (p.trans p') m w (s.trans s')
 |ct E'=>exact fun σ' L' H' p' m w s'=>k σ' L' H' (p.trans p') m w (s.trans s')
 |bk E'=>exact fun σ' L' H' p' m w s'=>k σ' L' H' (p.trans p') m w (s.trans s')
 |rt E' a=>exact λx σ' L' H' e1 e2 p' m w s'=>k x σ' L' H' e1 e2 (p.trans p') m w (s.trans s')
 |xc E' c=>exact λC σ' L' H' hm p' m w s'=>k C σ' L' H' hm (p.trans p') m w (s.trans s')
theorem FlP.xc{α:Type}{Z:Fx0}{pn:List Nat}{D:Ends}{σ:L2.St}{H:Hp}{L:Ls}{E':En}{c:Str}(k:FlP Z pn D σ H L (.xc E' c)):Xc Z σ H L (.exc E' c:Res α):=λE1 c1 e C L' H' hm m w s=>by
 injection e with h1 h2;subst h1 h2;exact k C σ L' H' hm Pn.refl m w s
def tS(Z:Fx0)(pn:List Nat)(c:Sm):TS:=λD σ H=>∃E L r,Mt E σ L/\World Z.K H L/\c E=some r/\FlP Z pn D σ H L r
def QS(X:Cx)(Z:Fx0)(pn:List Nat)(c:Sm)(st:Stmt):Prop:=PS X st (tS Z pn c)
def QSs(X:Cx)(Z:Fx0)(pn:List Nat)(c:Sm)(st:List Stmt):Prop:=PSs X st (tS Z pn c)
section
variable {X:Cx}{Z:Fx0}{pn:List Nat}{q qa qb:Bool}{a b c:Ex}{u v:Ts}{A B:Sm}{e ea eb:Expr}{st:Stmt}{ss tt:List Stmt}{pos:Pos}{α:Type}{σ:L2.St}{H:Hp}{L:Ls}{E:En}{D:Ends}
theorem jxv{m:Option (Res α)}{F:En->α->Option Fl}{r:Fl}(h:ofE m F=some r):(∃E1 x,m=some (.ok E1 x)/\F E1 x=some r)\/∃E1 c,m=some (.exc E1 c)/\r=.xc E1 c:=by
 cases m with
 |none=>cases h
 |some q=>
  cases q with
  |ok E1 x=>exact .inl ⟨E1,x,rfl,h⟩
  |exc E1 c=>exact .inr ⟨E1,c,rfl,(oq9 h).symm⟩
theorem Vk{F:En->Sd->Option Fl}{r:Fl}{G:VK}(m:Mt E σ L)(w:World Z.K H L)(h:ofE (a E) F=some r)(k:FlP Z pn D σ H L r)
  (g:∀E1 s,F E1 s=some r->∀(x:Sl) L1 H1,x.o=s.1->x.d=s.2->Mt E1 σ L1->World Z.K H1 (some x::L1)->Step H L H1 (some x::L1)->(q=true->kj H H1/\∀b∈x.own,H b=none)->G x.v H1):tQ Z q a σ H G:=by
 rcases jxv h with⟨E1,s,h1,h2⟩|⟨E1,c,h1,rfl⟩
 ·exact⟨E,L,_,m,w,h1,(λ_ _ z=>by cases z),λE' s' z x L' H' e1 e2 m' w' st sm=>by
   injection z with z1 z2;subst z1 z2;exact g _ _ h2 x L' H' e1 e2 m' w' st sm⟩
 ·exact⟨E,L,_,m,w,h1,k.xc,λE' s' z=>by cases z⟩
theorem vqe{F:En->Bool->Option Fl}{r:Fl}{G:Bool->Hp->Prop}(m:Mt E σ L)(w:World Z.K H L)(h:ofE (u E) F=some r)(k:FlP Z pn D σ H L r)
  (g:∀E1 s,F E1 s=some r->∀L1 H1,Mt E1 σ L1->World Z.K H1 L1->Step H L H1 L1->G s H1):tT Z q u σ H G:=by
 rcases jxv h with⟨E1,s,h1,h2⟩|⟨E1,c,h1,rfl⟩
 ·exact⟨E,L,_,m,w,h1,(λ_ _ z=>by cases z),λE' s' z L' H' m' w' st sm=>by
   injection z with z1 z2;subst z1 z2;exact g _ _ h2 L' H' m' w' st⟩
 ·exact⟨E,L,_,m,w,h1,k.xc,λE' s' z=>by cases z⟩
theorem wX:QSs X Z pn vj []:=kwu vj7 λD σ H av=>ex7 av λE L r m w hc k=>by
 cases oq9 hc;exact k σ L H Pn.refl m w Step.refl
theorem jq(h1:QS X Z pn A st)(h2:QSs X Z pn B ss):QSs X Z pn (j6 A B) (st::ss):=kwu (jxl h1 h2) λD σ H av=>ex7 av λE L r m w hc k=>by
 unfold j6 at hc;cases ha:A E with
 |none=>rw[ha]at hc;cases hc
 |some f=>
  rw[ha]at hc;cases f with
  |nx E1=>exact⟨E,L,_,m,w,ha,fun σ' L' H' p m' w' s=>⟨E1,L',r,m',w',hc,k.step s p⟩⟩
  |ct E1=>cases oq9 hc;exact⟨E,L,_,m,w,ha,k⟩
  |bk E1=>cases oq9 hc;exact⟨E,L,_,m,w,ha,k⟩
  |rt E1 x=>cases oq9 hc;exact⟨E,L,_,m,w,ha,k⟩
  |xc E1 x=>cases oq9 hc;exact⟨E,L,_,m,w,ha,k⟩
theorem jQ(h1:QS X Z pn A st):QSs X Z pn A [st]:=vj6 h1
theorem kK(h:QE X Z q a ea):QS X Z pn (jX a) (.Return (some ea) pos):=JZ (vvd h) λD σ H av=>ex7 av λE L r m w hc k=>
 Vk m w hc k λE1 s h1 x L1 H1 e1 e2 m1 w1 st _=>by
  cases oq9 h1;exact k x σ L1 H1 e1 e2 Pn.refl m1 w1 st
theorem wV(hc:QT X Z q u e)(ha:QSs X Z pn A ss)(hb:QSs X Z pn B tt):QS X Z pn (sIf u A B) (.If e ss tt pos):=JZ (vzw hc ha hb) λD σ H av=>ex7 av λE L r m w hc k=>
 vqe m w hc k λE1 s h1 L1 H1 m1 w1 st=>by
  cases s with
  |true=>rw[Xf rfl]at h1 ⊢;exact⟨E1,L1,r,m1,w1,h1,k.step st Pn.refl⟩
  |false=>rw[Xj (by decide)]at h1 ⊢;exact⟨E1,L1,r,m1,w1,h1,k.step st Pn.refl⟩
theorem Jx{x:Sl}{i:Nat}{s:Sd}(m:Mt E σ L)(e1:x.o=s.1)(e2:x.d=s.2):Mt (E.set i (some s)) (σ.set i (some x.v)) (L.set i (some x)):=by
 have:=m.set (x:=x) i;rw[e1,e2]at this;exact this
theorem vv8{i:Nat}{y:Str}{bj:Pos}(hN:X.N.Nodup)(hi:X.N[i]?=some y)(hx:Loc X.env.scope y)(h:QE X Z q a ea)(hp:autoParam (i∉pn) ŕ)(hs:autoParam (swapsWith ea (some (.Name y bj)) pos.line X.env=pure false) Ŕ)(hf:autoParam (X.fn y=true\/X.env.scope.names.lookup y=some .local) Ř):
  QS X Z pn (jk i a) (.Assign [.Name y bj] ea pos):=JZ (qkn hN hi hx h hs hf) λD σ H av=>ex7 av λE L r m w hc k=>
 Vk m w hc k λE1 s h1 x L1 H1 e1 e2 m1 w1 st _=>by
  cases oq9 h1;exact k (σ.set i (some x.v)) (L1.set i (some x)) H1 (Pn.refl.set hp) (Jx m1 e1 e2) w1.set (st.trans Step.set)
theorem vv7{i:Nat}{y:Str}{bj:Pos}(hp:i∉pn)(h:PS X (.Assign [.Name y bj] ea pos) (λD σ H=>tQ Z q a σ H λv H1=>D.nx (σ.set i (some v)) H1)):
  QS X Z pn (jk i a) (.Assign [.Name y bj] ea pos):=JZ h λD σ H av=>ex7 av λE L r m w hc k=>
 Vk m w hc k λE1 s h1 x L1 H1 e1 e2 m1 w1 st _=>by
  cases oq9 h1;exact k (σ.set i (some x.v)) (L1.set i (some x)) H1 (Pn.refl.set hp) (Jx m1 e1 e2) w1.set (st.trans Step.set)
end
structure Walks (K:PySem.W.Frag)(J:It)(T:List Sl)(ds:List D):Prop where
 no:∀t∈T,t.o=.no
 go:∀i H,(∀t∈T,t.ok K H)->i<ds.length->J.go i H
 stop:∀H,(∀t∈T,t.ok K H)->J.stop ds.length H
 yld:∀i H v H' d,(∀t∈T,t.ok K H)->J.yld i H v H'->ds[i]?=some d->∃z:Sl,z.o=.no/\z.d=d/\z.v=v/\kj H H'/\z.ok K H'/\∀b∈z.as,∃t∈T,b∈t.as
noncomputable def tI(Z:Fx0)(q:Bool)(it:Ev (List D)):TI:=fun σ H R=>∃E L r,Mt E σ L/\World Z.K H L/\it E=some r/\Xc Z σ H L r /\
 ∀E' ds,r=.ok E' ds->∀J T L' H',Mt E' σ L'->World Z.K H' (L'++T.map some)->Step H L H' (L'++T.map some)->ds.length<=sizeLine->(q=true->kj H H')->Walks Z.K J T ds->R J H'
def QI(X:Cx)(Z:Fx0)(q:Bool)(tg:Expr)(it:Ev (List D))(e:Expr):Prop:=PI X tg e (tI Z q it)
def wk8(K:PySem.W.Frag)(H0:Hp)(T:List Sl)(H:Hp):Prop:=(∀t∈T,t.ok K H)/\∀t∈T,Kp H0 H t.as
structure WalksD (K:PySem.W.Frag)(H0:Hp)(J:It)(T:List Sl)(ds:List D):Prop where
 no:∀t∈T,t.o=.no
 go:∀i H,wk8 K H0 T H->i<ds.length->J.go i H
 stop:∀H,wk8 K H0 T H->J.stop ds.length H
 yld:∀i H v H' d,wk8 K H0 T H->J.yld i H v H'->ds[i]?=some d->∃z:Sl,z.o=.no/\z.d=d/\z.v=v/\kj H H'/\z.ok K H'/\∀b∈z.as,∃t∈T,b∈t.as
theorem Walks.D{K:PySem.W.Frag}{H0:Hp}{J:It}{T:List Sl}{ds:List D}(h:Walks K J T ds):WalksD K H0 J T ds:=⟨h.no,λi H o=>h.go i H o.1,λH o=>h.stop H o.1,λi H v H' d o=>h.yld i H v H' d o.1⟩
noncomputable def tID(Z:Fx0)(q:Bool)(it:Ev (List D)):TI:=fun σ H R=>∃E L r,Mt E σ L/\World Z.K H L/\it E=some r/\Xc Z σ H L r /\
 ∀E' ds,r=.ok E' ds->∀J T L' H',Mt E' σ L'->World Z.K H' (L'++T.map some)->Step H L H' (L'++T.map some)->ds.length<=sizeLine->(q=true->kj H H')->WalksD Z.K H' J T ds->R J H'
def QID(X:Cx)(Z:Fx0)(q:Bool)(tg:Expr)(it:Ev (List D))(e:Expr):Prop:=PI X tg e (tID Z q it)
theorem QI.D{X:Cx}{Z:Fx0}{q:Bool}{tg:Expr}{it:Ev (List D)}{e:Expr}(h:QI X Z q tg it e):QID X Z q tg it e:=λpins s σ H R I hz=>h pins s σ H R I (by
 obtain⟨E,L,r,m,w,e,x,k⟩:=hz;exact⟨E,L,r,m,w,e,x,λE' ds z J T L' H' m' w' st hl sm wk=>k E' ds z J T L' H' m' w' st hl sm wk.D⟩)
structure WalksS (K:PySem.W.Frag)(q:Bool)(H0:Hp)(J:It)(T:List Sl)(ds:List D):Prop where
 no:∀t∈T,t.o=.no
 go:∀i H,(∀t∈T,t.ok K H)->(q=true->kj H0 H)->i<ds.length->J.go i H
 stop:∀H,(∀t∈T,t.ok K H)->(q=true->kj H0 H)->J.stop ds.length H
 yld:∀i H v H' d,(∀t∈T,t.ok K H)->(q=true->kj H0 H)->J.yld i H v H'->ds[i]?=some d->∃z:Sl,z.o=.no/\z.d=d/\z.v=v/\kj H H'/\z.ok K H'/\∀b∈z.as,∃t∈T,b∈t.as
theorem qzj{K:PySem.W.Frag}{q:Bool}{H0:Hp}{J:It}{T:List Sl}{ds:List D}(h:Walks K J T ds):WalksS K q H0 J T ds:=⟨h.no,λi H o _=>h.go i H o,λH o _=>h.stop H o,λi H v H' d o _=>h.yld i H v H' d o⟩
noncomputable def tIS(Z:Fx0)(q:Bool)(it:Ev (List D)):TI:=fun σ H R=>∃E L r,Mt E σ L/\World Z.K H L/\it E=some r/\Xc Z σ H L r /\
 ∀E' ds,r=.ok E' ds->∀J T L' H',Mt E' σ L'->World Z.K H' (L'++T.map some)->Step H L H' (L'++T.map some)->ds.length<=sizeLine->(q=true->kj H H')->WalksS Z.K q H J T ds->R J H'
def QIS(X:Cx)(Z:Fx0)(q:Bool)(tg:Expr)(it:Ev (List D))(e:Expr):Prop:=PI X tg e (tIS Z q it)
theorem wkq{X:Cx}{Z:Fx0}{q:Bool}{tg:Expr}{it:Ev (List D)}{e:Expr}(h:QI X Z q tg it e):QIS X Z q tg it e:=λpins s σ H R I hz=>h pins s σ H R I (by
 obtain⟨E,L,r,m,w,e,x,k⟩:=hz;exact⟨E,L,r,m,w,e,x,λE' ds z J T L' H' m' w' st hl sm wk=>k E' ds z J T L' H' m' w' st hl sm (qzj wk)⟩)
noncomputable def tG(Z:Fx0)(pn:List Nat)(tg:Tg):TG:=λv σ H Q=>∃(E:En) (L:Ls) (z:Sl) (E':En),Mt E σ L/\World Z.K H (some z::L)/\z.o=.no/\z.v=v/\tg.put z.d E=some E' /\
 ∀ σ' L',Pn pn σ σ'->Mt E' σ' L'->World Z.K H L'->Step H (some z::L) H L'->Q σ' H
def QG(X:Cx)(Z:Fx0)(pn:List Nat)(tg:Tg)(e:Expr):Prop:=PG X e (tG Z pn tg)
section
variable {X:Cx}{Z:Fx0}{pn:List Nat}{e:Expr}{σ:L2.St}{H:Hp}{L:Ls}{E:En}
theorem qxt{t t':TG}(h:PG X e t)(w:∀v σ H Q,t' v σ H Q->t v σ H Q):PG X e t':=λpins s σ H x v Q I r q=>h pins s σ H x v Q I r (w x σ H Q q)
theorem vxx{i:Nat}(h:PG X e (qqy i))(hp:autoParam (i∉pn) ŕ):QG X Z pn (.n i) e:=qxt h λv σ H Q ⟨E,L,z,E',m,w,ho,hv,bp,k⟩=>by
 cases oq9 bp;rw[<-hv];exact k (σ.set i (some z.v)) (L.set i (some z)) (Pn.refl.set hp) (Jx m ho rfl) w.set Step.set
def gNs:List Nat->TGs
 |[]=>wq5
 |i::is=>vwx (qqy i) (gNs is)
theorem qqx{Q:L2.St->Hp->Prop}{M:Ls}{σ0:L2.St}:∀{is:List Nat} {ds:List D} {xs:List V} {bs:List Addr} {E:En} {L:Ls} {σ:L2.St} {E':En},Mt E σ L->World Z.K H L->RepA Z.K H true ds xs bs->(∀b∈bs,b∉j7 L)->(∀b∈bs,b∈jW M)->Step H M H L->Pn pn σ0 σ ->
  setAll is ds E=some E'->(∀i∈is,i∉pn)->(∀ σ' L',Pn pn σ0 σ'->Mt E' σ' L'->World Z.K H L'->Step H M H L'->Q σ' H)->gNs is xs σ H Q
 | [],[],xs,bs,E,L,σ,E',m,w,r,_,_,st,p,e,_,k=>by
  cases oq9 e;unfold RepA at r;exact⟨r.1,k σ L p m w st⟩
 | [],_::_,_,_,_,_,_,_,_,_,_,_,_,_,_,e,_,_=>by cases e
 | _::_,[],_,_,_,_,_,_,_,_,_,_,_,_,_,e,_,_=>by cases e
 | i::is,d::ds,xs,bs,E,L,σ,E',m,w,r,hb,hf,st,p,e,hi,k=>by
  unfold RepA at r;obtain⟨x,rr,cs,es,rfl,rfl,h1,h2⟩:=r;have w1:World Z.K H (some ⟨.no,d,x,cs⟩::L):=w.consNo (x:=⟨.no,d,x,cs⟩) h1 rfl λb df=>hb b (ll9 _ df)
  have s1:Step H M H (L.set i (some ⟨.no,d,x,cs⟩)):=by
   refine⟨λ_ _ h _=>h,λa ha=>?_,λa ha=>?_⟩
   ·rcases Wv ha with z|z
    ·exact nomatch z
    ·exact st.own a z
   ·rcases jkq ha with z|z
    ·exact .inl (hf a (ll9 _ z))
    ·exact st.frz a z
  exact⟨x,rr,rfl,qqx (is:=is) (Jx (x:=⟨.no,d,x,cs⟩) (s:=(.no,d)) m rfl rfl) w1.set h2 (λb df ho=>by
   rcases Wv ho with z|z
   ·exact nomatch z
   ·exact hb b (lr9 _ df) z) (λb df=>hf b (lr9 _ df)) s1 (p.set (hi i X3)) e (λj hj=>hi j (lc9 _ hj)) k⟩
theorem kkn:∀{is:List Nat} {ds:List D} {E E':En},setAll is ds E=some E'->is.length=ds.length
 |[],[],_,_,_=>rfl
 |[],_::_,_,_,e=>by cases e
 |_::_,[],_,_,e=>by cases e
 |i::is,d::ds,E,E',e=>by rw[Ya,Ya,kkn (E:=E.set i (some (.no,d))) e]
noncomputable def vz1(K:PySem.W.Frag)(n:Nat)(t:TGs):TG:=λv σ H Q=>∃a xs,v=.ref a/\(SqT K H a xs\/SqL K H a xs)/\xs.length=n/\t xs σ H Q
section
variable {prog:Program}{w:PySem.World}{A:Around}{E':Value->Shared->Prop}
theorem kw8{it t:Addr}{items:Array Value}(en:t≠it):∀(n i:Nat) (s:Shared) (Q:List Value->Shared->Prop),s.heap.IsListIter it t i->s.heap.IsList t items->i+n<=items.size ->
  (∀h',h'.IsListIter it t (i+n)->Heap.SameBut it s.heap h'->Q ((items.toList.drop i).take n) { s with heap:=h' })->wpAny (model prog w) A (draw (.ref it) n) Q E' s
 | 0,i,s,Q,gu,_,_,hQ=>by
  show wpAny _ _ (pure []) Q E' s;exact X4 (by simpa using hQ s.heap gu (Heap.SameBut.refl ..))
 | n+1,i,s,Q,gu,ht,gm,hQ=>by
  have dm:i<items.size:=by omega
  show wpAny _ _ (pyNext (.ref it) >>= _) Q E' s;refine X0 (wpAny_pyNext_list_item gu ht (x:=items[i]) (by simp[dm]) λh₁ lw nv=>?_);have ht₁:h₁.IsList t items:=by
   obtain⟨o,ho,r⟩:=ht;exact⟨o,(nv.2 t en).trans ho,r⟩
  refine X0 (Yb (kw8 en n (i+1) _ _ lw ht₁ (by omega) λh₂ hit₂ hs₂=>X4 ?_));have hd:items.toList.drop i=items[i]::items.toList.drop (i+1):=by simp[List.drop_eq_getElem_cons,dm]
  have:=hQ h₂ (by rw[show i+(n+1)=i+1+n by omega];exact hit₂) (nv.trans hs₂);rw[hd,List.take_succ_cons]at this;exact this
theorem jzv{s:Shared}{t:Addr}{items:Array Value}{Q:List Value->Shared->Prop}(hh:A.handled=none)(ht:s.heap.IsList t items)
  (hQ:∀h',Heap.ExtBut s.heap.objs.size s.heap h'->Q items.toList { s with heap:=h' }):wpAny (model prog w) A (unpackItems (.ref t) items.size none) Q E' s:=by
 have dm:t≠s.heap.objs.size:=by obtain⟨o,ho,_⟩:=ht;exact Xn (Xe ho)
 unfold unpackItems;refine X0 ?_;unfold notIterableAtAll;refine X0 (wpAny_specialOf ht.typeIs slot_list_iter.lookup ?_);refine X4 ?_;simp only[Bool.false_eq_true,if_false];refine X0 (Yb (wpAny_pyIter_list ht ?_));have ht0:∀o:Obj,(s.heap.push o).IsList t items:=λo=>by
  obtain⟨ob,ho,r⟩:=ht;exact⟨ob,X2 _ ho,r⟩
 refine X0 (Yb (kw8 dm items.size 0 _ _ ⟨_,X9 _ rfl,rfl,rfl⟩ (ht0 _) (by omega) λh₁ lw nv=>?_));have mj:List.take items.size (List.drop 0 items.toList)=items.toList:=by
  rw[List.drop_zero];exact List.take_of_length_le (by simp)
 rw[mj];rw[Xj (by simp)];have ht₁:h₁.IsList t items:=by
  obtain⟨o,ho,r⟩:=ht0 _;exact⟨o,(nv.2 t dm).trans ho,r⟩
 refine X0 (Yb (wpAny_pyNext_list_end hh lw ht₁ (by simp) λh₂ he₂=>?_));simp only[Option.isSome_none,Bool.false_eq_true,if_false];exact X4 (hQ h₂ λb o hb e=>he₂ b o hb (nv.extBut b o hb (X2 _ e)))
theorem jzm{s:Shared}{env:Env}{iw:List Expr}{x1}{pos:Pos}{t:Addr}{items:Array Value}{Q:Unit->Shared->Prop}(hh:A.handled=none)(ht:s.heap.IsList t items)
  (hn:(assignEach iw env).length=items.size) (qp:(assignEach iw env).findIdx? (·.1)=none)
  (h:∀h',Heap.ExtBut s.heap.objs.size s.heap h'->wpAny (model prog w) A (assignInOrder ((assignEach iw env).map (·.2)) items.toList) Q E' { s with heap:=h' }):
  wpAny (model prog w) A (assign (.Tuple iw x1 pos) env (.ref t)) Q E' s:=by
 rw[assign_Tuple];refine X0 (wpAny_standAt ?_);unfold unpack;rw[hn,qp];exact X0 (Yb (jzv hh ht h))
end
theorem YQ(K:PySem.W.Frag){es:List Expr}{k:Nat}{t:TGs}{n:Nat}{pos:Pos}(h:PGs X es t)(hc:autoParam (X.calm=true) Ŕ)(hK:autoParam (X.K=K) Ŕ)
  (hn:autoParam ((assignEach es X.env).length=n) Ŕ) (bo:autoParam ((assignEach es X.env).findIdx? (·.1)=none) Ŕ):PG X (.Tuple es k pos) (vz1 K n t):=by
 subst hK;intro pins s σ H v u Q I r hw;obtain⟨a,xs,e1,hq,hl,hw⟩:=hw;subst e1;cases r;rcases hq with hq|hq
 ·obtain⟨aa,rv,ht,hz⟩:=I.tuple hq;refine assign_Tuple_tuple (I.ok.hd hc) ht (by simp[hn,<-hl,rv.length]) bo λh' hx=>?_
  have I1:L2.Inv X pins σ H { s with heap:=h' }:=I.kept (t':=s.toks) λb o e=>hx b o (Xn (Xe e)) e
  exact h pins _ σ H xs _ Q I1 (by simpa using rv) hw
 ·obtain⟨aa,rv,ht,hz⟩:=I.list hq;refine jzm (I.ok.hd hc) ht.isList (by simp[hn,<-hl,rv.length]) bo λh' hx=>?_
  have I1:L2.Inv X pins σ H { s with heap:=h' }:=I.kept (t':=s.toks) λb o e=>hx b o (Xn (Xe e)) e
  exact h pins _ σ H xs _ Q I1 (by simpa using rv) hw
theorem ZV{is:List Nat}(h:PG X e (vz1 Z.K is.length (gNs is)))(hp:autoParam (∀i∈is,i∉pn) ŕ):QG X Z pn (.t is) e:=qxt h λv σ H Q ⟨E,L,z,E',m,w,ho,hv,bp,k⟩=>by
 have fin:∀ds:List D,(z.d=.lst ds\/z.d=.tup ds)->setAll is ds E=some E'->vz1 Z.K is.length (gNs is) v σ H Q:=λds hd bp=>by
  obtain⟨a,xs,bs,e1,q1,r,h1,h2⟩:=items w.head hd;rw[ho]at r;refine⟨a,xs,hv.symm.trans e1,?_,by rw[kkn bp,r.len],qqx (M:=some z::L) m w.tail r (λb hb=>w.apart b (h1 b hb)) (λb hb=>?_) Step.drop Pn.refl bp hp k⟩
  ·rcases q1 with⟨_,z'⟩|⟨_,z'⟩
   ·exact .inr z'.sq
   ·exact .inl z'
  ·rw[qJ,ZJ ho];exact ll9 _ (h1 b hb)
 cases hd:z.d with
 |tup ds=>rw[hd]at bp;exact fin ds (.inr hd) bp
 |lst ds=>rw[hd]at bp;exact fin ds (.inl hd) bp
 |_=>rw[hd]at bp;cases bp
theorem kxz{is:List Nat}{q:Bool}{c:Ex}{ea tg:Expr}{pos:Pos}(h:QE X Z q c ea)(hg:QG X Z pn (.t is) tg)(hs:autoParam (swapsWithSole [tg] ea pos.line X.env=pure false) Ŕ)(hw:autoParam (swappedStores [tg] ea X.env=pure none) Ŕ)(h1:autoParam ((assignEach [tg] X.env).map (·.2)=[assign tg X.env]) Ŕ):
  QS X Z pn (W0 is c) (.Assign [tg] ea pos):=JZ (kz3 h hg hs hw h1) λD σ H av=>ex7 av λE L r m w hc k=>
 Vk m w (show ofE (c E) _=some r from hc) k λE1 s h1 x L1 H1 e1 e2 m1 w1 st _=>by
  cases hp:Tg.put (.t is) s.2 E1 with
  |none=>rw[hp]at h1;cases h1
  |some E2=>
   rw[hp]at h1;cases oq9 h1;have w2:World Z.K H1 (some x.let::L1):=w1.tail.consNo (Vx w1.head) rfl λb hb=>w1.apart b hb
   have s2:Step H L H1 (some x.let::L1):=V8 (x:=x.let) (st.trans Step.drop) (kq6 (x:=x) st) rfl;exact⟨E1,L1,x.let,E2,m1,w2,rfl,rfl,by rw[show x.let.d=s.2 from e2];exact hp,fun σ' L' p m' w' s'=>k σ' L' H1 p m' w' (s2.trans s')⟩
end
section
variable {X:Cx}{Z:Fx0}{pn:List Nat}{q:Bool}{tg au:Expr}{it:Ev (List D)}{t:Tg}{B:Sm}{ss:List Stmt}{pos:Pos}{σ:L2.St}{H:Hp}{L:Ls}{E:En}
theorem kkr{K:PySem.W.Frag}{T:List Sl}{H1 H2:Hp}{L1:Ls}{z:Sl}(w:World K H1 (L1++T.map some))(hT:∀t∈T,t.o=.no)(sm:kj H1 H2)(ok:z.ok K H2)(ho:z.o=.no)(hz:∀b∈z.as,∃t∈T,b∈t.as):
  World K H2 ((some z::L1)++T.map some)/\Step H1 (L1++T.map some) H2 ((some z::L1)++T.map some):=by
 have w2:World K H2 (L1++T.map some):=⟨λx hx=>RepO.kp (w.ok x hx) (Kp.of_same sm),w.nd,w.ds⟩;have hf:∀b∈z.as,b∈jW (L1++T.map some):=λb hb=>by
  obtain⟨t,ht,hbt⟩:=hz b hb;rw[qv];exact lr9 _ (mem_frozen.mpr ⟨t,Xh ht,by rw[ZJ (hT t ht)];exact hbt⟩)
 refine⟨w2.consNo ok ho λb hb hL=>w2.ds b hL (hf b hb),λa ob h _=>sm a ob h,λa ha=>?_,λa ha=>?_⟩
 ·rw[List.cons_append,jK,kz8 ho]at ha;exact .inl ha
 ·rw[List.cons_append,qJ,ZJ ho]at ha;rcases List.mem_append.mp ha with q|q
  ·exact .inl (hf a q)
  ·exact .inl q
theorem stay{K:PySem.W.Frag}{T L1 L2:Ls}{H1 H2:Hp}(w:World K H1 (L1++T))(s:Step H1 L1 H2 L2)(w2:World K H2 L2):World K H2 (L2++T)/\Step H1 (L1++T) H2 (L2++T):=⟨s.frame w w2 w.left,s.frm⟩
theorem Step.dropT{T:Ls}{H1:Hp}{L1:Ls}:Step H1 (L1++T) H1 L1:=⟨λ_ _ h _=>h,λa ha=>.inl (by rw[k3];exact ll9 _ ha),λa ha=>.inl (by rw[qv];exact ll9 _ ha)⟩
theorem Kp.trans{H H1 H2:Hp}{as:List Addr}(a:Kp H H1 as)(b:Kp H1 H2 as):Kp H H2 as:=⟨λc xs e=>b.1 c xs (a.1 c xs e),λc o u e=>b.2.1 c o u (a.2.1 c o u e),λc hc ob e=>b.2.2 c hc ob (a.2.2 c hc ob e)⟩
theorem kz4{K:PySem.W.Frag}{H2 H3:Hp}{L2 L3:Ls}{T:List Sl}(w:World K H2 (L2++T.map some))(hT:∀t∈T,t.o=.no)(s:Step H2 L2 H3 L3){H0:Hp}(h:∀t∈T,Kp H0 H2 t.as):∀t∈T,Kp H0 H3 t.as:=λt ht=>
 (h t ht).trans (s.kp w.left λb hb z=>w.ds b (by rw[k3];exact ll9 _ z) (by
  rw[qv];exact lr9 _ (mem_frozen.mpr ⟨t,Xh ht,by rw[ZJ (hT t ht)];exact hb⟩)))
theorem vv2(hp:PassesOwn (model X.prog X.w) X.A X.env X.xe)(hc:X.calm=true)(hi:QID X Z q tg it au)(hg:QG X Z pn t tg)(hb:QSs X Z pn B ss)(hs:autoParam (∀x,foldedSetIterable au X.env x=pure x) Ŗ):QS X Z pn (v8 it t B) (.For tg au ss [] pos):=JZ (vve hp hc hi hg hb hs) λD σ H av=>ex7 av λE L r m w hr k=>by
 have hr:ofE (it E) (λE ds=>K7 t B ds E)=some r:=hr;rcases jxv hr with⟨E1,ds,h1,h2⟩|⟨E1,c,h1,rfl⟩
 rotate_left
 ·exact⟨E,L,_,m,w,h1,k.xc,λE' s' z=>by cases z⟩
 refine⟨E,L,_,m,w,h1,(λ_ _ z=>by cases z),λE' ds' z J T L' H' m' w' st hz _ wk=>?_⟩;injection z with z1 z2;subst z1 z2;have okT:∀{H2:Hp} {L2:Ls},World Z.K H2 (L2++T.map some)->∀t∈T,t.ok Z.K H2:=λw2 t ht=>w2.ok t (lr9 _ (Xh ht))
 refine⟨λi n σ1 H1=>∃E1 L1,Mt E1 σ1 L1/\World Z.K H1 (L1++T.map some)/\Step H L H1 (L1++T.map some)/\Pn pn σ σ1/\K7 t B (ds.drop i) E1=some r/\i<=ds.length/\n=ds.length - i/\∀t∈T,Kp H' H1 t.as,⟨_,E1,L',m',w',st,Pn.refl,h2,Z5 _,rfl,λ_ _=>Kp.of_same z6⟩,?_⟩;rintro i n σ1 H1 ⟨E1,L1,m1,w1,mt,p1,f1,hi,rfl,pins⟩
 by_cases dm:i<ds.length
 ·have hd:ds.drop i=ds[i]::ds.drop (i+1):=List.drop_eq_getElem_cons dm;rw [hd]at f1;unfold K7 at f1;cases bp:t.put ds[i] E1 with
  | none=>rw[bp]at f1;cases f1
  | some E2=>
   rw[bp]at f1;dsimp only at f1;refine .inr ⟨wk.go i H1 ⟨okT w1,pins⟩ dm,fun σ2 H2=>∃E2 L2,Mt E2 σ2 L2/\World Z.K H2 (L2++T.map some)/\Step H L H2 (L2++T.map some)/\Pn pn σ σ2/\K7 t B (ds.drop (i+1)) E2=some r/\∀t∈T,Kp H' H2 t.as,fun σ2 H2 ⟨E2,L2,a1,a2,a3,a4,a5,a6⟩=>⟨ds.length - (i+1),by omega,E2,L2,a1,a2,a3,a4,a5,dm,rfl,a6⟩,λv H2 hy=>?_⟩;obtain⟨z,zo,zd,zv,sm,ph,zas⟩:=wk.yld i H1 v H2 ds[i] ⟨okT w1,pins⟩ hy (X1 dm);obtain⟨wz,sz⟩:=kkr w1 wk.no sm ph zo zas;refine⟨E1,L1,z,E2,m1,wz.left,zo,zv,by rw[zd];exact bp,fun σ2 L2 p2 m2 w2 bm=>?_⟩;obtain⟨w3,d3⟩:=stay wz bm w2;have ij:Step H L H2 (L2++T.map some):=mt.trans (sz.trans d3);have lq:∀t∈T,Kp H' H2 t.as:=λt ht=>(pins t ht).trans (Kp.of_same sm)
   cases hB:B E2 with
   | none=>rw[hB]at f1;cases f1
   | some g=>
    rw[hB]at f1;refine⟨E2,L2,g,m2,w2,hB,?_⟩;have fin:∀{g:Fl},g=r->(∀ σ',D.nx σ'=D.nx σ')->FlP Z pn D σ2 H2 (L2++T.map some) g:=λe _=>e▸k.step ij (p1.trans p2)
    cases g with
    |nx E3=>
     intro σ3 L3 H3 p3 m3 w4 s3;obtain⟨w5,s5⟩:=stay w3 s3 w4;exact⟨E3,L3,m3,w5,ij.trans s5,(p1.trans p2).trans p3,f1,kz4 w3 wk.no s3 lq⟩
    |ct E3=>
     intro σ3 L3 H3 p3 m3 w4 s3;obtain⟨w5,s5⟩:=stay w3 s3 w4;exact⟨E3,L3,m3,w5,ij.trans s5,(p1.trans p2).trans p3,f1,kz4 w3 wk.no s3 lq⟩
    |bk E3=>
     have e:=oq9 f1;subst e;intro σ3 L3 H3 p3 m3 w4 s3;exact k σ3 L3 H3 ((p1.trans p2).trans p3) m3 w4 ((ij.trans Step.dropT).trans s3)
    |rt E3 x=>
     have e:=oq9 f1;subst e;intro y σ3 L3 H3 e1 e2 p3 m3 w4 s3;exact k y σ3 L3 H3 e1 e2 ((p1.trans p2).trans p3) m3 w4 ((ij.trans Step.dropT).trans s3)
    |xc E3 c=>
     have e:=oq9 f1;subst e;intro C σ3 L3 H3 hm p3 m3 w4 s3;exact k C σ3 L3 H3 hm ((p1.trans p2).trans p3) m3 w4 ((ij.trans Step.dropT).trans s3)
 ·have e:i=ds.length:=by omega
  subst e;rw[List.drop_length]at f1;cases oq9 f1;exact .inl ⟨wk.stop H1 ⟨okT w1,pins⟩,k σ1 L1 H1 p1 m1 w1.left (mt.trans Step.dropT)⟩
theorem vv3(hp:PassesOwn (model X.prog X.w) X.A X.env X.xe)(hc:X.calm=true)(hi:QI X Z q tg it au)(hg:QG X Z pn t tg)(hb:QSs X Z pn B ss)(hs:autoParam (∀x,foldedSetIterable au X.env x=pure x) Ŗ):QS X Z pn (v8 it t B) (.For tg au ss [] pos):=vv2 hp hc hi.D hg hb hs
end
mutual
noncomputable def jV(h:Heap):D->Value->Prop
 |.non,u=>u=.none
 |.bl b,u=>u=.bool b
 |.int i,u=>∃t,u=.int i t
 |.str z,u=>∃t,u=.str z t
 |.tup ds,u=>∃a us,u=.ref a/\h.IsTuple a us.toArray/\CReps h ds us
 |.lst ds,u=>∃a us,u=.ref a/\h.IsList a us.toArray/\CReps h ds us
 |.dct _,_=>False
 |.obj _ _,_=>False
noncomputable def CReps(h:Heap):List D->List Value->Prop
 |[],us=>us=[]
 |d::ds,us=>∃u r,us=u::r/\jV h d u/\CReps h ds r
end
theorem kzn{n:Nat}{k:List (D×D)}:D.flat n (.dct k)=false:=by cases n<;>simp[D.flat]
theorem kzm{n:Nat}{c:Str}{k:List (Str×D)}:D.flat n (.obj c k)=false:=by cases n<;>simp[D.flat]
section
variable {X:Cx}{pins:List (Addr×Obj)}{σ:L2.St}{H:Hp}{s:Shared}
mutual
theorem kqt(I:Inv X pins σ H s){g:Bool}:∀{n:Nat} {d:D} {v:V} {as:List Addr} {u:Value},RepL X.K H g d v as->d.flat n=true->RelV v u->jV s.heap d u
 | _,.non,_,_,_,h,_,r=>by
  unfold RepL at h;rw[h.1]at r;unfold jV;exact r
 | _,.bl _,_,_,_,h,_,r=>by
  unfold RepL at h;rw[h.1]at r;unfold jV;exact r
 | _,.int _,_,_,_,h,_,r=>by
  unfold RepL at h;rw[h.1]at r;unfold jV;exact r
 | _,.str _,_,_,_,h,_,r=>by
  unfold RepL at h;rw[h.1]at r;unfold jV;exact r
 | 0,.tup ds,_,_,_,h,f,r=>by unfold D.flat at f;cases f
 | n+1,.tup ds,_,_,_,h,f,r=>by
  unfold RepL at h;unfold D.flat at f;obtain⟨a,xs,rfl,q,ra⟩:=h;cases r;obtain⟨aa,rv,p,_⟩:=I.tuple q;unfold jV;exact⟨a,aa,rfl,p,creps_of I ra f rv⟩
 | 0,.lst ds,_,_,_,h,f,r=>by unfold D.flat at f;cases f
 | n+1,.lst ds,_,_,_,h,f,r=>by
  unfold RepL at h;unfold D.flat at f;obtain⟨a,xs,bs,rfl,ra,q⟩:=h;cases r;have q':SqL X.K H a xs:=by
   rcases q with⟨q,_⟩|⟨_,q,_⟩
   ·exact SqL.of q
   ·exact(LsR.of q).sq
  obtain⟨aa,rv,p,_⟩:=I.list q';unfold jV;exact⟨a,aa,rfl,p.isList,creps_of I ra f rv⟩
 |_,.dct _,_,_,_,h,f,r=>by rw[kzn]at f;cases f
 |_,.obj _ _,_,_,_,h,f,r=>by rw[kzm]at f;cases f
theorem creps_of(I:Inv X pins σ H s){g:Bool}:∀{n:Nat} {ds:List D} {xs:List V} {as:List Addr} {us:List Value},RepA X.K H g ds xs as->D.flats n ds=true->Vals xs us->CReps s.heap ds us
 | _,[],_,_,_,h,_,r=>by
  unfold RepA at h;rw[h.1]at r;cases r;unfold CReps;rfl
 | n,d::ds,_,_,_,h,f,r=>by
  unfold RepA at h;unfold D.flats at f;rw[Bool.and_eq_true]at f;obtain⟨x,rr,bs,cs,rfl,rfl,h1,h2⟩:=h;cases r with
  |cons r1 r2=>
   unfold CReps;exact⟨_,_,rfl,kqt I h1 f.1 r1,creps_of I h2 f.2 r2⟩
end
end
theorem CReps.len{h:Heap}:∀{ds:List D} {us:List Value},CReps h ds us->ds.length=us.length
 |[],_,r=>by unfold CReps at r;rw[r];rfl
 |d::ds,_,r=>by
  unfold CReps at r;obtain⟨u,rr,rfl,_,h2⟩:=r;simp[CReps.len h2]
theorem CReps.get{h:Heap}:∀{ds:List D} {us:List Value} {j:Nat} {d:D},CReps h ds us->ds[j]?=some d->∃u,us[j]?=some u/\jV h d u
 | [],_,_,_,_,e=>by simp at e
 | d::ds,_,j,d',r,e=>by
  unfold CReps at r;obtain⟨u,rr,rfl,h1,h2⟩:=r;cases j with
  |zero=>
   have e:d=d':=by simpa using e
   subst e;exact⟨u,by simp,h1⟩
  |succ j=>
   obtain⟨w,e1,e2⟩:=CReps.get (j:=j) h2 (by simpa using e);exact⟨w,by simpa using e1,e2⟩
theorem qzl{h:Heap}{a:Addr}{x y:Array Value}(p:h.IsTuple a x)(q:h.IsTuple a y):x=y:=by
 obtain⟨o,h1,_,n,h2⟩:=p;obtain⟨o',h3,_,n',h4⟩:=q;rw[h1]at h3;cases h3;rw[h2]at h4;injection h4
theorem vjs{h:Heap}{a:Addr}{x y:Array Value}(p:h.IsList a x)(q:h.IsList a y):x=y:=by
 obtain⟨o,h1,_,n,h2⟩:=p;obtain⟨o',h3,_,n',h4⟩:=q;rw[h1]at h3;cases h3;rw[h2]at h4;injection h4
theorem qqa{h:Heap}{a:Addr}{x y:Array Value}(p:h.IsList a x)(q:h.IsTuple a y):False:=by
 obtain⟨o,h1,h2,_⟩:=p;obtain⟨o',h3,h4,_⟩:=q;rw[h1]at h3;cases h3;rw[h2]at h4;exact absurd (Value.type.inj h4) (by decide)
mutual
theorem kqu{h:Heap}:∀{d d':D} {u:Value},jV h d u->jV h d' u->d=d'
 | .non,d',u,a,b=>by
  unfold jV at a;subst a;cases d'<;>unfold jV at b<;>first|rfl|exact b.elim|(cases b;done)|(obtain⟨_,b⟩:=b;cases b;done)|(obtain⟨_,_,b,_⟩:=b;cases b)
 | .bl k,d',u,a,b=>by
  unfold jV at a;subst a;cases d'<;>unfold jV at b<;>first|exact b.elim|(cases b;rfl)|(cases b;done)|(obtain⟨_,b⟩:=b;cases b;done)|(obtain⟨_,_,b,_⟩:=b;cases b)
 | .int k,d',u,a,b=>by
  unfold jV at a;obtain⟨t,rfl⟩:=a;cases d'<;>unfold jV at b<;>first|exact b.elim|(cases b;done)|(obtain⟨_,b⟩:=b;cases b;rfl)|(obtain⟨_,b⟩:=b;cases b;done)|(obtain⟨_,_,b,_⟩:=b;cases b)
 | .str k,d',u,a,b=>by
  unfold jV at a;obtain⟨t,rfl⟩:=a;cases d'<;>unfold jV at b<;>first|exact b.elim|(cases b;done)|(obtain⟨_,b⟩:=b;cases b;rfl)|(obtain⟨_,b⟩:=b;cases b;done)|(obtain⟨_,_,b,_⟩:=b;cases b)
 | .tup ds,d',u,a,b=>by
  unfold jV at a;obtain⟨x,us,rfl,p,r⟩:=a;cases d' with
  |tup es=>
   unfold jV at b;obtain⟨y,ws,e,p',r'⟩:=b;cases e;have e2:us=ws:=by simpa using qzl p p'
   subst e2;rw[creps_inj r r']
  |lst es=>
   unfold jV at b;obtain⟨y,ws,e,p',r'⟩:=b;cases e;exact(qqa p' p).elim
  |non=>unfold jV at b;cases b
  |bl k=>unfold jV at b;cases b
  |int k=>unfold jV at b;obtain⟨_,b⟩:=b;cases b
  |str k=>unfold jV at b;obtain⟨_,b⟩:=b;cases b
  |dct k=>unfold jV at b;exact b.elim
  |obj k l=>unfold jV at b;exact b.elim
 | .lst ds,d',u,a,b=>by
  unfold jV at a;obtain⟨x,us,rfl,p,r⟩:=a;cases d' with
  |lst es=>
   unfold jV at b;obtain⟨y,ws,e,p',r'⟩:=b;cases e;have e2:us=ws:=by simpa using vjs p p'
   subst e2;rw[creps_inj r r']
  |tup es=>
   unfold jV at b;obtain⟨y,ws,e,p',r'⟩:=b;cases e;exact(qqa p p').elim
  |non=>unfold jV at b;cases b
  |bl k=>unfold jV at b;cases b
  |int k=>unfold jV at b;obtain⟨_,b⟩:=b;cases b
  |str k=>unfold jV at b;obtain⟨_,b⟩:=b;cases b
  |dct k=>unfold jV at b;exact b.elim
  |obj k l=>unfold jV at b;exact b.elim
 |.dct k,_,_,a,_=>by unfold jV at a;exact a.elim
 |.obj k l,_,_,a,_=>by unfold jV at a;exact a.elim
theorem creps_inj{h:Heap}:∀{ds ds':List D} {us:List Value},CReps h ds us->CReps h ds' us->ds=ds'
 | [],ds',us,a,b=>by
  unfold CReps at a;subst a;cases ds' with
  |nil=>rfl
  |cons d ds=>unfold CReps at b;obtain⟨_,_,e,_⟩:=b;cases e
 | d::ds,ds',us,a,b=>by
  unfold CReps at a;obtain⟨u,r,rfl,h1,h2⟩:=a;cases ds' with
  |nil=>unfold CReps at b;cases b
  |cons d' ds'=>
   unfold CReps at b;obtain⟨u',r',e,h3,h4⟩:=b;cases e;rw[kqu h1 h3,creps_inj h2 h4]
end
mutual
theorem ZX:∀{n:Nat} {d:D},d.flat n=true->peq d d=true
 |_,.non,_=>by unfold peq;rfl
 |_,.bl b,_=>by unfold peq;simp
 |_,.int b,_=>by unfold peq;simp
 |_,.str b,_=>by unfold peq;simp
 |0,.tup ds,f=>by unfold D.flat at f;cases f
 |n+1,.tup ds,f=>by unfold peq;unfold D.flat at f;exact peqs_refl f
 |0,.lst ds,f=>by unfold D.flat at f;cases f
 |n+1,.lst ds,f=>by unfold peq;unfold D.flat at f;exact peqs_refl f
 |_,.dct _,f=>by rw[kzn]at f;cases f
 |_,.obj _ _,f=>by rw[kzm]at f;cases f
theorem peqs_refl:∀{n:Nat} {d:List D},D.flats n d=true->peqs d d=true
 |_,[],_=>by unfold peqs;rfl
 |n,d::ds,f=>by
  unfold D.flats at f;rw[Bool.and_eq_true]at f;unfold peqs;rw[ZX f.1,peqs_refl f.2];rfl
end
theorem kjp : ∀{n : Nat} {ds : List D} {j : Nat} {d : D}, D.flats n ds = true -> ds[j]? = some d -> d.flat n = true
  | _, [], _, _, _, e=>by simp at e
  | n, d::ds, j, d', f, e=>by
    unfold D.flats at f;rw[Bool.and_eq_true]at f;cases j with
    | zero => have e : d = d':= by simpa using e
              subst e; exact f.1
    |succ j=>exact kjp (j:= j) f.2 (by simpa using e)
def pAt(as bs:List D)(j:Nat):Bool:=match as[j]?,bs[j]? with
 |some a,some b=>peq a b
 |_,_=>true
theorem jzf:∀(as bs:List D),as.length=bs.length->(List.range as.length).all (pAt as bs)=peqs as bs
 |[],[],_=>by unfold peqs;rfl
 |a::as,b::bs,h=>by
  have ih:=jzf as bs (by simpa using h);rw[Ya,List.range_succ_eq_map,List.all_cons,List.all_map];unfold peqs;rw[<-ih];rfl
 |[],_::_,h=>by simp at h
 |_::_,[],h=>by simp at h
theorem kqd:∀(as bs:List D),as.length≠bs.length->peqs as bs=false
 |[],[],h=>by simp at h
 |a::as,b::bs,h=>by
  unfold peqs;rw[kqd as bs (by simpa using h),Bool.and_false]
 |[],_::_,_=>by unfold peqs;rfl
 |_::_,[],_=>by unfold peqs;rfl
theorem qw9(as bs:List D):((List.range (min as.length bs.length)).all (pAt as bs)&&as.length==bs.length)=peqs as bs:=by
 by_cases e:as.length=bs.length
 ·rw[<-e,Nat.min_self,jzf as bs e];simp[e]
 ·rw[kqd as bs e];have:(as.length==bs.length)=false:=by simpa using e
  rw[this,Bool.and_false]
section
variable {s:Shared}
theorem qkz{as bs:List D}{us ws:List Value}{A:Around}(ra:CReps s.heap as us)(rb:CReps s.heap bs ws)
  (h:∀(j:Nat) (d d':D) (u w:Value),as[j]?=some d->bs[j]?=some d'->jV s.heap d u->jV s.heap d' w->SeqAt.EqAt A s u w (peq d d')):
  ∀j (h1:j<us.toArray.size) (h2:j<ws.toArray.size),SeqAt.EqAt A s us.toArray[j] ws.toArray[j] (pAt as bs j):=λj h1 h2=>by
 have l1:=ra.len;have l2:=rb.len;simp only[X8]at h1 h2;have ha:j<as.length:=by lia
 have hb:j<bs.length:=by lia
 obtain⟨u,eu,ru⟩:=ra.get (X1 ha);obtain⟨w,ew,m6⟩:=rb.get (X1 hb);have e1:us.toArray[j]=u:=by
  obtain⟨_,q⟩:=List.getElem?_eq_some_iff.mp eu
  simpa using q
 have e2:ws.toArray[j]=w:=by
  obtain⟨_,q⟩:=List.getElem?_eq_some_iff.mp ew
  simpa using q
 have e3:pAt as bs j=peq as[j] bs[j]:=by
  unfold pAt;rw[X1 ha,X1 hb]
 rw[e1,e2,e3];exact h j _ _ u w (X1 ha) (X1 hb) ru m6
inductive Cv (h:Heap):D->Value->Prop
 |non:Cv h .non .none
 |bl (b:Bool):Cv h (.bl b) (.bool b)
 |int (i:Int) (t:_):Cv h (.int i) (.int i t)
 |str (z:Str) (t:_):Cv h (.str z) (.str z t)
 |lst {ds:List D} {a:Addr} {us:List Value} (p:h.IsList a us.toArray) (q:CReps h ds us):Cv h (.lst ds) (.ref a)
 |tup {ds:List D} {a:Addr} {us:List Value} (p:h.IsTuple a us.toArray) (q:CReps h ds us):Cv h (.tup ds) (.ref a)
theorem crv{h:Heap}{d:D}{u:Value}(r:jV h d u):Cv h d u:=by
 cases d<;>unfold jV at r
 all_goals first|exact r.elim|(subst r;constructor)|(obtain⟨_,rfl⟩:=r;constructor)|(obtain⟨_,_,rfl,p,q⟩:=r;first|exact .lst p q|exact .tup p q)
theorem vqn{A:Around}{d d':D}{u w:Value}(hu:A.units<cLine)(r:jV s.heap d u)(r':jV s.heap d' w)
  (el:∀(as bs:List D) (us ws:List Value),(d=.lst as\/d=.tup as)->(d'=.lst bs\/d'=.tup bs)->CReps s.heap as us->CReps s.heap bs ws->∀j (h1:j<us.toArray.size) (h2:j<ws.toArray.size),SeqAt.EqAt A.in1 s us.toArray[j] ws.toArray[j] (pAt as bs j)):
  SeqAt.RcAt A s u w (peq d d'):=by
 cases crv r<;>cases crv r'<;>unfold peq
 ·exact SeqAt.RcAt.none_none
 ·exact SeqAt.RcAt.none_bool _
 ·exact SeqAt.RcAt.none_int _ _
 ·exact SeqAt.RcAt.none_str _ _
 ·exact SeqAt.RcAt.none_list ‹_› hu
 ·exact SeqAt.RcAt.none_tuple ‹_› hu
 ·exact SeqAt.RcAt.bool_none _
 ·exact SeqAt.RcAt.bool_bool _ _
 ·exact SeqAt.RcAt.bool_int _ _ _
 ·exact SeqAt.RcAt.bool_str _ _ _
 ·exact SeqAt.RcAt.bool_list _ ‹_› hu
 ·exact SeqAt.RcAt.bool_tuple _ ‹_› hu
 ·exact SeqAt.RcAt.int_none _ _
 ·exact SeqAt.RcAt.int_bool _ _ _
 ·exact SeqAt.RcAt.int_int _ _ _ _
 ·exact SeqAt.RcAt.int_str _ _ _ _
 ·exact SeqAt.RcAt.int_list _ _ ‹_› hu
 ·exact SeqAt.RcAt.int_tuple _ _ ‹_› hu
 ·exact SeqAt.RcAt.str_none _ _
 ·exact SeqAt.RcAt.str_bool _ _ _
 ·exact SeqAt.RcAt.str_int _ _ _ _
 ·exact SeqAt.RcAt.str_str _ _ _ _
 ·exact SeqAt.RcAt.str_list _ _ ‹_› hu
 ·exact SeqAt.RcAt.str_tuple _ _ ‹_› hu
 ·exact SeqAt.RcAt.list_none ‹_› hu
 ·exact SeqAt.RcAt.list_bool _ ‹_› hu
 ·exact SeqAt.RcAt.list_int _ _ ‹_› hu
 ·exact SeqAt.RcAt.list_str _ _ ‹_› hu
 ·rename_i as a us p ra bs b ws p' rb;have l1:=ra.len;have l2:=rb.len
  by_cases hl:as.length=bs.length
  ·rw[<-jzf as bs hl];have z:=SeqAt.RcAt.lists (A:=A) (s:=s) (e:=pAt as bs) p p' (by simp only[X8];lia) hu (el as bs us ws (.inl rfl) (.inl rfl) ra rb);rw[X8,<-l1]at z;exact z
  ·rw[kqd as bs hl];exact SeqAt.RcAt.lists_lengths p p' (by simp only[X8,bne_iff_ne];lia) hu
 ·exact SeqAt.RcAt.list_tuple ‹_› ‹_› hu
 ·exact SeqAt.RcAt.tuple_none ‹_› hu
 ·exact SeqAt.RcAt.tuple_bool _ ‹_› hu
 ·exact SeqAt.RcAt.tuple_int _ _ ‹_› hu
 ·exact SeqAt.RcAt.tuple_str _ _ ‹_› hu
 ·exact SeqAt.RcAt.tuple_list ‹_› ‹_› hu
 ·rename_i as a us p ra bs b ws p' rb;have l1:=ra.len;have l2:=rb.len;rw[<-qw9 as bs];have z:=SeqAt.RcAt.tuples (A:=A) (s:=s) (e:=pAt as bs) p p' hu (el as bs us ws (.inr rfl) (.inr rfl) ra rb);rw[X8,X8,<-l1,<-l2]at z;exact z
theorem kqs{A:Around}{a a':Addr}{b:Bool}(jy:Value.ref a=Value.ref a'->b=true)(rc:SeqAt.RcAt A s (.ref a) (.ref a') b):SeqAt.EqAt A s (.ref a) (.ref a') b:=by
 by_cases e:a=a'
 ·subst e;rw[jy rfl];exact SeqAt.EqAt.same _
 ·exact SeqAt.EqAt.of_refs e rc
theorem wjl{A:Around}{d d':D}{u w:Value}(hu:A.units<cLine)(r:jV s.heap d u)(r':jV s.heap d' w)(jy:u=w->peq d d'=true)(rc:SeqAt.RcAt A s u w (peq d d')):SeqAt.EqAt A s u w (peq d d'):=by
 cases crv r<;>cases crv r'<;>try unfold peq
 ·exact SeqAt.EqAt.same _
 ·exact SeqAt.EqAt.none_bool _
 ·exact SeqAt.EqAt.none_int _ _
 ·exact SeqAt.EqAt.none_str _ _
 ·exact SeqAt.EqAt.none_list ‹_› hu
 ·exact SeqAt.EqAt.none_tuple ‹_› hu
 ·exact SeqAt.EqAt.bool_none _
 ·exact SeqAt.EqAt.bool_bool _ _
 ·exact SeqAt.EqAt.bool_int _ _ _
 ·exact SeqAt.EqAt.bool_str _ _ _
 ·exact SeqAt.EqAt.bool_list _ ‹_› hu
 ·exact SeqAt.EqAt.bool_tuple _ ‹_› hu
 ·exact SeqAt.EqAt.int_none _ _
 ·exact SeqAt.EqAt.int_bool _ _ _
 ·exact SeqAt.EqAt.int_int _ _ _ _
 ·exact SeqAt.EqAt.int_str _ _ _ _
 ·exact SeqAt.EqAt.int_list _ _ ‹_› hu
 ·exact SeqAt.EqAt.int_tuple _ _ ‹_› hu
 ·exact SeqAt.EqAt.str_none _ _
 ·exact SeqAt.EqAt.str_bool _ _ _
 ·exact SeqAt.EqAt.str_int _ _ _ _
 ·exact SeqAt.EqAt.str_str _ _ _ _
 ·exact SeqAt.EqAt.str_list _ _ ‹_› hu
 ·exact SeqAt.EqAt.str_tuple _ _ ‹_› hu
 ·exact SeqAt.EqAt.list_none ‹_› hu
 ·exact SeqAt.EqAt.list_bool _ ‹_› hu
 ·exact SeqAt.EqAt.list_int _ _ ‹_› hu
 ·exact SeqAt.EqAt.list_str _ _ ‹_› hu
 ·exact kqs jy rc
 ·exact kqs jy rc
 ·exact SeqAt.EqAt.tuple_none ‹_› hu
 ·exact SeqAt.EqAt.tuple_bool _ ‹_› hu
 ·exact SeqAt.EqAt.tuple_int _ _ ‹_› hu
 ·exact SeqAt.EqAt.tuple_str _ _ ‹_› hu
 ·exact kqs jy rc
 ·exact kqs jy rc
theorem qvb:∀(n:Nat) {d d':D} {u w:Value} {A:Around},d.flat n=true->jV s.heap d u->jV s.heap d' w->A.units+n<cLine->SeqAt.EqAt A s u w (peq d d')
 | n,d,d',u,w,A,f,r,r',hu=>by
  refine wjl (by lia) r r' (λe=>?_) (vqn (by lia) r r' λas bs us ws h1 h2 ra rb=>?_)
  rotate_left
  ·cases n with
   |zero=>rcases h1 with rfl|rfl<;>(unfold D.flat at f;cases f)
   |succ n=>
    have fs:D.flats n as=true:=by rcases h1 with rfl|rfl<;>(unfold D.flat at f;exact f)
    exact qkz ra rb λj d d' u w e1 e2 q1 q2=>qvb n (kjp fs e1) q1 q2 (by have:=L3.in1_units A;lia)
  ·subst e;rw[kqu r' r];exact ZX f
end
section
variable {X:Cx}{Z:Fx0}{K:PySem.W.Frag}
noncomputable def wkp(K:PySem.W.Frag):R2:=λx y H Q=>∃d d' as bs,RepL K H true d x as/\RepL K H true d' y bs/\d.flat 40=true/\d'.flat 40=true/\Q (.bl (peq d d')) H
theorem xZ(hu:X.A.units+64<cLine)(hK:autoParam (X.K=K) Ŕ):OpR X (compareOp .Eq) (wkp K):=by
 subst hK;intro pins s σ H x y v u Q I rx ry h;obtain⟨d,d',as,bs,h1,h2,f1,f2,q⟩:=h;have c1:=kqt I h1 f1 rx;have c2:=kqt I h2 f2 ry;refine vqn (by lia) c1 c2 (λas bs us ws e1 e2 ra rb=>qkz ra rb λj d d' u w e3 e4 q1 q2=>?_) _ _ _ _ ⟨.bl _,H,I,rfl,q⟩;have fs:D.flats 39 as=true:=by rcases e1 with rfl|rfl<;>(unfold D.flat at f1;exact f1)
 exact qvb 39 (kjp fs e3) q1 q2 (by have:=L3.in1_units X.A;lia)
theorem z5:Ad2 K (wkp K) (pu2 fEq):=by
 intro H x y s Q ox oy hf k;unfold pu2 fEq at hf;dsimp only at hf
 by_cases hc:(x.d.flat 40&&y.d.flat 40)=true
 ·rw[Xf hc]at hf;rw[Bool.and_eq_true]at hc;cases oq9 hf;exact⟨x.d,y.d,x.as,y.as,RepO.wk ox,RepO.wk oy,hc.1,hc.2,k ⟨.dp,.bl _,.bl _,[]⟩ H rfl rfl Jk⟩
 ·rw[Xj hc]at hf;cases hf
end
end Q
namespace Q
open PySem PySem.Spec PyProof.Rows L2 L3
abbrev Sl.sd(x:Sl):Sd:=(x.o,x.d)
noncomputable def tA(Z:Fx0)(q:Bool)(cs:List Ex):TA:=fun σ H Q=>∃E L r,Mt E σ L/\World Z.K H L/\qY cs E=some r/\Xc Z σ H L r /\
 ∀E' ys,r=.ok E' ys->∀(xs:List Sl) L' H',xs.map Sl.sd=ys->Mt E' σ L'->World Z.K H' (xs.map some++L')->Step H L H' (xs.map some++L')->(q=true->kj H H'/\∀b∈j7 (xs.map some),H b=none)->Q (xs.map Sl.v) H'
def QA(X:Cx)(Z:Fx0)(q:Bool)(cs:List Ex)(es:List Expr):Prop:=PA X es (tA Z q cs)
theorem kvl{X:Cx}{es:List Expr}{t t':TA}(h:PA X es t)(w:∀ σ H Q,t' σ H Q->t σ H Q):PA X es t':=λpos pins s σ H Q I q=>h pos pins s σ H Q I (w σ H Q q)
section
variable {X:Cx}{Z:Fx0}{pn:List Nat}{q:Bool}{c:Ex}{cs:List Ex}{e:Expr}{es:List Expr}{pos:Pos}{σ:L2.St}{H:Hp}{L:Ls}{E:En}
theorem j5:QA X Z true [] []:=kvl xj fun σ H Q av=>ex8 av λE L r m w hc xc k=>by
 cases oq9 hc;exact k _ _ rfl [] L H rfl m w Step.refl λ_=>⟨λ_ _ z=>z,λ_ z=>(nomatch z)⟩
theorem j3(h:QE X Z q c e)(hs:QA X Z q cs es)(bo:autoParam (starEach (e::es) X.env=(false,eval e X.env)::starEach es X.env) Ŕ):QA X Z q (c::cs) (e::es):=
 kvl (wj h hs bo) fun σ H Q av=>ex8 av λE L r m w hc xc k=>by
  refine qzx m w (show bnd (c E) _=some r from hc) xc λE1 s h1 x L1 H1 e1 e2 m1 w1 st sm=>?_
  have s1:Step H L H1 L1:=st.trans Step.drop;rcases vY h1 with⟨E2,ys,h2,h3⟩|⟨E2,cc,h2,h3⟩
  ·cases oq9 h3;refine⟨E1,L1,_,m1,w1.tail,h2,(λ_ _ z=>by cases z),λE' ys' z xs L2 H2 e3 m2 w2 bm dh=>?_⟩;injection z with z1 z2;subst z1 z2;obtain⟨w3,d3⟩:=wq4 (T:=[some x]) w1 bm w2;refine k _ _ rfl (x::xs) L2 H2 (by rw[List.map_cons,e3];simp[Sl.sd,e1,e2]) m2 w3 (st.trans d3) λhq=>?_
   obtain⟨a1,a2⟩:=sm hq;obtain⟨b1,b2⟩:=dh hq;refine⟨qk a1 b1,λb hb=>?_⟩;rw[List.map_cons,jK]at hb;rcases List.mem_append.mp hb with z|z
   ·exact a2 b z
   ·exact zj a1 (b2 b z)
  ·exact⟨E1,L1,_,m1,w1.tail,h2,(xc.step s1).map h3,λE' s' z=>by cases z⟩
end
section
variable {X:Cx}{Z:Fx0}{q:Bool}{cs:List Ex}{es:List Expr}{pos:Pos}{σ:L2.St}{H:Hp}{L:Ls}{E:En}{α:Type}
theorem jz2:∀{cs:List Ex} {E E':En} {ys:List Sd},qY cs E=some (.ok E' ys)->ys.length=cs.length
 | [],E,E',ys,h=>by cases oq9 h;rfl
 | c::cs,E,E',ys,h=>by
  rcases vY (show bnd (c E) _=some _ from h)with⟨E1,x,h1,h2⟩|⟨_,_,_,z⟩
  ·rcases vY h2 with⟨E2,xs,h3,h4⟩|⟨_,_,_,z⟩
   ·cases oq9 h4;rw[Ya,Ya,jz2 h3]
   ·cases z
  ·cases z
theorem vkn{F:En->List Sd->Option (Res α)}{r:Res α}{G:List V->Hp->Prop}(m:Mt E σ L)(w:World Z.K H L)(h:bnd (qY cs E) F=some r)(xc:Xc Z σ H L r)
  (k:∀E1 ys,F E1 ys=some r->ys.length=cs.length->∀(xs:List Sl) L1 H1,xs.map Sl.sd=ys->Mt E1 σ L1->World Z.K H1 (xs.map some++L1)->Step H L H1 (xs.map some++L1)->(q=true->kj H H1/\∀b∈j7 (xs.map some),H b=none)->G (xs.map Sl.v) H1):tA Z q cs σ H G:=by
 rcases vY h with⟨E1,s,h1,h2⟩|⟨E1,c,h1,h2⟩
 ·exact⟨E,L,_,m,w,h1,(λ_ _ z=>by cases z),λE' s' z xs L' H' e1 m' w' st sm=>by
   injection z with z1 z2;subst z1 z2;exact k _ _ h2 (jz2 h1) xs L' H' e1 m' w' st sm⟩
 ·exact⟨E,L,_,m,w,h1,xc.map h2,λE' s' z=>by cases z⟩
theorem jwj{K:PySem.W.Frag}{H:Hp}(g:Bool):∀{xs:List Sl},(∀x∈xs,x.ok K H)->(g=false->∀x∈xs,vk x.sd=true)->∃bs,RepA K H g (xs.map Sl.d) (xs.map Sl.v) bs/\(∀b∈bs,∃x∈xs,b∈x.as)/\(g=false->bs=j7 (xs.map some))/\(g=true->bs=xs.flatMap Sl.as)
 | [],_,_=>⟨[],by unfold RepA;exact⟨rfl,rfl⟩,λ_ h=>(nomatch h),λ_=>rfl,λ_=>rfl⟩
 | x :: xs,h,ht=>by
  obtain⟨bs,r,hb,ho,hg⟩:=jwj g (xs:=xs) (λy hy=>h y (lc9 _ hy)) λhg y hy=>ht hg y (lc9 _ hy)
  have hx:=h x X3;have ia:∃cs,RepL K H g x.d x.v cs/\(∀b∈cs,b∈x.as)/\(g=false->cs=x.own)/\(g=true->cs=x.as):=by
   cases g with
   | true=>exact⟨x.as,RepO.wk hx,λb hb=>hb,(λz=>by cases z),λ_=>rfl⟩
   | false=>
    have t:=ht rfl x X3;unfold vk at t
    by_cases ho:x.o=.dp
    ·refine⟨x.as,?_,λb hb=>hb,λ_=>?_,λz=>by cases z⟩
     ·have:=hx;unfold Sl.ok at this;rw[ho]at this;exact this
     ·unfold Sl.own;rw[ho]
    ·have hp:x.d.pure=true:=by
      rcases Bool.or_eq_true_iff.mp t with z|z
      ·exact absurd (by simpa using z) ho
      ·exact z
     obtain⟨z,rp⟩:=RepL.pu (g':=false) (RepO.wk hx) hp;exact⟨[],rp,λ_ h=>(nomatch h),λ_=>(vjh z).symm,λz=>by cases z⟩
  obtain⟨cs,r1,h1,h2,h3⟩:=ia;refine⟨cs++bs,?_,λb df=>?_,λm5=>?_,λm5=>?_⟩
  ·rw[List.map_cons,List.map_cons];unfold RepA;exact⟨x.v,xs.map Sl.v,cs,bs,rfl,rfl,r1,r⟩
  ·rcases List.mem_append.mp df with z|z
   ·exact⟨x,X3,h1 b z⟩
   ·obtain⟨y,hy,hby⟩:=hb b z;exact⟨y,lc9 _ hy,hby⟩
  ·rw[List.map_cons,jK,h2 m5,ho m5]
  ·rw[List.flatMap_cons,h3 m5,hg m5]
theorem qx1{K:PySem.W.Frag}{H:Hp}{p:Addr}{xs:List Sl}{L:Ls}(w:World K H (xs.map some++L))(hp:H p=none):
  ∃bs,World K (upd H p (.lst (xs.map Sl.v))) (some ⟨.rt,.lst (xs.map Sl.d),.ref p,p::bs⟩::L)/\Step H (xs.map some++L) (upd H p (.lst (xs.map Sl.v))) (some ⟨.rt,.lst (xs.map Sl.d),.ref p,p::bs⟩::L):=by
 obtain⟨bs,r,hb,_,_⟩:=jwj true (xs:=xs) (λx hx=>w.ok x (ll9 _ (Xh hx))) (λz=>by cases z);have ap:∀b∈bs,b∉j7 L:=λb df hL=>by
  obtain⟨x,hx,ft⟩:=hb b df;rcases Sl.as_of ft with z|z
  ·have nd:=w.nd;rw[k3,Xa]at nd;exact nd.2.2 b (mem_owned.mpr ⟨x,Xh hx,z⟩) b hL rfl
  ·exact w.ds b (by rw[k3];exact lr9 _ hL) (by rw[qv];exact ll9 _ (mem_frozen.mpr ⟨x,Xh hx,z⟩))
 have al:∀b∈bs,H b≠none:=λb df=>by
  obtain⟨x,hx,ft⟩:=hb b df;exact(w.ok x (ll9 _ (Xh hx))).some ft
 have sr:Src H (xs.map some++L) bs:=λb df=>by
  obtain⟨x,hx,ft⟩:=hb b df;rcases Sl.as_of ft with z|z
  ·exact .inr (.inl (by rw[k3];exact ll9 _ (mem_owned.mpr ⟨x,Xh hx,z⟩)))
  ·exact .inl (by rw[qv];exact ll9 _ (mem_frozen.mpr ⟨x,Xh hx,z⟩))
 have o:Out K H (upd H p (.lst (xs.map Sl.v))) ⟨.rt,.lst (xs.map Sl.d),.ref p,p::bs⟩ bs:=JK hp r λb hb=>hb
 have st:Step H (xs.map some++L) H L:=⟨λ_ _ h _=>h,λa ha=>.inl (by rw[k3];exact lr9 _ ha),λa ha=>.inl (by rw[qv];exact lr9 _ ha)⟩;exact⟨bs,KJ (Z:=⟨K,λ_=>none,λ_ _ _=>True⟩) w.right st o ap al sr⟩
theorem qx0{K:PySem.W.Frag}{H:Hp}{p:Addr}{xs:List Sl}{L:Ls}(w:World K H (xs.map some++L))(hp:H p=none):
  ∃bs,World K (upd H p (.tup (xs.map Sl.v))) (some ⟨.no,.tup (xs.map Sl.d),.ref p,bs⟩::L)/\Step H (xs.map some++L) (upd H p (.tup (xs.map Sl.v))) (some ⟨.no,.tup (xs.map Sl.d),.ref p,bs⟩::L):=by
 obtain⟨bs,r,hb,_,_⟩:=jwj true (xs:=xs) (λx hx=>w.ok x (ll9 _ (Xh hx))) (λz=>by cases z);have ap:∀b∈bs,b∉j7 L:=λb df hL=>by
  obtain⟨x,hx,ft⟩:=hb b df;rcases Sl.as_of ft with z|z
  ·have nd:=w.nd;rw[k3,Xa]at nd;exact nd.2.2 b (mem_owned.mpr ⟨x,Xh hx,z⟩) b hL rfl
  ·exact w.ds b (by rw[k3];exact lr9 _ hL) (by rw[qv];exact ll9 _ (mem_frozen.mpr ⟨x,Xh hx,z⟩))
 have al:∀b∈bs,H b≠none:=λb df=>by
  obtain⟨x,hx,ft⟩:=hb b df;exact(w.ok x (ll9 _ (Xh hx))).some ft
 have sr:Src H (xs.map some++L) bs:=λb df=>by
  obtain⟨x,hx,ft⟩:=hb b df;rcases Sl.as_of ft with z|z
  ·exact .inr (.inl (by rw[k3];exact ll9 _ (mem_owned.mpr ⟨x,Xh hx,z⟩)))
  ·exact .inl (by rw[qv];exact ll9 _ (mem_frozen.mpr ⟨x,Xh hx,z⟩))
 have o:Out K H (upd H p (.tup (xs.map Sl.v))) ⟨.no,.tup (xs.map Sl.d),.ref p,bs⟩ bs:=YW hp r λb hb=>hb
 have st:Step H (xs.map some++L) H L:=⟨λ_ _ h _=>h,λa ha=>.inl (by rw[k3];exact lr9 _ ha),λa ha=>.inl (by rw[qv];exact lr9 _ ha)⟩;exact⟨bs,KJ (Z:=⟨K,λ_=>none,λ_ _ _=>True⟩) w.right st o ap al sr⟩
theorem qq9{K:PySem.W.Frag}{H H':Hp}{xs:List Sl}{L:Ls}{d:D}{v:V}{ps:List Addr}(w:World K H (xs.map some++L))(ht:∀x∈xs,vk x.sd=true)(hp:∀b∈ps,H b=none)(nd:ps.Nodup)(sm:kj H H')
  (rep:∀bs,RepA K H false (xs.map Sl.d) (xs.map Sl.v) bs->RepL K H' false d v (ps++bs)):
  World K H' (some ⟨.dp,d,v,ps++j7 (xs.map some)⟩::L)/\Step H (xs.map some++L) H' (some ⟨.dp,d,v,ps++j7 (xs.map some)⟩::L):=by
 obtain⟨bs,r,hb,ho,_⟩:=jwj false (xs:=xs) (λx hx=>w.ok x (ll9 _ (Xh hx))) (λ_=>ht);have e:=ho rfl;subst e;have w2:World K H' (xs.map some++L):=⟨λx hx=>RepO.kp (w.ok x hx) (Kp.of_same sm),w.nd,w.ds⟩;have ndx:=w.nd;rw[k3,Xa]at ndx;have al:∀b∈j7 (xs.map some),H b≠none:=λb hb=>w.own_some (by rw[k3];exact ll9 _ hb)
 refine⟨w2.right.cons (x:=⟨.dp,d,v,ps++j7 (xs.map some)⟩) (rep _ r) ?_ (λa ha hL=>?_) (λa ha hf=>?_) (λa ha=>(nomatch ha)) (λa ha=>λz=>(nomatch z)),⟨λa ob h _=>sm a ob h,λa ha=>?_,λa ha=>?_⟩⟩
 ·show(ps++j7 (xs.map some)).Nodup;rw[Xa];exact⟨nd,ndx.1,λa ha b hb e=>by subst e;exact al a hb (hp a ha)⟩
 ·rcases List.mem_append.mp (show a∈ps++j7 (xs.map some)from ha)with z|z
  ·exact w.own_some (by rw[k3];exact lr9 _ hL) (hp a z)
  ·exact ndx.2.2 a z a hL rfl
 ·rcases List.mem_append.mp (show a∈ps++j7 (xs.map some)from ha)with z|z
  ·exact w.frz_some (by rw[qv];exact lr9 _ hf) (hp a z)
  ·exact w.ds a (by rw[k3];exact ll9 _ z) (by rw[qv];exact lr9 _ hf)
 ·rw[jK]at ha;rcases List.mem_append.mp ha with z|z
  ·rcases List.mem_append.mp (show a∈ps++j7 (xs.map some)from z)with y|y
   ·exact .inr (hp a y)
   ·exact .inl (by rw[k3];exact ll9 _ y)
  ·exact .inl (by rw[k3];exact lr9 _ z)
 ·rw[qJ]at ha;exact .inl (by rw[qv];exact lr9 _ ha)
theorem vxs{xs:List Sl}{ys:List Sd}(h:xs.map Sl.sd=ys):xs.map Sl.d=ys.map (·.2):=by rw[<-h,Y3];rfl
theorem kxs{xs:List Sl}{ys:List Sd}(h:xs.map Sl.sd=ys)(ht:ys.all vk=true):∀x∈xs,vk x.sd=true:=λx hx=>by
 rw[<-h,List.all_map,Z2]at ht;exact ht x hx
theorem kzb{o:Own}{xs:List Sl}{ys:List Sd}{E':En}{r:Res Sd}{L':Ls}{H1:Hp}{Q:VK}{Hq:Hp}{Lq:Ls}(h:mkL o E' ys=some r)(e:xs.map Sl.sd=ys)(w:World Z.K H1 (xs.map some++L'))(st:Step Hq Lq H1 (xs.map some++L'))(sm:q=true->kj Hq H1/\∀b∈j7 (xs.map some),Hq b=none)
  (k:∀E'' a,r=.ok E'' a->∀(x:Sl) L'' H',x.o=a.1->x.d=a.2->Mt E'' σ L''->World Z.K H' (some x::L'')->Step Hq Lq H' (some x::L'')->(q=true->kj Hq H'/\∀b∈x.own,Hq b=none)->Q x.v H') (m:Mt E' σ L'):
  ∀ p,H1 p=none->Q (.ref p) (upd H1 p (.lst (xs.map Sl.v))):=by
 intro p hp;unfold mkL at h
 by_cases ho:o=.dp
 ·rw[Xf ho]at h
  by_cases ht:ys.all vk=true
  ·rw[Xf ht]at h;cases oq9 h;obtain⟨w2,s2⟩:=qq9 (d:=.lst (xs.map Sl.d)) (v:=.ref p) (ps:=[p]) w (kxs e ht) (λb hb=>by rw[List.mem_singleton.mp hb];exact hp) (by simp) (z7 (o:=.lst (xs.map Sl.v)) hp) (λbs r=>by
    unfold RepL;exact⟨p,_,bs,rfl,r.kp (Kp.of_same (z7 hp)),.inl ⟨xq,rfl⟩⟩)
   refine k _ _ rfl ⟨.dp,.lst (xs.map Sl.d),.ref p,_⟩ L' _ rfl (by rw[vxs e]) m w2 (st.trans s2) λhq=>⟨qk (sm hq).1 (z7 hp),λb hb=>?_⟩
   rcases List.mem_append.mp (show b∈[p]++j7 (xs.map some)from hb)with z|z
   ·rw[List.mem_singleton.mp z];exact zj (sm hq).1 hp
   ·exact(sm hq).2 b z
  ·rw[Xj ht]at h;cases h
 ·rw[Xj ho]at h;cases oq9 h;obtain⟨bs,w2,s2⟩:=qx1 w hp;refine k _ _ rfl ⟨.rt,.lst (xs.map Sl.d),.ref p,p::bs⟩ L' _ rfl (by rw[vxs e]) m w2 (st.trans s2) λhq=>⟨qk (sm hq).1 (z7 hp),λb hb=>?_⟩
  have:b=p:=by simpa [Sl.own]using hb
  rw[this];exact zj (sm hq).1 hp
theorem vq5{xs:List Sl}{ys:List Sd}{n:Nat}(h:xs.map Sl.sd=ys)(hl:ys.length=n)(hz:n<=1000):(xs.map Sl.v).length<=sizeLine:=by
 have:xs.length=n:=by rw[<-hl,<-h,X5]
 rw[X5,this];exact Yk hz (by decide)
theorem k5{o:Own}(h:QA X Z q cs es)(hz:autoParam (cs.length<=1000) ŕ):QE X Z q (jx o cs) (.List es pos):=qV (vvq h) fun σ H Q av=>ex8 av λE L r m w hc xc k=>
 vkn m w (show bnd (qY cs E) _=some r from hc) xc λE1 ys h1 hl xs L1 H1 e1 m1 w1 st sm=>⟨vq5 e1 hl hz,kzb (o:=o) (E':=E1) (ys:=ys) (by unfold mkL;exact h1) e1 w1 st sm k m1⟩
theorem kz{o:Own}{x1}(h:QA X Z q cs es)(hz:autoParam (cs.length<=1000) ŕ):QE X Z q (jv o cs) (.Tuple es x1 pos):=qV (vvl h) fun σ H Q av=>ex8 av λE L r m w hc xc k=>
 vkn m w (show bnd (qY cs E) _=some r from hc) xc λE1 ys h1 hl xs L1 H1 e1 m1 w1 st sm=>⟨vq5 e1 hl hz,λp hp=>by
  by_cases ho:o=.dp
  ·rw[Xf ho]at h1
   by_cases ht:ys.all vk=true
   ·rw[Xf ht]at h1;cases oq9 h1;obtain⟨w2,s2⟩:=qq9 (d:=.tup (xs.map Sl.d)) (v:=.ref p) (ps:=[]) w1 (kxs e1 ht) (λb hb=>(nomatch hb)) (by simp) (z7 (o:=.tup (xs.map Sl.v)) hp) (λbs r=>by
     unfold RepL;exact⟨p,_,rfl,SqT.of xq,r.kp (Kp.of_same (z7 hp))⟩)
    exact k _ _ rfl ⟨.dp,.tup (xs.map Sl.d),.ref p,_⟩ L1 _ rfl (by rw[vxs e1]) m1 w2 (st.trans s2) λhq=>⟨qk (sm hq).1 (z7 hp),λb hb=>(sm hq).2 b hb⟩
   ·rw[Xj ht]at h1;cases h1
  ·rw[Xj ho]at h1;cases oq9 h1;obtain⟨bs,w2,s2⟩:=qx0 w1 hp;exact k _ _ rfl ⟨.no,.tup (xs.map Sl.d),.ref p,bs⟩ L1 _ rfl (by rw[vxs e1]) m1 w2 (st.trans s2) λhq=>⟨qk (sm hq).1 (z7 hp),λb hb=>(nomatch hb)⟩⟩
end
noncomputable def spF(K:PySem.W.Frag)(mg:Str->Option Value)(n:Nat)(f:Fn):Sp:=λvs H Q E=>∃(xs:List Sl) (r:Res Sd),vs=xs.map Sl.v/\xs.length=n/\World K H (xs.map some)/\f (xs.map Sl.sd)=some r /\
 (∀E' c,r=.exc E' c->∀C H',mg c=some (.ref C)->Step H (xs.map some) H' []->E (.ref C) none H') /\
 ∀E' a,r=.ok E' a->∀(x:Sl) H',x.o=a.1->x.d=a.2->World K H' [some x]->Step H (xs.map some) H' [some x]->Q x.v H'
theorem v6{K:PySem.W.Frag}{mg:Str->Option Value}{n:Nat}{f:Fn}{ps:List Str}(hn:ps.length=n):∀vs H Q E,spF K mg n f vs H Q E->vs.length=ps.length:=λvs H Q E ⟨xs,r,e,hl,_⟩=>by rw[e,X5,hl,hn]
theorem kql:∀(xs:List Sl) (k:Nat),Mt (xs.map (λx=>some x.sd)++List.replicate k none) (xs.map (λx=>some x.v)++List.replicate k none) (xs.map some++List.replicate k none)
 |[],0=>.nil
 |[],k+1=>by
  rw[List.map_nil,List.map_nil,List.map_nil,List.replicate_succ,List.replicate_succ,List.replicate_succ];exact .un (kql [] k)
 |x::xs,k=>.cons (x:=x) (kql xs k)
theorem v5{X:Cx}{K:PySem.W.Frag}{mg:Str->Option Value}{N:List Str}{n nn:Nat}{B:Sm}{body:List Stmt}{H:Hp}{vs:List V}{Q:VK}{E:XK}(hN:N.length=nn)(t:QSs X ⟨K,mg,E⟩ [] B body)(h:spF K mg n (fn nn B) vs H Q E):
  ∃t,PSs X body t/\t { nx:=λ_ H'=>Q .non H',rt:=Q } (L2.start N vs) H:=by
 refine⟨_,t,?_⟩;obtain⟨xs,r,rfl,hl,w,hf,hx,hk⟩:=h;unfold fn at hf;rw[X5,Y3]at hf;have m:=kql xs (nn - xs.length);have e1:L2.start N (xs.map Sl.v)=xs.map (λx=>some x.v)++List.replicate (nn - xs.length) none:=by
  unfold L2.start;rw[Y3,X5,hN];rfl
 have wL:World K H (xs.map some++List.replicate (nn - xs.length) none):=w.same (by simp);have sL:Step H (xs.map some) H (xs.map some++List.replicate (nn - xs.length) none):=Step.refl.same (List.Perm.refl _) (by simp);cases hB:B (xs.map (λx=>some x.sd)++List.replicate (nn - xs.length) none)with
 | none=>rw[show(some∘Sl.sd)=(λx:Sl=>some x.sd)from rfl,hB]at hf;cases hf
 | some g=>
  rw[show(some∘Sl.sd)=(λx:Sl=>some x.sd)from rfl,hB]at hf;refine⟨_,_,g,e1▸m,wL,hB,?_⟩;cases g with
  |nx E1=>
   cases oq9 hf;intro σ' L' H' _ m' w' s';exact hk _ _ rfl ⟨.dp,.non,.non,[]⟩ H' rfl rfl (World.consPu (x:=⟨.dp,.non,.non,[]⟩) (L:=[]) ⟨λ_ z=>(nomatch z),Y1,λ_ z=>(nomatch z)⟩ (show RepL K H' false .non .non []from qkb) rfl) (V8 (x:=⟨.dp,.non,.non,[]⟩) ((sL.trans s').sub (by simp)) (λb hb=>(nomatch hb)) rfl)
  |rt E1 a=>
   cases oq9 hf;intro x σ' L' H' e2 e3 _ m' w' s';exact hk _ _ rfl x H' e2 e3 (w'.sub (by simp)) ((sL.trans s').sub (by simp))
  |xc E1 c=>
   cases oq9 hf;intro C σ' L' H' hm _ m' w' s';exact hx _ _ rfl C H' hm ((sL.trans s').sub (by simp))
  |ct E1=>cases hf
  |bk E1=>cases hf
section
variable {X:Cx}{Z:Fx0}{q:Bool}{cs:List Ex}{e:Expr}{es:List Expr}{pos p:Pos}{x:Str}{ps:List Str}{k n:Nat}{f:Fn}
theorem JJ:∀xs:List Sl,j7 ((xs.map Sl.let).map some)=[]
 |[]=>rfl
 |x::xs=>by rw[List.map_cons,List.map_cons,jK,JJ xs];rfl
theorem jxa:∀xs:List Sl,jW ((xs.map Sl.let).map some)=xs.flatMap Sl.as
 |[]=>rfl
 |x::xs=>by rw[List.map_cons,List.map_cons,qJ,jxa xs,List.flatMap_cons];rfl
theorem qqc(xs:List Sl):(xs.map Sl.let).map Sl.sd=letAll (xs.map Sl.sd):=by
 unfold letAll;rw[Y3,Y3];rfl
theorem kzw{K:PySem.W.Frag}{H:Hp}{xs:List Sl}{L:Ls}(w:World K H (xs.map some++L)):World K H ((xs.map Sl.let).map some++L)/\Step H (xs.map some++L) H ((xs.map Sl.let).map some++L):=by
 have nd:=w.nd;rw[k3,Xa]at nd;have cl:∀a∈xs.flatMap Sl.as,a∈j7 (xs.map some)\/a∈jW (xs.map some):=λa ha=>by
  obtain⟨x,hx,hax⟩:=List.mem_flatMap.mp ha;exact(Sl.as_of hax).imp (λz=>mem_owned.mpr ⟨x,Xh hx,z⟩) λz=>mem_frozen.mpr ⟨x,Xh hx,z⟩
 refine⟨⟨λx hx=>?_,by rw[k3,JJ];exact nd.2.1,λa ha hf=>?_⟩,λ_ _ h _=>h,λa ha=>?_,λa ha=>?_⟩
 ·rcases List.mem_append.mp hx with hx|hx
  ·obtain⟨y,hy,e⟩:=List.mem_map.mp hx;cases e;obtain⟨z,hz,rfl⟩:=List.mem_map.mp hy;exact Vx (w.ok z (ll9 _ (Xh hz)))
  ·exact w.ok x (lr9 _ hx)
 ·rw[k3,JJ]at ha;rw[qv,jxa]at hf;rcases List.mem_append.mp hf with z|z
  ·rcases cl a z with z|z
   ·exact nd.2.2 a z a ha rfl
   ·exact w.ds a (by rw[k3];exact lr9 _ ha) (by rw[qv];exact ll9 _ z)
  ·exact w.ds a (by rw[k3];exact lr9 _ ha) (by rw[qv];exact lr9 _ z)
 ·rw[k3,JJ]at ha;exact .inl (by rw[k3];exact lr9 _ ha)
 ·rw[qv,jxa]at ha;rw[qv,k3];rcases List.mem_append.mp ha with z|z
  ·rcases cl a z with z|z
   ·exact .inr (.inl (ll9 _ z))
   ·exact .inl (ll9 _ z)
  ·exact .inl (lr9 _ z)
theorem vv5(D:qx X.prog X.w X.K X.mg X.base k x ps (spF Z.K Z.mg n f))(hr:Room k X.A)(g:zQ X Z.EX)(ha:QA X Z q cs (e::es))(hn:autoParam (cs.length=n) Ŕ)(hg:autoParam (Gl X x) Ŕ)(f9:autoParam ((x==("__debug__":Str))=false) ŕ)
  (he:autoParam (starEach (e::es) X.env=(false,eval e X.env)::starEach es X.env) Ŕ) (bn:autoParam ((backTo pos (starEach es X.env)).any (·.1)=false) Ŕ):
  QE X Z q (jJ f cs) (.Call (.Name x p) (e::es) [] pos):=qV (qkv D hr g ha hg f9 he bn) fun σ H Q av=>ex8 av λE L r m w hc xc kk=>
 vkn m w (show bnd (qY cs E) _=some r from hc) xc λE1 ys h1 hl xs L1 H1 e1 m1 w1 st sm=>by
  rw [Y0];have aj:xs.length=n:=by rw[<-hn,<-hl,<-e1,X5]
  cases hf:f (letAll ys)with
  | none=>rw[hf]at h1;cases h1
  | some fr=>
   rw[hf]at h1;obtain⟨wl,sl⟩:=kzw w1;have ev:xs.map Sl.v=(xs.map Sl.let).map Sl.v:=by rw[Y3];rfl
   rw[ev];refine⟨xs.map Sl.let,fr,rfl,by rw[X5];exact aj,wl.left,by rw[<-e1]at hf;rw[qqc];exact hf,λE' c ee C H' hm s'=>?_,λE' a ee y H' e2 e3 w' s'=>?_⟩
   ·subst ee;cases oq9 h1;obtain⟨w2,s2⟩:=stay wl s' ⟨λ_ z=>(nomatch z),Y1,λ_ z=>(nomatch z)⟩;exact xc _ _ rfl C L1 H' hm m1 w2 ((st.trans sl).trans s2)
   ·subst ee;cases oq9 h1;obtain⟨w2,s2⟩:=stay wl s' w';refine kk _ _ rfl y L1 H' e2 e3 m1 w2 ((st.trans sl).trans s2) λhq=>?_
    obtain⟨a1,a2⟩:=sm hq;refine⟨λb ob hb=>s'.keep b ob (a1 b ob hb) λz=>?_,λb hb=>?_⟩
    ·rw[JJ]at z;exact nomatch z
    ·rcases s'.own b (by rw[jK];exact ll9 _ hb)with z|z
     ·rw[JJ]at z;exact nomatch z
     ·exact zj a1 z
end
noncomputable def vqr(K:PySem.W.Frag):R2:=λx y H Q=>∃l k xs,x=.ref l/\y=.int k/\LsR K H l xs/\-(2 ^ 63)<=k/\k<2 ^ 63/\xs.length*k.toNat<=sizeLine /\
 ∀p,H p=none->Q (.ref p) (upd H p (.lst (List.replicate k.toNat xs).flatten))
theorem op_repR{X:Cx}:OpR X (binaryOp .Mult) (vqr X.K):=by
 intro pins s σ H x y v u Q I rx ry h;obtain⟨l,k,xs,rfl,rfl,hH,h1,h2,hz,q⟩:=h;cases rx;obtain⟨t,rfl⟩:=ry;obtain⟨z,aa,n,r,e⟩:=hH.is I;have hl:=r.length;have aj:aa.toArray.size*k.toNat<=sizeLine:=by rw[X8,<-hl];exact hz
 have hcap:¬aa.toArray.size*k.toNat>(2 ^ 63 - 1) / 8:=by
  have:(sizeLine:Nat)<=(2 ^ 63 - 1) / 8:=by decide
  lia
 have hfit:¬(!Builtin.List.listFitsIndex k)=true:=by
  rw[fitsIndex_both h1 h2];exact Bool.false_ne_true
 have pk:¬Builtin.List.listTooLong (aa.toArray.size*k.toNat)=true:=by
  rw[qwv aj];exact Bool.false_ne_true
 have jh:List.foldl (λx1 x2=>x1++x2) #[] (List.replicate (if aa.toArray.isEmpty=true then 0 else k.toNat) aa.toArray)=(List.replicate k.toNat aa).flatten.toArray:=by
  have f0:∀m:Nat,List.foldl (λx1 x2=>x1++x2) #[] (List.replicate m aa.toArray)=(List.replicate m aa).flatten.toArray:=λm=>by
   have:=kjo aa m [];rw[List.nil_append]at this;exact this
  rw[f0];cases aa with
  |nil=>simp
  |cons a r'=>rw[Xj (by simp)]
 refine wpAny_binaryOp_repeat_ref (T:="list") (U:="int") (by decide) ⟨_,e,rfl⟩ (λs'=>typeIs_int s' k t) noFill_list_mul F.fills_int_mul F.slot_int_rmul repeat_list F.slot_int_index.lookup
  (call_meets F.slot_int_rmul (typeIs_int s k t) F.entry_int_rmul (F.args_int_rmul_2 _ _) (int___rmul___int_list k t l aa.toArray n)
   ⟨e,rfl,⟨_,e,rfl⟩,call_meets F.slot_list_mul ⟨_,e,rfl⟩ F.entry_list_mul (F.args_list_mul_2 _ _) (AutoListH.list___mul___list_int_3 l aa.toArray n k t hfit hcap pk) ⟨e,?_⟩⟩)
 rw[jh];exact⟨.ref _,_,I.lnew (t':=s.toks) (r.rep k.toNat) (by rw[qqe,Nat.mul_comm];exact hz),rfl,q _ I.fresh⟩
def qzv(K:PySem.W.Frag):R2:=λx y H Q=>rI IntMulOk (λi j=>.int (i*j)) x y H Q\/vqr K x y H Q\/vqq x y H Q
theorem vw3{X:Cx}{K:PySem.W.Frag}(hK:autoParam (X.K=K) Ŕ):OpR X (binaryOp .Mult) (qzv K):=by subst hK;exact op_mulI.or (op_repR.or vji)
theorem kzd{a:Int}(h:a.natAbs.log2<2000000):Builtin.Int.intBits a<=2000000:=by
 unfold Builtin.Int.intBits
 split
 ·exact Z5 _
 ·omega
theorem mulOk_of{a b:Int}(h:zX a b=true):IntMulOk a b:=by
 unfold zX V3 at h;simp only[Bool.or_eq_true,Bool.and_eq_true,decide_eq_true_eq]at h;rcases h with(h|h)|h
 ·exact .of_left (intBits_le_64 h.1 h.2)
 ·exact .of_right (intBits_le_64 h.1 h.2)
 ·have h1:=kzd h.1;have h2:=kzd h.2;unfold IntMulOk Builtin.Int.intTooBig;have e:(2:Nat) ^ 27=134217728:=by decide
  have hb:bitsLine=134217728:=e;simp only[Bool.and_eq_true,decide_eq_true_eq,not_and];intro _ _;omega
theorem RepA.reps{K:PySem.W.Frag}{H:Hp}{ds:List D}{xs:List V}{bs:List Addr}(h:RepA K H true ds xs bs):∀k:Nat,∃cs,RepA K H true (List.replicate k ds).flatten (List.replicate k xs).flatten cs/\∀b∈cs,b∈bs
 |0=>⟨[],by simp only[List.replicate_zero,List.flatten_nil];unfold RepA;exact⟨rfl,rfl⟩,λ_ z=>(nomatch z)⟩
 |k+1=>by
  obtain⟨cs,r,hc⟩:=RepA.reps h k;rw[List.replicate_succ,List.replicate_succ,Yh,Yh];exact⟨bs++cs,r.app h,λb hb=>(List.mem_append.mp hb).elim id (hc b)⟩
theorem qzf{K:PySem.W.Frag}:Ad2 K (qzv K) xk:=by
 intro H x y s Q ox oy hf k;unfold xk at hf;dsimp only at hf
 split at hf
 ·rename_i i j e1 e2
  split at hf
  ·rename_i hm;cases oq9 hf;exact .inl ⟨i,j,qz ox e1,qz oy e2,mulOk_of hm,k ⟨.dp,.int _,.int _,[]⟩ H rfl rfl K8⟩
  ·cases hf
 ·rename_i a n e1 e2
  split at hf
  ·rename_i hc;cases oq9 hf;obtain⟨l,xs,bs,e3,q3,r3,h3⟩:=J5 ox (.inl e1) hc.2.2.2;have q3:LsR K H l xs:=by rcases q3 with⟨_,z⟩|⟨z,_⟩;exact z;rw[e1]at z;cases z
   obtain⟨cs,r4,h4⟩:=r3.reps n.toNat;refine .inr (.inl ⟨l,n,xs,e3,qz oy e2,q3,hc.1,hc.2.1,by rw[<-r3.len];exact hc.2.2.1,λp hp=>?_⟩);exact k ⟨.rt,.lst _,.ref p,p::cs⟩ _ rfl rfl (JK hp r4 λb hb=>ll9 _ (h3 b (h4 b hb)))
  ·cases hf
 ·rename_i z n e1 e2
  split at hf
  ·rename_i hc;cases oq9 hf;exact .inr (.inr ⟨z,n,(zV ox e1).1,qz oy e2,hc.1,k ⟨.dp,.str _,.str _,[]⟩ H rfl rfl (YX hc.2)⟩)
  ·cases hf
 ·cases hf
def dec(h:Heap)(u:Value):D:=open Classical in if e:∃d,jV h d u then e.choose else .non
theorem qz7{h:Heap}{u:Value}{d:D}(r:jV h d u):dec h u=d:=by
 unfold dec;have e:∃d,jV h d u:=⟨d,r⟩;rw[dif_pos e];exact kqu e.choose_spec r
theorem kxh{h:Heap}{d:D}:∀{ds:List D} {us:List Value},CReps h ds us->us.any (λu=>peq (dec h u) d)=ds.any λz=>peq z d
 |[],_,r=>by unfold CReps at r;rw[r];rfl
 |z::ds,_,r=>by
  unfold CReps at r;obtain⟨u,rr,rfl,h1,h2⟩:=r;rw[List.any_cons,List.any_cons,qz7 h1,kxh h2]
theorem kzc{h:Heap}:∀{ds:List D} {us:List Value} {u:Value},CReps h ds us->u∈us->∃d∈ds,jV h d u
 | [],_,_,r,hu=>by unfold CReps at r;rw[r]at hu;cases hu
 | z::ds,_,u,r,hu=>by
  unfold CReps at r;obtain⟨u',rr,rfl,h1,h2⟩:=r;rcases List.mem_cons.mp hu with rfl|hu
  ·exact⟨z,X3,h1⟩
  ·obtain⟨d,hd,c⟩:=kzc h2 hu;exact⟨d,lc9 _ hd,c⟩
theorem kw4:∀{n:Nat} {ds:List D} {d:D},D.flats n ds=true->d∈ds->d.flat n=true
 |_,[],_,_,h=>by cases h
 |n,z::ds,d,f,h=>by
  unfold D.flats at f;rw[Bool.and_eq_true]at f;rcases List.mem_cons.mp h with rfl|h
  ·exact f.1
  ·exact kw4 f.2 h
section
variable {X:Cx}{Z:Fx0}{K:PySem.W.Frag}{q qa qb:Bool}{a b c:Ex}{u v:Ts}{e ea eb:Expr}{es:List Expr}{pos p:Pos}{σ:L2.St}{H:Hp}{L:Ls}{E:En}
noncomputable def qxr(K:PySem.W.Frag)(ka:Bool):R2:=λx y H Q=>∃d ds as bs p xs,RepL K H true d x as/\y=.ref p/\(SqL K H p xs\/SqT K H p xs)/\RepA K H true ds xs bs/\d.flat 30=true/\D.flats 30 ds=true/\Q (.bl (if ka then !(ds.any λz=>peq z d)else ds.any λz=>peq z d)) H
theorem vjk(hu:X.A.units+64<cLine):OpR X (compareOp .In) (qxr X.K false):=by
 intro pins s σ H x y v u Q I rx ry h;obtain⟨d,ds,as,bs,p,xs,h1,rfl,hq,ra,f1,f2,q⟩:=h;cases ry;have c1:=kqt I h1 f1 rx;have he:∀{us:List Value},CReps s.heap ds us->∀w,w∈us.toArray->SeqAt.EqAt X.A.in1 s w v (peq (dec s.heap w) d):=fun {us} cr w hw=>by
  obtain⟨d',hd,c⟩:=kzc cr (by simpa using hw);rw[qz7 c];exact qvb 30 (kw4 f2 hd) c c1 (by have:=L3.in1_units X.A;omega)
 rcases hq with hq|hq
 ·obtain⟨aa,r,pl,hz⟩:=I.list hq;have cr:=creps_of I ra f2 r;refine SeqAt.in_listAt _ pl.isList (he cr) ⟨.bl _,H,I,rfl,?_⟩;rw[List.any_toArray,kxh cr];exact q
 ·obtain⟨aa,r,pl,hz⟩:=I.tuple hq;have cr:=creps_of I ra f2 r;refine SeqAt.in_tupleAt _ pl (he cr) ⟨.bl _,H,I,rfl,?_⟩;rw[List.any_toArray,kxh cr];exact q
def qxq(ka:Bool):R2:=λx y H Q=>∃i j,x=.str i/\y=.str j/\Q (.bl (if ka then !JV i j else JV i j)) H
theorem opInStr:OpR X (compareOp .In) (qxq false):=λpins s σ H x y v u Q I rx ry ⟨i,j,e1,e2,q⟩=>qq3 pins s σ H x y v u Q I rx ry ⟨i,j,e1,e2,q⟩
def vzm(K:PySem.W.Frag)(ka:Bool):R2:=λx y H Q=>qxq ka x y H Q\/qxr K ka x y H Q
theorem wj2(hu:X.A.units+64<cLine)(hK:autoParam (X.K=K) Ŕ):OpR X (compareOp .In) (vzm K false):=by subst hK;exact opInStr.or (vjk hu)
theorem zK{H:Hp}{l:Addr}{xs:List V}(h:LsR K H l xs):SqL K H l xs:=h.sq
theorem qqv{x y:Sl}{ys:List D}{ka:Bool}{Q:VK}(ox:x.ok K H)(oy:y.ok K H)(hy:y.d=.lst ys\/y.d=.tup ys)(hc:(x.d.flat 30&&D.flats 30 ys)=true)
  (k:Q (.bl (if ka then !(ys.any λz=>peq z x.d)else ys.any λz=>peq z x.d)) H):vzm K ka x.v y.v H Q:=by
 rw[Bool.and_eq_true]at hc;obtain⟨l,xs,bs,e3,q3,r3,_⟩:=items oy hy;have r3':RepA K H true ys xs bs:=by
  cases ho:(y.o != .dp)with
  |true=>rw[ho]at r3;exact r3
  |false=>rw[ho]at r3;exact r3.wk
 refine .inr ⟨x.d,ys,x.as,bs,l,xs,RepO.wk ox,e3,?_,r3',hc.1,hc.2,k⟩;rcases q3 with⟨_,z⟩|⟨_,z⟩
 ·exact .inl (zK z)
 ·exact .inr z
theorem wk2:Ad2 K (vzm K false) (pu2 VY):=by
 intro H x y s Q ox oy hf k;unfold pu2 VY fIn at hf;dsimp only at hf;cases hy:y.d with
 | lst ys=>
  rw[hy]at hf;dsimp only at hf
  split at hf
  ·rename_i hc;cases oq9 hf;exact qqv ox oy (.inl hy) hc (k ⟨.dp,.bl _,.bl _,[]⟩ H rfl rfl Jk)
  ·cases hf
 | tup ys=>
  rw[hy]at hf;dsimp only at hf
  split at hf
  ·rename_i hc;cases oq9 hf;exact qqv ox oy (.inr hy) hc (k ⟨.dp,.bl _,.bl _,[]⟩ H rfl rfl Jk)
  ·cases hf
 | str b=>
  rw[hy]at hf;dsimp only at hf
  split at hf
  ·rename_i a hx;cases oq9 hf;exact .inl ⟨a,b,(zV ox hx).1,(zV oy hy).1,k ⟨.dp,.bl _,.bl _,[]⟩ H rfl rfl Jk⟩
  ·cases hf
 |_=>rw[hy]at hf;cases hf
theorem kxv{g:Bool}{d:D}{v:V}{as:List Addr}(h:RepL K H g d v as):decide (v=.non)=isNon d:=by
 cases d with
 |non=>unfold RepL at h;rw[h.1];rfl
 |bl _=>unfold RepL at h;rw[h.1];rfl
 |int _=>unfold RepL at h;rw[h.1];rfl
 |str _=>unfold RepL at h;rw[h.1];rfl
 |tup _=>unfold RepL at h;obtain⟨a,xs,e,_⟩:=h;rw[e];rfl
 |lst _=>unfold RepL at h;obtain⟨a,xs,bs,e,_⟩:=h;rw[e];rfl
 |dct _=>unfold RepL at h;obtain⟨a,xs,bs,e,_⟩:=h;rw[e];rfl
 |obj _ _=>unfold RepL at h;obtain⟨_,x,o,C,e,_⟩:=h;rw[e];rfl
theorem vxl:Ad2 K (λx y H Q=>y=.non/\Q (.bl (decide (x=.non))) H) (f2First fIsNon):=by
 intro H x y s Q ox oy hf k;unfold f2First fIsNon at hf;dsimp only at hf
 split at hf
 ·rename_i hy;cases oq9 hf;have e:=kxv (RepO.wk oy);rw[hy]at e;refine⟨of_decide_eq_true e,?_⟩;rw[kxv (RepO.wk ox)];exact k ⟨.dp,.bl _,.bl _,[]⟩ H rfl rfl Jk
 ·cases hf
theorem qze:Ad1 K (rU λi=>.int (-i)) (pu1 vx1):=by
 intro H x s Q ox hf k;unfold pu1 vx1 at hf;dsimp only at hf
 split at hf
 ·rename_i i e;cases oq9 hf;exact⟨i,qz ox e,k ⟨.dp,.int _,.int _,[]⟩ H rfl rfl K8⟩
 ·cases hf
theorem qqo(n:Nat)(i:Int):_root_.Q.ixN n i=L2.ixN n i:=rfl
theorem vjy{x y:Sl}{d:D}{Q:VK}(ox:x.ok K H)(oy:y.ok K H)(hf:kJ x.d y.d=some d)(k:∀z:Sl,z.o=sub x.o->z.d=d->z.ok K H->(∀b∈z.frz,b∈x.frz)->(∀b∈z.as,b∈x.as)->Q z.v H):rIx K x.v y.v H Q:=by
 have seq:∀ds:List D,(x.d=.lst ds\/x.d=.tup ds)->∀i:Int,y.d=.int i->((_root_.Q.ixN ds.length i).bind λj=>ds[j]?)=some d->rIx K x.v y.v H Q:=by
  intro ds hx i hy hd;obtain⟨l,xs,bs,e3,q3,r3,h3,h4⟩:=items ox hx;cases hj:_root_.Q.ixN ds.length i with
  | none=>rw[hj]at hd;cases hd
  | some j=>
   rw [hj]at hd;obtain⟨v,cs,e4,r4,h5⟩:=r3.get (show ds[j]?=some d from hd);have hat:atI xs i=some v:=by
    unfold atI;rw[<-r3.len,<-qqo,hj];exact e4
   have fin:Q v H:=by
    cases ho:x.o with
    | dp=>
     rw[ho]at r4;exact k ⟨.dp,d,v,cs⟩ (by rw[ho];rfl) rfl r4 (λb hb=>(nomatch hb)) λb hb=>h3 b (h5 b hb)
    | no=>
     rw[ho]at r4;exact k ⟨.no,d,v,cs⟩ (by rw[ho];rfl) rfl r4 (λb hb=>h4 (by rw[ho];exact(λz=>nomatch z)) b (h5 b hb)) λb hb=>h3 b (h5 b hb)
    | rt=>
     rw[ho]at r4;exact k ⟨.no,d,v,cs⟩ (by rw[ho];rfl) rfl r4 (λb hb=>h4 (by rw[ho];exact(λz=>nomatch z)) b (h5 b hb)) λb hb=>h3 b (h5 b hb)
   rcases q3 with⟨_,z⟩|⟨_,z⟩
   ·exact .inl ⟨l,xs,i,v,e3,qz oy hy,zK z,hat,fin⟩
   ·exact .inr (.inl ⟨l,xs,i,v,e3,qz oy hy,z,hat,fin⟩)
 unfold kJ at hf;cases hx:x.d with
 | lst ds=>
  rw [hx]at hf;cases hy:y.d with
  | int i=>rw[hy]at hf;exact seq ds (.inl hx) i hy hf
  | _=>rw[hy]at hf;cases hf
 | tup ds=>
  rw [hx]at hf;cases hy:y.d with
  | int i=>rw[hy]at hf;exact seq ds (.inr hx) i hy hf
  | _=>rw[hy]at hf;cases hf
 | str z=>
  rw [hx]at hf;cases hy:y.d with
  | int i=>
   rw [hy]at hf;have hf:((_root_.Q.ixN z.cps.size i).bind λj=>(z.cps.toList[j]?).map λc=>D.str ⟨#[c]⟩)=some d:=hf;cases hj:_root_.Q.ixN z.cps.size i with
   | none=>rw[hj]at hf;cases hf
   | some j=>
    rw[hj]at hf;cases hc:z.cps.toList[j]? with
    | none=>rw[Option.bind_some,hc]at hf;cases hf
    | some c=>
     rw[Option.bind_some,hc]at hf;cases oq9 hf;have hat:atI z.cps.toList i=some c:=by
      unfold atI;rw[Xp,<-qqo,hj];exact hc
     obtain⟨e1,hz⟩:=zV ox hx;refine .inr (.inr ⟨z,i,c,e1,qz oy hy,hz,hat,?_⟩);have rp:∀g,RepL K H g (.str ⟨#[c]⟩) (.str ⟨#[c]⟩) []:=λg=>W6 (show(1:Nat)<=sizeLine by decide)
     cases ho:x.o with
     |dp=>exact k ⟨.dp,.str ⟨#[c]⟩,.str ⟨#[c]⟩,[]⟩ (by rw[ho];rfl) rfl (rp false) (λb hb=>(nomatch hb)) λb hb=>(nomatch hb)
     |no=>exact k ⟨.no,.str ⟨#[c]⟩,.str ⟨#[c]⟩,[]⟩ (by rw[ho];rfl) rfl (rp true) (λb hb=>(nomatch hb)) λb hb=>(nomatch hb)
     |rt=>exact k ⟨.no,.str ⟨#[c]⟩,.str ⟨#[c]⟩,[]⟩ (by rw[ho];rfl) rfl (rp true) (λb hb=>(nomatch hb)) λb hb=>(nomatch hb)
  |_=>rw[hy]at hf;cases hf
 |non=>rw[hx]at hf;cases hf
 |bl _=>rw[hx]at hf;cases hf
 |int _=>rw[hx]at hf;cases hf
 |dct _=>rw[hx]at hf;cases hf
 |obj _ _=>rw[hx]at hf;cases hf
theorem q_ix(ha:QV X Z qa a ea)(hb:QV X Z true b eb)(hs:W9 eb)(hK:autoParam (X.K=Z.K) Ŕ):QV X Z qa (jw a b) (.Subscript ea eb pos):=
 qV (qwq (hK▸kzi) ha hb hs) fun σ H Q av=>ex8 av λE L r m w hc xc k=>by
  refine vZ m w (show bnd (a E) _=some r from hc) xc λE1 s h1 x L1 H1 e1 e2 m1 w1 ok fr sr st sm=>?_
  refine vZ m1 w1 h1 (xc.step st) λE2 s2 h2 y L2 H2 e3 e4 m2 w2 ic pw oh bm dh=>?_
  obtain⟨z,hz,rfl⟩:=K0 h2;cases hf:kJ s.2 s2.2 with
  |none=>rw[hf]at hz;cases hz
  |some d=>
   rw[hf]at hz;cases oq9 hz;have kx:=Qk ok fr bm (dh rfl);refine vjy kx.1 ic (by rw[e2,e4];exact hf) λz zo zd ph zf za=>?_
   exact k _ _ rfl z L2 H2 (by rw[zo,e1]) zd m2 w2 ph (λb hb=>kx.2 b (zf b hb)) (V4 sr za) (st.trans bm) λhq=>qk (sm hq) (dh rfl)
theorem zW{op}(h:QE X Z q a ea):QE X Z q a (.BoolOp op [ea] pos):=vvo h
theorem z3(ha:QV X Z q a ea)(hb:QE X Z q b (.BoolOp .And (eb::es) pos)):QE X Z q (wQ a b) (.BoolOp .And (ea::eb::es) pos):=qV (vvs ha hb) fun σ H Q av=>ex8 av λE L r m w hc xc k=>
 vZ m w (show bnd (a E) _=some r from hc) xc λE1 s h1 x L1 H1 e1 e2 m1 w1 ok fr sr st sm=>by
  cases hs:s.2 with
  | bl kk=>
   rw[hs]at h1;refine⟨kk,QK ok (e2.trans hs),?_⟩;cases kk with
   |true=>
    rw[Xf rfl];exact⟨E1,L1,r,m1,w1,h1,xc.step st,λE' a z x L' H' e1 e2 m' w' fu mf=>k E' a z x L' H' e1 e2 m' w' (st.trans fu) λhq=>⟨qk (sm hq) (mf hq).1,λb hb=>zj (sm hq) ((mf hq).2 b hb)⟩⟩
   |false=>
    rw[Xj (by decide)];cases oq9 h1;obtain⟨w3,d3⟩:=KJ w1 st (Jk (K:=Z.K) (H:=H1) (i:=false) (fr:=[])) (λ_ z=>(nomatch z)) (λ_ z=>(nomatch z)) (λ_ z=>(nomatch z));exact k _ _ rfl ⟨.dp,.bl false,.bl false,[]⟩ L1 H1 rfl rfl m1 w3 d3 λhq=>⟨sm hq,λ_ z=>(nomatch z)⟩
  |_=>rw[hs]at h1;cases h1
theorem wka{x:Sl}{k:Bool}(ok:x.ok K H)(h:truth x.d=some k)(hd:∀ak,x.d≠.dct ak):vz5 K x.v H k:=by
 cases hx:x.d with
 |non=>rw[hx]at h;rw[qxv ok hx];exact(oq9 h).symm
 |bl b=>rw[hx]at h;rw[QK ok hx];exact(oq9 h).symm
 |int i=>rw[hx]at h;rw[qz ok hx];exact(oq9 h).symm
 |str z=>
  rw[hx]at h;obtain⟨e,hz⟩:=zV ok hx;rw[e];refine⟨hz,?_⟩;rw[<-oq9 h];show(z.cps.size != 0)=(((z.cps.size:Nat):Int) != 0);rw[Bool.eq_iff_iff];simp
 |lst ds=>
  rw[hx]at h;obtain⟨a,xs,bs,e,q,r,_⟩:=items ok (.inl hx);rw[e];have q':LsR K H a xs:=by rcases q with⟨_,z⟩|⟨z,_⟩;exact z;rw[hx]at z;cases z
  refine .inl ⟨xs,zK q',?_⟩;rw[<-oq9 h];have:=r.len;cases ds<;>cases xs<;>simp_all
 |tup ds=>
  rw[hx]at h;obtain⟨a,xs,bs,e,q,r,_⟩:=items ok (.inr hx);rw[e];have q':SqT K H a xs:=by rcases q with⟨z,_⟩|⟨_,z⟩;rw[hx]at z;cases z;exact z
  refine .inr (.inl ⟨xs,q',?_⟩);rw[<-oq9 h];have:=r.len;cases ds<;>cases xs<;>simp_all
 |dct ak=>exact absurd hx (hd ak)
 |obj c f=>rw[hx]at h;cases h
theorem kv8{d:D}{k:Bool}(h:truthQ d=some k):truth d=some k/\∀ak,d≠.dct ak:=by
 cases d<;>first|exact⟨h,λ_ z=>nomatch z⟩|cases h
theorem z4(h:QV X Z q a ea)(he:autoParam (∀dw,isTrue ea X.env dw=(do let v <-dw;standAt ea.pos;holding [v] (truthy v))) Ŗ)(hK:autoParam (X.K=Z.K) Ŕ):QT X Z q (tEQ a) ea:=kz2 (qwl h he) fun σ H Q av=>ex8 av λE L r m w hc xc k=>
 vZ m w (show bnd (a E) _=some r from hc) xc λE1 s h1 x L1 H1 e1 e2 m1 w1 ok fr sr st sm=>by
  obtain⟨kk,hk,rfl⟩:=K0 h1;obtain⟨h2,h3⟩:=kv8 hk;exact⟨kk,hK▸wka ok (by rw[e2];exact h2) (by rw[e2];exact h3),k _ _ rfl L1 H1 m1 w1 st sm⟩
theorem vzr(h:QV X Z q a ea)(hK:autoParam (X.K=Z.K) Ŕ):QE X Z q (qxj a) (.UnaryOp .Not ea pos):=by
 intro pins s σ H Q I ⟨E,L,r,m,w,hc,xc,k⟩;refine UnaryOp_ (thn (h pins s σ H _ I (vZ (G:=λv H1=>∃kk,vz5 X.K v H1 kk/\Q (.bl (!kk)) H1) m w (show bnd (a E) _=some r from hc) xc λE1 s h1 x L1 H1 e1 e2 m1 w1 ok fr sr st sm=>?_)) λv s1 ⟨x,H1,I1,r1,kk,t1,q1⟩=>?_)
 ·obtain⟨y,hy,rfl⟩:=K0 h1;cases hk:truthQ s.2 with
  |none=>rw[hk]at hy;cases hy
  |some kk=>
   rw[hk]at hy;cases oq9 hy;obtain⟨h2,h3⟩:=kv8 hk;refine⟨kk,hK▸wka ok (by rw[e2];exact h2) (by rw[e2];exact h3),?_⟩;obtain⟨w3,d3⟩:=KJ w1 st (Jk (K:=Z.K) (H:=H1) (i:=!kk) (fr:=[])) (λ_ z=>(nomatch z)) (λ_ z=>(nomatch z)) (λ_ z=>(nomatch z));exact k _ _ rfl ⟨.dp,.bl (!kk),.bl (!kk),[]⟩ L1 H1 rfl rfl m1 w3 d3 λhq=>⟨sm hq,λ_ z=>(nomatch z)⟩
 ·exact not_of (thn (qxl pins s1 σ H1 x v (λkk H2=>Q (.bl (!kk)) H2) I1 r1 ⟨kk,t1,q1⟩) λc s2 ⟨H2,I2,q2⟩=>⟨.bl (!c),H2,I2,rfl,q2⟩)
end
theorem ZQ{α:Type}:∀{L:List α} {i:Nat} {q:α},L[i]?=some q->∃A B,L=A++q::B/\∀q',L.set i q'=A++q'::B
 |[],_,_,h=>by simp at h
 |a::L,0,q,h=>by
  have e:a=q:=by simpa using h
  subst e;exact⟨[],L,rfl,λ_=>rfl⟩
 |a::L,i+1,q,h=>by
  obtain⟨A,B,e,f⟩:=ZQ (L:=L) (i:=i) (by simpa using h);exact⟨a::A,B,by rw[e];rfl,λq'=>by rw[List.set_cons_succ,f];rfl⟩
section
variable {K:PySem.W.Frag}{H:Hp}{M T L:Ls}{y y':Sl}{l:Addr}{ob:HO}
theorem World.write(w:World K H (some y::(T++M)))(hl:l∈y.own)(ok':y'.ok K (upd H l ob))(nd:y'.own.Nodup)(h1:∀a∈y'.own,a∈y.own\/a∈j7 T)(h2:∀a∈y'.frz,a∈y.as\/a∈j7 T\/a∈jW T)(h3:∀a∈y'.own,a∉y'.frz):
  World K (upd H l ob) (some y'::M)/\Step H (some y::(T++M)) (upd H l ob) (some y'::M):=by
 have wn:=w.nd;rw [jK,k3,Xa,Xa]at wn;obtain⟨n1,⟨n2,n3,n4⟩,n5⟩:=wn;have oy:l∈j7 (some y::(T++M)):=by rw[jK];exact ll9 _ hl
 have ku:=w.own_al oy;have ds:∀a,(a∈y.own\/a∈j7 T\/a∈j7 M)->¬(a∈y.frz\/a∈jW T\/a∈jW M):=λa ha hf=>by
  refine w.ds a ?_ ?_
  ·rw[jK,k3];rcases ha with z|z|z
   ·exact ll9 _ z
   ·exact lr9 _ (ll9 _ z)
   ·exact lr9 _ (lr9 _ z)
  ·rw[qJ,qv];rcases hf with z|z|z
   ·exact ll9 _ z
   ·exact lr9 _ (ll9 _ z)
   ·exact lr9 _ (lr9 _ z)
 have noM:∀z,some z∈M->l∉z.as:=λz hz ha=>by
  rcases Sl.as_of ha with q|q
  ·exact n5 l hl l (lr9 _ (mem_owned.mpr ⟨z,hz,q⟩)) rfl
  ·exact ds l (.inl hl) (.inr (.inr (mem_frozen.mpr ⟨z,hz,q⟩)))
 have ke:∀a o,H a=some o->a≠l->upd H l ob a=some o:=λa o e ne=>by rw[kW ne];exact e
 have kp:∀as:List Addr,l∉as->Kp H (upd H l ob) as:=λas hn=>by
  refine⟨λa xs e=>ke a _ e λz=>?_,λa o u e=>ke a _ e λz=>?_,λa ha o e=>ke a o e λz=>hn (z▸ha)⟩
  ·subst z;rcases ku with⟨_,q⟩|⟨_,q⟩|⟨_,q⟩<;>(rw[e]at q;cases q)
  ·subst z;rcases ku with⟨_,q⟩|⟨_,q⟩|⟨_,q⟩<;>(rw[e]at q;cases q)
 have wM:World K (upd H l ob) M:=by
  have w1:World K H M:=w.tail.right;exact⟨λz hz=>RepO.kp (w1.ok z hz) (kp _ (noM z hz)),w1.nd,w1.ds⟩
 refine⟨wM.cons ok' nd (λa ha hM=>?_) (λa ha hM=>?_) (λa ha hM=>?_) h3,λa o e hn=>ke a o e λz=>hn (z▸oy),λa ha=>?_,λa ha=>?_⟩
 ·rcases h1 a ha with z|z
  ·exact n5 a z a (lr9 _ hM) rfl
  ·exact n4 a z a hM rfl
 ·rcases h1 a ha with z|z
  ·exact ds a (.inl z) (.inr (.inr hM))
  ·exact ds a (.inr (.inl z)) (.inr (.inr hM))
 ·rcases h2 a ha with z|z|z
  ·rcases Sl.as_of z with z|z
   ·exact n5 a z a (lr9 _ hM) rfl
   ·exact ds a (.inr (.inr hM)) (.inl z)
  ·exact n4 a z a hM rfl
  ·exact ds a (.inr (.inr hM)) (.inr (.inl z))
 ·rw[jK]at ha;rw[jK,k3];rcases List.mem_append.mp ha with z|z
  ·rcases h1 a z with z|z
   ·exact .inl (ll9 _ z)
   ·exact .inl (lr9 _ (ll9 _ z))
  ·exact .inl (lr9 _ (lr9 _ z))
 ·rw[qJ]at ha;rw[jK,k3,qJ,qv];rcases List.mem_append.mp ha with z|z
  ·rcases h2 a z with z|z|z
   ·rcases Sl.as_of z with z|z
    ·exact .inr (.inl (ll9 _ z))
    ·exact .inl (ll9 _ z)
   ·exact .inr (.inl (lr9 _ (ll9 _ z)))
   ·exact .inl (lr9 _ (ll9 _ z))
  ·exact .inl (lr9 _ (lr9 _ z))
theorem World.writeAt{i:Nat}(w:World K H (T++L))(hy:L[i]?=some (some y))(hl:l∈y.own)(ok':y'.ok K (upd H l ob))(nd:y'.own.Nodup)(h1:∀a∈y'.own,a∈y.own\/a∈j7 T)(h2:∀a∈y'.frz,a∈y.as\/a∈j7 T\/a∈jW T)(h3:∀a∈y'.own,a∉y'.frz):
  World K (upd H l ob) (L.set i (some y'))/\Step H (T++L) (upd H l ob) (L.set i (some y')):=by
 obtain⟨A,B,e,f⟩:=ZQ hy;rw[f];subst e;have p:(T++(A++some y::B)).Perm (some y::(T++(A++B))):=by
  refine(List.Perm.append_left T (List.perm_middle (a:=some y) (l₁:=A) (l₂:=B))).trans List.perm_middle
 obtain⟨w2,s2⟩:=World.write (M:=A++B) (w.perm p) hl ok' nd h1 h2 h3;exact⟨w2.perm List.perm_middle.symm,s2.perm p.symm List.perm_middle.symm⟩
end
theorem RepA.snoc{K:PySem.W.Frag}{H:Hp}{g:Bool}{d:D}{x:V}{cs:List Addr}(h:RepL K H g d x cs){ds:List D}{xs:List V}{bs:List Addr}(r:RepA K H g ds xs bs):RepA K H g (ds++[d]) (xs++[x]) (bs++cs):=by
 refine RepA.app ?_ r;unfold RepA;exact⟨x,[],cs,[],rfl,by simp,h,by unfold RepA;exact⟨rfl,rfl⟩⟩
theorem kqf{K:PySem.W.Frag}{H:Hp}{y:Sl}{ds:List D}(ok:y.ok K H)(hd:y.d=.lst ds)(ho:y.o≠.no):∃l xs bs,y.v=.ref l/\H l=some (.lst xs)/\y.as=l::bs/\l∈y.own/\RepA K H (y.o != .dp) ds xs bs:=by
 obtain⟨o,d,v,as⟩:=y;dsimp only at hd ho;subst hd;cases o with
 |no=>exact absurd rfl ho
 |rt=>
  obtain⟨a,xs,bs,rfl,r,q,rfl⟩:=(show RepR K H (.lst ds) v as from ok);exact⟨a,xs,bs,rfl,q,rfl,by simp[Sl.own],r⟩
 |dp=>
  have ok:RepL K H false (.lst ds) v as:=ok;unfold RepL at ok;obtain⟨a,xs,bs,rfl,r,q⟩:=ok;rcases q with⟨q,rfl⟩|⟨z,_⟩
  ·exact⟨a,xs,bs,rfl,q,rfl,by simp[Sl.own],r⟩
  ·cases z
theorem kqb{K:PySem.W.Frag}{H:Hp}{T L:Ls}{i:Nat}{y:Sl}{l:Addr}{xs xs':List V}{bs cs:List Addr}{o':Own}{ds':List D}(w:World K H (T++L))(hy:L[i]?=some (some y))(hH:H l=some (.lst xs))(ha:y.as=l::bs)(hl:l∈y.own)(hv:y.v=.ref l)
  (r:RepA K H (o' != .dp) ds' xs' cs) (hc:(o'=.rt/\∀a∈cs,a∈bs\/a∈j7 T\/a∈jW T)\/(o'=.dp/\y.o=.dp/\cs.Nodup/\∀a∈cs,a∈bs\/a∈j7 T)):
  World K (upd H l (.lst xs')) (L.set i (some ⟨o',.lst ds',y.v,l::cs⟩))/\Step H (T++L) (upd H l (.lst xs')) (L.set i (some ⟨o',.lst ds',y.v,l::cs⟩)):=by
 have oL:l∈j7 L:=mem_owned.mpr ⟨y,ww hy,hl⟩;have oy:l∈j7 (T++L):=by rw[k3];exact lr9 _ oL
 have nd:=w.nd;rw [k3,Xa]at nd;have nT:l∉j7 T:=λz=>nd.2.2 l z l oL rfl
 have nF:l∉jW T:=λz=>w.ds l oy (by rw[qv];exact ll9 _ z)
 have yn:y.own.Nodup:=by
  obtain⟨A,B,e,_⟩:=ZQ hy;have:=nd.2.1;rw[e,k3,jK,Xa]at this;exact(List.nodup_append.mp this.2.1).1
 have nb:l∉bs:=λz=>by
  cases ho:y.o with
  | no=>unfold Sl.own at hl;rw[ho]at hl;exact nomatch hl
  | rt=>
   have:l∈y.frz:=by unfold Sl.frz;rw[ho,ha];exact z
   exact w.ds l oy (by rw[qv];exact lr9 _ (mem_frozen.mpr ⟨y,ww hy,this⟩))
  | dp=>
   unfold Sl.own at yn;rw[ho,ha]at yn;exact(List.nodup_cons.mp yn).1 z
 have nc:l∉cs:=λz=>by
  rcases hc with⟨_,hc⟩|⟨_,_,_,hc⟩
  ·rcases hc l z with q|q|q
   ·exact nb q
   ·exact nT q
   ·exact nF q
  ·rcases hc l z with q|q
   ·exact nb q
   ·exact nT q
 have kp:Kp H (upd H l (.lst xs')) cs:=by
  have k2:∀a o,H a=some o->a≠l->upd H l (.lst xs') a=some o:=λa o e ne=>by rw[kW ne];exact e
  refine⟨λa zs e=>k2 a _ e λz=>?_,λa o u e=>k2 a _ e λz=>?_,λa ha o e=>k2 a o e λz=>nc (z▸ha)⟩
  ·subst z;rw[hH]at e;cases e
  ·subst z;rw[hH]at e;cases e
 have r':=r.kp kp;rcases hc with⟨rfl,hc⟩|⟨rfl,hdp,hnd,hc⟩
 ·refine World.writeAt w hy hl (y':=⟨.rt,.lst ds',y.v,l::cs⟩) ⟨l,xs',cs,hv,r',xq,rfl⟩ (by simp[Sl.own]) (λa h=>?_) (λa h=>?_) (λa h z=>?_)
  ·have:a=l:=by simpa [Sl.own]using h
   subst this;exact .inl hl
  ·rcases hc a (by simpa [Sl.frz]using h)with q|q
   ·exact .inl (by rw[ha];exact lc9 _ q)
   ·exact .inr q
  ·have:a=l:=by simpa [Sl.own]using h
   subst this;exact nc (by simpa [Sl.frz]using z)
 ·have oa:y.own=y.as:=by unfold Sl.own;rw[hdp]
  refine World.writeAt w hy hl (y':=⟨.dp,.lst ds',y.v,l::cs⟩) ?_ (List.nodup_cons.mpr ⟨nc,hnd⟩) (λa h=>?_) (λa h=>(nomatch h)) (λa h z=>(nomatch z))
  ·show RepL K _ false (.lst ds') y.v (l::cs);unfold RepL;exact⟨l,xs',cs,hv,r',.inl ⟨xq,rfl⟩⟩
  ·rcases List.mem_cons.mp (show a∈l::cs from h)with q|q
   ·subst q;exact .inl hl
   ·rcases hc a q with q|q
    ·exact .inl (by rw[oa,ha];exact lc9 _ q)
    ·exact .inr q
section
variable {X:Cx}{Z:Fx0}{pn:List Nat}{q:Bool}{c:Ex}{e:Expr}{σ:L2.St}{H:Hp}{L:Ls}{E:En}
theorem qxx{K:PySem.W.Frag}{x:Sl}{ds:List D}(ok:x.ok K H)(hd:x.d=.lst ds):tyV K "list" x.v H:=by
 obtain⟨a,xs,bs,e1,q1,_⟩:=items ok (.inl hd);rw[e1];rcases q1 with⟨_,z⟩|⟨z,_⟩
 ·exact .inl ⟨rfl,xs,z.sq⟩
 ·rw[hd]at z;cases z
theorem wjh{K:PySem.W.Frag}{x:Sl}(ok:x.ok K H)(b:Bool)(hb:b=false->vk x.sd=true):∃cs,RepL K H b x.d x.v cs/\(∀a∈cs,a∈x.as)/\(b=false->∀a∈cs,a∈x.own)/\(b=false->x.own.Nodup->cs.Nodup):=by
 cases b with
 | true=>exact⟨x.as,RepO.wk ok,λ_ h=>h,(λz=>by cases z),(λz=>by cases z)⟩
 | false=>
  have t:=hb rfl;unfold vk at t
  by_cases ho:x.o=.dp
  ·have e:x.own=x.as:=by unfold Sl.own;rw[ho]
   refine⟨x.as,?_,λ_ h=>h,λ_ a h=>by rw[e];exact h,λ_ n=>by rw[e]at n;exact n⟩;have:=ok;unfold Sl.ok at this;rw[ho]at this;exact this
  ·have hp:x.d.pure=true:=by
    rcases Bool.or_eq_true_iff.mp t with z|z
    ·exact absurd (by simpa using z) ho
    ·exact z
   obtain⟨z,rp⟩:=RepL.pu (g':=false) (RepO.wk ok) hp;exact⟨[],rp,λ_ h=>(nomatch h),λ_ _ h=>(nomatch h),λ_ _=>Y1⟩
theorem KQ{α:Type}{l:List α}{i:Nat}{x:α}(h:l[i]?=some x):l.set i x=l:=by
 obtain⟨h1,h2⟩:=List.getElem?_eq_some_iff.mp h;rw[<-h2];simp
theorem mut1 {D':Ends} {f:List D->D->Option (List D)} {i:Nat} {r:Fl} {G:V->V->Hp->Prop} (m:Mt E σ L) (w:World Z.K H L) (hc:qZ f i c E=some r) (k:FlP Z pn D' σ H L r)
  (g:∀ (l:Addr) (x:V) (xs:List V) (ds ds':List D) (d:D) (bs cs:List Addr) (H1:Hp) (gg:Bool),f ds d=some ds'->H1 l=some (.lst xs)->RepA Z.K H1 gg ds xs bs->RepL Z.K H1 gg d x cs ->
   (∀ xs' es,RepA Z.K H1 gg ds' xs' es->(∀a∈es,a∈bs\/a∈cs)->((bs++cs).Nodup->es.Nodup)->D'.nx σ (upd H1 l (.lst xs')))->G (.ref l) x H1):
  ∃ v,σ[i]?=some (some v)/\tyV Z.K "list" v H/\tQ Z q c σ H (G v):=by
 unfold qZ at hc;cases h0:E[i]? with
 | none=>rw[h0]at hc;cases hc
 | some s0 =>
  cases s0 with
  | none=>rw[h0]at hc;cases hc
  | some s0=>
   obtain ⟨o0,d0⟩:=s0;cases d0 with
   | lst ds0=>
    rw [h0,Xf (show Jj (some (some (o0,D.lst ds0)))=true from rfl)]at hc;obtain ⟨x0,a1,a2,a3,a4⟩:=m.get h0;refine ⟨x0.v,a4,qxx (w.ok x0 (ww a1)) a3,?_⟩;refine Vk m w hc k λE1 s h1 x L1 H1 e1 e2 m1 w1 st _=>?_
    cases hE:E1[i]? with
    | none=>rw[hE]at h1;cases h1
    | some s1=>
     cases s1 with
     | none=>rw[hE]at h1;cases h1
     | some s1=>
      obtain⟨oo,dd⟩:=s1;rw [hE]at h1;cases dd with
      | lst ds=>
       dsimp only at h1
       by_cases d9:oo=.no
       ·rw [Xf d9]at h1;cases h1
       ·rw [Xj d9]at h1;cases hfd:f ds s.2 with
        | none=>rw[hfd]at h1;cases h1
        | some ds'=>
         rw[hfd]at h1;obtain⟨y,b1,b2,b3,b4⟩:=m1.get hE;have hv:y.v=x0.v:=by rw[a4]at b4;exact(oq9 (oq9 b4)).symm
         obtain⟨l,xs,bs,c1,c2,c3,c4,c5⟩:=kqf (w1.ok y (lc9 _ (ww b1))) b3 (by rw[b2];exact d9);have ex0:x0.v=.ref l:=hv▸c1;rw[ex0];have wT:World Z.K H1 ([some x]++L1):=w1;have mv:=w1.head;have nd:=w1.nd;rw[jK,Xa]at nd;have oT:j7 [some x]=x.own:=by simp
         have fT:jW [some x]=x.frz:=by simp
         by_cases hd:oo=.dp/\vk s=true
         ·rw[Xf hd]at h1;cases oq9 h1;have ng:y.o=.dp:=b2.trans hd.1;rw[ng]at c5;obtain⟨cs,r1,h3,h4,h5⟩:=wjh mv false λ_=>by rw[show x.sd=s from by simp[Sl.sd,e1,e2]];exact hd.2
          refine g l x.v xs ds ds' s.2 bs cs H1 false hfd c2 c5 (by rw[<-e2];exact r1) λxs' es re he hn=>?_
          have ynd:(bs++cs).Nodup:=by
           have yo:y.own=l::bs:=by unfold Sl.own;rw[ng,c3]
           obtain⟨A,B,e,_⟩:=ZQ b1;have q:=nd.2.1;rw[e,k3,jK,Xa]at q;have q2:=(List.nodup_append.mp q.2.1).1;rw[yo]at q2;rw[Xa];refine⟨(List.nodup_cons.mp q2).2,h5 rfl nd.1,λa ha b hb jo=>?_⟩;subst jo;exact nd.2.2 a (h4 rfl a hb) a (mem_owned.mpr ⟨y,ww b1,by rw[yo];exact lc9 _ ha⟩) rfl
          obtain⟨w3,s3⟩:=kqb (o':=.dp) (ds':=ds') (xs':=xs') wT b1 c2 c3 c4 c1 re (.inr ⟨rfl,ng,hn ynd,λa ha=>(he a ha).imp id λz=>by rw[oT];exact h4 rfl a z⟩);refine k σ _ _ Pn.refl ?_ w3 (st.trans s3);have:=m1.set (x:=⟨.dp,.lst ds',y.v,l::es⟩) i;rw[KQ b4]at this;exact this
         ·rw[Xj hd]at h1;cases oq9 h1;have c6:RepA Z.K H1 true ds xs bs:=by
           cases hb:(y.o != .dp)with
           |true=>rw[hb]at c5;exact c5
           |false=>rw[hb]at c5;exact c5.wk
          refine g l x.v xs ds ds' s.2 bs x.as H1 true hfd c2 c6 (by rw[<-e2];exact RepO.wk mv) λxs' es re he hn=>?_
          obtain⟨w3,s3⟩:=kqb (o':=.rt) (ds':=ds') (xs':=xs') wT b1 c2 c3 c4 c1 re (.inl ⟨rfl,λa ha=>(he a ha).imp id λz=>by rw[oT,fT];exact Sl.as_of z⟩);refine k σ _ _ Pn.refl ?_ w3 (st.trans s3);have:=m1.set (x:=⟨.rt,.lst ds',y.v,l::es⟩) i;rw[KQ b4]at this;exact this
      |_=>cases h1
   |_=>rw[h0]at hc;cases hc
theorem vzt{i:Nat}{o:Expr}{c8 bb pos:Pos}(hb:PE X (.Call (.Attribute o "append" c8) [e] [] bb) (tBM Z.K "list" kq9 (xW i) (qzo (tQ Z q c) vz7)))(hs:autoParam (swapsWith (.Call (.Attribute o "append" c8) [e] [] bb) none pos.line X.env=pure false) Ŕ):
  QS X Z pn (qZ v4 i c) (.Expr (.Call (.Attribute o "append" c8) [e] [] bb) pos):=JZ (qko hb hs) λD σ H av=>ex7 av λE L r m w hc k=>
 mut1 (G:=λv x H1=>kq9 v [x] H1 λ_ H2=>D.nx σ H2) m w hc k λl x xs ds ds' d bs cs H1 gg hf hH ra rx fin=>by
  unfold v4 at hf
  by_cases hl:ds.length<big
  ·rw[Xf hl]at hf;cases oq9 hf;exact⟨l,xs,x,rfl,rfl,hH,by rw[<-ra.len];exact hl,fin (xs++[x]) (bs++cs) (RepA.snoc rx ra) (λa ha=>List.mem_append.mp ha) λh=>h⟩
  ·rw[Xj hl]at hf;cases hf
end
section
variable {X:Cx}{Z:Fx0}{pn:List Nat}{q:Bool}{a b c:Ex}{tg e ea eb:Expr}{σ:L2.St}{H:Hp}{L:Ls}{E:En}{pos p:Pos}
theorem vq6{pins:List (Addr×Obj)}{H1:Hp}{s1:Shared}{x:Str}{t:Tok}{R:It->Hp->Prop}(I1:L2.Inv X pins σ H1 s1)(q:R (Its x) H1):wpAny (model X.prog X.w) X.A (pyIter (.str x t)) (PIE X pins σ tg R) X.xe s1:=by
 have fp:∀b∈[s1.heap.objs.size],wK X pins H1 b:=λb hb=>by
  have e:b=s1.heap.objs.size:=by simpa using hb
  subst e;exact I1.fpOk (Xd _) (I1.hok.fresh (Xd _))
 cases ha:x.cps.all (· < 128)
 ·exact wpAny_pyIter_wide ha ⟨s1.heap.objs.size,[s1.heap.objs.size],_,_,H1,rfl,I1.kept (t':=s1.toks) λb o e=>X2 _ e,kxj (λA' hA=>PySem.Walks.strWide hA _ x t) (λ_ _ _ _ _ st h=>wpAny_pyIter_striter_wide st h) (by decide),⟨_,X9 _ rfl,rfl,rfl⟩,fp,q⟩
 ·exact wpAny_pyIter_ascii ha ⟨s1.heap.objs.size,[s1.heap.objs.size],_,_,H1,rfl,I1.kept (t':=s1.toks) λb o e=>X2 _ e,kxj (λA' hA=>PySem.Walks.strAscii hA _ x t) (λ_ _ _ _ _ st h=>wpAny_pyIter_striter_ascii st h) (by decide),⟨_,X9 _ rfl,rfl,rfl⟩,fp,q⟩
theorem vw8{K:PySem.W.Frag}{H:Hp}(c:Nat):Sl.ok K H ⟨.no,.str ⟨#[c]⟩,.str ⟨#[c]⟩,[]⟩:=by
 show RepL K H true _ _ _;exact W6 (show(1:Nat)<=sizeLine by decide)
theorem vw7{K:PySem.W.Frag}{H:Hp}(i:Int):Sl.ok K H ⟨.no,.int i,.int i,[]⟩:=by
 show RepL K H true _ _ _;exact K6
noncomputable def iAny(K:PySem.W.Frag)(tl:TE):TI:=fun σ H R=>tl σ H λx H1=>(∃a xs,x=.ref a/\SqL K H1 a xs/\(xs.length<=sizeLine->R (Itl K a) H1))\/(∃a xs,x=.ref a/\SqT K H1 a xs/\(xs.length<=sizeLine->R (Itt K a) H1))\/∃z,x=.str z/\R (Its z) H1
theorem vvi{l:Expr}{tl:TE}(hl:PE X l tl):PI X tg l (iAny X.K tl):=by
 intro pins s σ H R I h;have h':tl σ H λx H1=>(∃a xs,x=.ref a/\SqL X.K H1 a xs/\(xs.length<=sizeLine->R (Itl X.K a) H1))\/(∃a xs,x=.ref a/\SqT X.K H1 a xs/\(xs.length<=sizeLine->R (Itt X.K a) H1))\/∃z,x=.str z/\R (Its z) H1:=h
 refine thn (hl pins s σ H _ I h') λv s1 ⟨x,H1,I1,r1,q1⟩=>?_
 rcases q1 with⟨a,xs,rfl,hq,q⟩|⟨a,xs,rfl,hq,q⟩|⟨z,rfl,q⟩
 ·cases r1;obtain⟨aa,rv,p,hz⟩:=I1.list hq;refine wpAny_pyIter_list p.isList ?_;refine⟨s1.heap.objs.size,[s1.heap.objs.size],_,_,H1,rfl,I1.kept (t':=s1.toks) λb o e=>X2 _ e,qjv a _,⟨_,X9 _ rfl,rfl,rfl⟩,λb hb=>?_,q hz⟩;have e:b=s1.heap.objs.size:=by simpa using hb
  subst e;exact I1.fpOk (Xd _) (I1.hok.fresh (Xd _))
 ·cases r1;obtain⟨aa,rv,p,hz⟩:=I1.tuple hq;refine wpAny_pyIter_tuple (show s1.heap.IsTuple a aa.toArray from p) ?_;refine⟨s1.heap.objs.size,[s1.heap.objs.size],_,_,H1,rfl,I1.kept (t':=s1.toks) λb o e=>X2 _ e,kzy a _,⟨_,X9 _ rfl,rfl,rfl⟩,λb hb=>?_,q hz⟩;have e:b=s1.heap.objs.size:=by simpa using hb
  subst e;exact I1.fpOk (Xd _) (I1.hok.fresh (Xd _))
 ·obtain⟨t,rfl⟩:=r1;exact vq6 I1 q
theorem wv(h:QE X Z q c e)(hK:autoParam (X.K=Z.K) Ŕ):QI X Z q tg (itS c) e:=λpins s σ H R I av=>ex8 av λE L r m w hc xc k=>by
 refine(hK▸vvi h) pins s σ H R I ?_;refine qzx m w (show bnd (c E) _=some r from hc) xc λE1 s h1 x L1 H1 e1 e2 m1 w1 st sm=>?_
 obtain⟨ds,hd,rfl⟩:=K0 h1;have ok:=w1.head;have wT:World Z.K H1 (L1++[x.let].map some):=by
  refine World.comm (L:=[some x.let]) ?_;exact w1.tail.consNo (Vx ok) rfl λb hb=>w1.apart b hb
 have sT:Step H L H1 (L1++[x.let].map some):=by
  refine⟨st.keep,λb hb=>?_,λb hb=>?_⟩
  ·have:b∈j7 L1:=by simpa [Zz]using hb
   exact st.own b (by rw[jK];exact lr9 _ this)
  ·have:b∈jW L1\/b∈x.as:=by simpa [Zz]using hb
   rcases this with z|z
   ·exact st.frz b (by rw[qJ];exact lr9 _ z)
   ·exact kq6 st b z
 cases hx:x.d with
 | lst es=>
  rw[<-e2,hx]at hd;have i':es=ds:=oq9 hd;subst i';obtain⟨a,xs,bs,ev,q3,r3,h3,_⟩:=items ok (.inl hx);have q3:LsR Z.K H1 a xs:=by rcases q3 with⟨_,z⟩|⟨z,_⟩;exact z;rw[hx]at z;cases z
  have again:∀H2:Hp,(∀t∈[x.let],t.ok Z.K H2)->∃ys cs,SqL Z.K H2 a ys/\RepA Z.K H2 true es ys cs/\∀b∈cs,b∈x.as:=λH2 hok=>by
   obtain⟨a',ys,cs,ev',q4,r4,h4,_⟩:=items (hok x.let (List.mem_singleton.mpr rfl)) (.inl hx);have:a'=a:=by have:=ev'.symm.trans ev;exact V.ref.inj this
   subst this;rcases q4 with⟨_,z⟩|⟨z,_⟩
   ·exact⟨ys,cs,z.sq,r4,h4⟩
   ·rw[show x.let.d=D.lst es from hx]at z;cases z
  refine .inl ⟨a,xs,ev,q3.sq,λaj=>k _ _ rfl (Itl Z.K a) [x.let] L1 H1 m1 wT sT (by rw[r3.len];exact aj) (λhq=>(sm hq).1) ⟨λt ht=>by rw[List.mem_singleton.mp ht];rfl,λi H2 hok hi=>?_,λH2 hok=>?_,λi H2 v H3 d hok hy ms=>?_⟩⟩
  ·obtain⟨ys,cs,s1,s2,_⟩:=again H2 hok;have hl:=s2.len;exact⟨ys,ys[i]'(by lia),s1,X1 (by lia)⟩
  ·obtain⟨ys,cs,s1,s2,_⟩:=again H2 hok;exact⟨ys,s1,by rw[s2.len];exact Xd _⟩
  ·obtain⟨ys,cs,s1,s2,s3⟩:=again H2 hok;obtain⟨e3,hy⟩:=hy;subst e3;obtain⟨v',f8,f1,f2,f3⟩:=s2.get ms;have:v'=v:=by have:=hy ys s1;rw[f1]at this;exact oq9 this
   subst this;exact⟨⟨.no,d,v',f8⟩,rfl,rfl,rfl,z6,f2,λb hb=>⟨x.let,List.mem_singleton.mpr rfl,s3 b (f3 b hb)⟩⟩
 | tup es=>
  rw[<-e2,hx]at hd;have i':es=ds:=oq9 hd;subst i';obtain⟨a,xs,bs,ev,q3,r3,h3,_⟩:=items ok (.inr hx);have q3:SqT Z.K H1 a xs:=by rcases q3 with⟨z,_⟩|⟨_,z⟩;rw[hx]at z;cases z;exact z
  have again:∀H2:Hp,(∀t∈[x.let],t.ok Z.K H2)->∃ys cs,SqT Z.K H2 a ys/\RepA Z.K H2 true es ys cs/\∀b∈cs,b∈x.as:=λH2 hok=>by
   obtain⟨a',ys,cs,ev',q4,r4,h4,_⟩:=items (hok x.let (List.mem_singleton.mpr rfl)) (.inr hx);have:a'=a:=by have:=ev'.symm.trans ev;exact V.ref.inj this
   subst this;rcases q4 with⟨z,_⟩|⟨_,z⟩
   ·rw[show x.let.d=D.tup es from hx]at z;cases z
   ·exact⟨ys,cs,z,r4,h4⟩
  refine .inr (.inl ⟨a,xs,ev,q3,λaj=>k _ _ rfl (Itt Z.K a) [x.let] L1 H1 m1 wT sT (by rw[r3.len];exact aj) (λhq=>(sm hq).1) ⟨λt ht=>by rw[List.mem_singleton.mp ht];rfl,λi H2 hok hi=>?_,λH2 hok=>?_,λi H2 v H3 d hok hy ms=>?_⟩⟩)
  ·obtain⟨ys,cs,s1,s2,_⟩:=again H2 hok;have hl:=s2.len;exact⟨ys,ys[i]'(by lia),s1,X1 (by lia)⟩
  ·obtain⟨ys,cs,s1,s2,_⟩:=again H2 hok;exact⟨ys,s1,by rw[s2.len];exact Xd _⟩
  ·obtain⟨ys,cs,s1,s2,s3⟩:=again H2 hok;obtain⟨e3,hy⟩:=hy;subst e3;obtain⟨v',f8,f1,f2,f3⟩:=s2.get ms;have:v'=v:=by have:=hy ys s1;rw[f1]at this;exact oq9 this
   subst this;exact⟨⟨.no,d,v',f8⟩,rfl,rfl,rfl,z6,f2,λb hb=>⟨x.let,List.mem_singleton.mpr rfl,s3 b (f3 b hb)⟩⟩
 | str z=>
  rw[<-e2,hx]at hd;have hd:(if z.cps.size<=big then some (z.cps.toList.map λc=>D.str ⟨#[c]⟩)else none)=some ds:=hd
  split at hd
  ·rename_i hz;cases oq9 hd;refine .inr (.inr ⟨z,(zV ok hx).1,k _ _ rfl (Its z) [] L1 H1 m1 (by simpa using w1.tail) (by simpa using (st.trans Step.drop)) (by rw[X5,Xp];exact hz) (λhq=>(sm hq).1) ⟨λt ht=>(nomatch ht),λi H2 _ hi=>?_,λH2 _=>?_,λi H2 v H3 d _ hy ms=>?_⟩⟩)
   ·show i<z.cps.size
    simpa using hi
   ·show(z.cps.toList.map λc=>D.str ⟨#[c]⟩).length=z.cps.size;simp
   ·obtain⟨e3,cc,hc,rfl⟩:=hy;subst e3;rw[Xu,Yi,hc]at ms;cases oq9 ms;exact⟨⟨.no,.str ⟨#[cc]⟩,.str ⟨#[cc]⟩,[]⟩,rfl,rfl,rfl,z6,vw8 cc,λb hb=>(nomatch hb)⟩
  ·cases hd
 |non=>rw[<-e2,hx]at hd;cases hd
 |bl _=>rw[<-e2,hx]at hd;cases hd
 |int _=>rw[<-e2,hx]at hd;cases hd
 |dct _=>rw[<-e2,hx]at hd;cases hd
 |obj _ _=>rw[<-e2,hx]at hd;cases hd
theorem kkj{K:PySem.W.Frag}(lo hi:Int):Walks K (Itr lo (hi - lo).toNat) [] (k9 lo hi):=by
 have hl:(k9 lo hi).length=(hi - lo).toNat:=by simp[k9]
 refine⟨λt ht=>(nomatch ht),λi H _ qi=>by rw[hl]at qi;exact qi,λH _=>by rw[hl];exact Xd _,λi H v H' d _ hy hd=>?_⟩;obtain⟨e,rfl⟩:=hy;subst e;unfold k9 at hd;rw[Xu]at hd;cases hr:(List.range (hi - lo).toNat)[i]? with
 | none=>rw[hr]at hd;cases hd
 | some j=>
  rw[hr]at hd;have:j=i:=by
   obtain⟨_,h2⟩:=List.getElem?_eq_some_iff.mp hr
   simpa using h2.symm
  subst this;cases oq9 hd;exact⟨⟨.no,.int (lo+(j:Int)),.int (lo+(j:Int)),[]⟩,rfl,rfl,rfl,z6,vw7 _,λb hb=>(nomatch hb)⟩
theorem Zj{i:Int}(h:v7 i=true):-(2 ^ 62)<=i/\i<2 ^ 62:=by
 unfold v7 at h
 simpa using h
theorem Zq(ha:QV X Z q a ea)(hg:Gl X "range")(hm:X.mg "range"=none)(bo:autoParam (starEach [ea] X.env=[(false,eval ea X.env)]) Ŕ):QI X Z q tg (wx a) (.Call (.Name "range" p) [ea] [] pos):=λpins s σ H R I av=>ex8 av λE L r m w hc xc k=>by
 refine(qkt hg hm (wj ha xj bo) bo) pins s σ H R I ?_;refine vZ m w (show bnd (a E) _=some r from hc) xc λE1 s h1 x L1 H1 e1 e2 m1 w1 ok fr sr st sm=>?_
 cases hx:s.2 with
 | int j=>
  rw[hx]at h1;dsimp only at h1
  split at h1
  ·rename_i hj;cases oq9 h1;obtain⟨j1,j2⟩:=Zj hj.1;have hv:=qz ok (e2.trans hx);refine⟨j,by rw[hv],j1,j2,?_⟩;have wk:=kkj (K:=Z.K) 0 j;rw[Int.sub_zero]at wk;exact k _ _ rfl (Itr 0 j.toNat) [] L1 H1 m1 (by simpa using w1) (by simpa using st) (by simp only[k9,X5,Yu,Int.sub_zero];exact hj.2) sm wk
  ·cases h1
 |_=>rw[hx]at h1;cases h1
theorem vqz(ha:QV X Z q a ea)(hb:QV X Z true b eb)(hg:Gl X "range")(hm:X.mg "range"=none)(hs:autoParam (starEach [ea,eb] X.env=[(false,eval ea X.env),(false,eval eb X.env)]) Ŕ)(lf:autoParam (starEach [eb] X.env=[(false,eval eb X.env)]) Ŕ)
  (hs3:autoParam (starEach [ea,eb] X.env=(false,eval ea X.env)::starEach [eb] X.env) Ŕ):QI X Z q tg (vz0 a b) (.Call (.Name "range" p) [ea,eb] [] pos):=λpins s σ H R I av=>ex8 av λE L r m w hc xc k=>by
 refine(qks hg hm (wj ha (wj hb xj lf) hs3) hs lf) pins s σ H R I ?_;refine vZ m w (show bnd (a E) _=some r from hc) xc λE1 s h1 x L1 H1 e1 e2 m1 w1 ok fr sr st sm=>?_
 refine vZ m1 w1 h1 (xc.step st) λE2 s2 h2 y L2 H2 e3 e4 m2 w2 ic pw oh bm dh=>?_
 have kx:=Qk ok fr bm (dh rfl);cases hx:s.2 with
 | int i=>
  cases hy:s2.2 with
  | int j=>
   rw[hx,hy]at h2;dsimp only at h2
   split at h2
   ·rename_i hj;cases oq9 h2;obtain⟨i1,i2⟩:=Zj hj.1;obtain⟨j1,j2⟩:=Zj hj.2.1;refine⟨i,j,by rw[qz kx.1 (e2.trans hx),qz ic (e4.trans hy)],⟨i1,i2,j1,j2⟩,?_⟩;exact k _ _ rfl (Itr i (j - i).toNat) [] L2 H2 m2 (by simpa using w2) (by simpa using st.trans bm) (by simp only[k9,X5,Yu];exact hj.2.2) (λhq=>qk (sm hq) (dh rfl)) (kkj i j)
   ·cases h2
  |_=>rw[hx,hy]at h2;cases h2
 |_=>rw[hx]at h2;cases h2
theorem Mt.clr:∀{R:List Nat} {E:En} {L:Ls},Mt E σ L->Mt (Q.clr R E) σ (Q.clr R L)
 | [],_,_,m=>m
 | j::R,E,L,m=>by
  have un:∀{E:En} {σ:L2.St} {L:Ls} (j:Nat),Mt E σ L->Mt (E.set j none) σ (L.set j none):=by
   intro E σ L j m
   induction m generalizing j with
   |nil=>exact .nil
   |un m ih=>cases j with
    |zero=>exact .un m
    |succ j=>exact .un (ih j)
   |cons m ih=>cases j with
    |zero=>exact .un m
    |succ j=>exact .cons (ih j)
  show Mt (Q.clr R (E.set j none)) σ (Q.clr R (L.set j none));exact Mt.clr (un j m)
theorem Mt.drop:∀{E:En} {σ:L2.St} {L:Ls} (k:Nat),Mt E σ L->Mt (E.drop k) (σ.drop k) (L.drop k)
 |_,_,_,0,m=>m
 |_,_,_,k+1,.nil=>.nil
 |_,_,_,k+1,.un m=>m.drop k
 |_,_,_,k+1,.cons m=>m.drop k
theorem Mt.none_at:∀{E:En} {σ:L2.St} {L:Ls} {j:Nat},Mt E σ L->E[j]?=some none->L[j]?=some none
 |_,_,_,_,.nil,h=>by simp at h
 |_,_,_,0,.un _,_=>by simp
 |_,_,_,j+1,.un m,h=>by simpa using m.none_at (j:=j) (by simpa using h)
 |_,_,_,0,.cons _,h=>by simp at h
 |_,_,_,j+1,.cons m,h=>by simpa using m.none_at (j:=j) (by simpa using h)
theorem Mt.pick:∀{R:List Nat},Mt E σ L->Mt (R.map (at' E)) (R.map (at' σ)) (R.map (at' L))
 | [],_=>.nil
 | j::R,m=>by
  rw[List.map_cons,List.map_cons,List.map_cons];cases hE:E[j]? with
  | none=>
   have hl:=m.len;have:L[j]?=none:=by rw[List.getElem?_eq_none_iff]at hE ⊢;lia
   rw[show at' E j=none from by unfold at';rw[hE];rfl,show at' L j=none from by unfold at';rw[this];rfl];exact .un m.pick
  | some s=>
   cases s with
   |none=>
    have:L[j]?=some none:=m.none_at hE;rw[show at' E j=none from by unfold at';rw[hE];rfl,show at' L j=none from by unfold at';rw[this];rfl];exact .un m.pick
   |some s=>
    obtain⟨o,d⟩:=s;obtain⟨x,h1,h2,h3,h4⟩:=m.get hE;rw[show at' E j=some (x.o,x.d)from by unfold at';rw[hE,h2,h3];rfl,show at' L j=some x from by unfold at';rw[h1];rfl,show at' σ j=some x.v from by unfold at';rw[h4];rfl];exact .cons m.pick
theorem Mt.rep:∀{k:Nat},Mt E σ L->Mt (List.replicate k none++E) (List.replicate k none++σ) (List.replicate k none++L)
 |0,m=>by simpa using m
 |k+1,m=>by
  rw[List.replicate_succ,List.replicate_succ,List.replicate_succ];exact .un m.rep
theorem Mt.back:∀{R:List Nat} {B:En} {τ:L2.St} {M:Ls} {E:En} {L:Ls},Mt E σ L->Mt B τ M->(∀(i j:Nat) (v:V),R[i]?=some j->τ[i]?=some (some v)->σ[j]?=some (some v))->Mt (Q.back R B E) σ (Q.back R M L)
 | [],B,τ,M,E,L,m,_,_=>by simpa [Q.back]using m
 | j::R,_,_,_,E,L,m,.nil,_=>by simpa [Q.back]using m
 | j::R,_,_,_,E,L,m,.un mB,h=>by
  have un:∀{E:En} {σ:L2.St} {L:Ls} (j:Nat),Mt E σ L->Mt (E.set j none) σ (L.set j none):=by
   intro E σ L j m
   induction m generalizing j with
   |nil=>exact .nil
   |un m ih=>cases j with
    |zero=>exact .un m
    |succ j=>exact .un (ih j)
   |cons m ih=>cases j with
    |zero=>exact .un m
    |succ j=>exact .cons (ih j)
  show Mt (Q.back R _ (E.set j none)) σ (Q.back R _ (L.set j none));exact Mt.back (un j m) mB λi jj v e1 e2=>h (i+1) jj v (by simpa using e1) (by simpa using e2)
 |j::R,_,_,_,E,L,m,.cons (x:=x) mB,h=>by
  have h0:=h 0 j x.v (by simp) (by simp);have m1:=m.set (x:=x) j;rw[KQ h0]at m1;show Mt (Q.back R _ (E.set j _)) σ (Q.back R _ (L.set j _));exact Mt.back m1 mB λi jj v e1 e2=>h (i+1) jj v (by simpa using e1) (by simpa using e2)
section
variable {au em:Expr}{dq:List Expr}{scope:Scope}{N:List Str}{k:Nat}{R:List Nat}{it:Ev (List D)}{tt:Tg}{u:Ts}{o:Own}{q1 q2:Bool}
theorem vju:JX k R σ=List.replicate k none++R.map (at' σ):=rfl
theorem wj9{K:PySem.W.Frag}{M:Ls}(hR:R.Nodup)(w:World K H (L++M)):World K H ((List.replicate k none++R.map (at' L))++(Q.clr R L++M))/\Step H (L++M) H ((List.replicate k none++R.map (at' L))++(Q.clr R L++M)):=by
 have p:(sls (L++M)).Perm (sls ((List.replicate k none++R.map (at' L))++(Q.clr R L++M))):=by
  have:=kzq (R:=R) (L:=L) hR;rw[Qj]at this;simp only[Qj,qzp,List.nil_append];rw[<-Xm];exact(this.append_right _).symm
 exact⟨w.same p,Step.refl.same (List.Perm.refl _) p⟩
theorem vwd{K:PySem.W.Frag}{B:Ls}{M:Ls}{H2:Hp}(hR:R.Nodup)(hr:∀j∈R,j<L.length)(hB:B.length=k+R.length)(w:World K H2 (B++(Q.clr R L++M))):World K H2 (Q.back R (B.drop k) (Q.clr R L)++M)/\Step H2 (B++(Q.clr R L++M)) H2 (Q.back R (B.drop k) (Q.clr R L)++M):=by
 have p:=kwh (R:=R) (B:=B.drop k) (L:=Q.clr R L) hR (λj hj=>qvi hj) (λj hj=>by rw[qvh];exact hr j hj) (by rw[Ym,hB];lia);have p2:(sls (Q.back R (B.drop k) (Q.clr R L)++M)).Perm (sls (B.drop k++(Q.clr R L++M))):=by
  rw[Qj,<-Xm,Qj (B.drop k++Q.clr R L)];exact p.append_right _
 have sub:(sls (B.drop k++(Q.clr R L++M))).Sublist (sls (B++(Q.clr R L++M))):=by
  rw[Qj,Qj B];refine List.Sublist.append ?_ (List.Sublist.refl _);unfold sls;exact(List.drop_sublist k B).filterMap _
 exact⟨(w.sub sub).same p2.symm,(Step.refl.sub sub).same (List.Perm.refl _) p2.symm⟩
theorem kj7:∀{is:List Nat} {es:List D} {E E':En},setAll is es E=some E'->E'.length=E.length
 |[],[],_,_,h=>by cases oq9 h;rfl
 |[],_::_,_,_,h=>by cases h
 |_::_,[],_,_,h=>by cases h
 |i::is,d::es,E,E',h=>by rw[kj7 (E:=E.set i (some (.no,d))) h,Yx]
theorem vj3{t:Tg}{d:D}{E E':En}(h:t.put d E=some E'):E'.length=E.length:=by
 cases t with
 |n i=>cases oq9 h;rw[Yx]
 |t is=>
  cases d with
  |tup es=>exact kj7 (show setAll is es E=some E' from h)
  |lst es=>exact kj7 (show setAll is es E=some E' from h)
  |_=>cases h
theorem qqi{nN:Nat}{Q:VK}(hσ:σ.length=nN)(hR:R.Nodup)(hr:∀j∈R,j<nN)(h:tQ Z q (cLC o k R it tt u c) σ H Q):tLC (tIS Z q it) (tG Z ((List.range R.length).map (k + ·)) tt) (tT Z q u) (tQ Z q c) k R σ H Q:=by
 obtain⟨E,L,r,m,w,i4,xc,kk⟩:=h;have i4:bnd (it E) (λE ds=>match lcL tt u c ds (V9 k R E) []with
  | some (.ok B xs)=>mkL o (VQ k R B E) xs
  | some (.exc B e)=>some (.exc (VQ k R B E) e)
  | none=>none)=some r:=i4
 rcases vY i4 with⟨E1,ds,h1,h2⟩|⟨E1,cc,h1,h2⟩
 rotate_left
 ·exact⟨E,L,_,m,w,h1,xc.map h2,λE' s' z=>by cases z⟩
 refine⟨E,L,_,m,w,h1,(λ_ _ z=>by cases z),λE' ds' z J T L1 H1 m1 w1 st hz sm wk=>?_⟩;injection z with z1 z2;subst z1 z2;have hL1:∀j∈R,j<L1.length:=λj hj=>by have:=m1.len;have:=hr j hj;lia
 obtain⟨wB,sB⟩:=wj9 (k:=k) hR w1;cases hrB:lcL tt u c ds (V9 k R E1) []with
 | none=>rw[hrB]at h2;cases h2
 | some rB=>
  rw [hrB]at h2;have okT:∀{H2:Hp} {A B:Ls},World Z.K H2 (A++(B++(_root_.Q.clr R L1++T.map some)))->∀t∈T,t.ok Z.K H2:=λw2 t ht=>w2.ok t (lr9 _ (lr9 _ (lr9 _ (Xh ht))))
  have mB0:Mt (V9 k R E1) (JX k R σ) (List.replicate k none++R.map (at' L1)):=(m1.pick (R:=R)).rep;have pi:∀{B:En} {LB:Ls} {τ:L2.St} {H2:Hp} {A:Ls},Mt B τ LB->τ.length=k+R.length->Pn ((List.range R.length).map (k + ·)) (JX k R σ) τ->World Z.K H2 (LB++(A++(_root_.Q.clr R L1++T.map some))) ->
    Mt (VQ k R B E1) σ (_root_.Q.back R (LB.drop k) (_root_.Q.clr R L1))/\World Z.K H2 (A++_root_.Q.back R (LB.drop k) (_root_.Q.clr R L1))/\Step H2 (LB++(A++(_root_.Q.clr R L1++T.map some))) H2 (A++_root_.Q.back R (LB.drop k) (_root_.Q.clr R L1)):=fun {B LB τ H2 A} mB lB pB wB2=>by
   have hl:LB.length=k+R.length:=by rw[mB.len.2];exact lB
   have pm:(LB++(A++(_root_.Q.clr R L1++T.map some))).Perm (LB++(_root_.Q.clr R L1++(A++T.map some))):=by
    refine List.Perm.append_left _ ?_;rw [<-Xm,<-Xm];exact List.Perm.append_right _ List.perm_append_comm
   obtain⟨w3,s3⟩:=vwd (k:=k) hR hL1 hl (wB2.perm pm);have pm2:(_root_.Q.back R (LB.drop k) (_root_.Q.clr R L1)++(A++T.map some)).Perm ((A++_root_.Q.back R (LB.drop k) (_root_.Q.clr R L1))++T.map some):=by
    rw [<-Xm];exact List.Perm.append_right _ List.perm_append_comm
   refine⟨?_,(w3.perm pm2).left,(s3.perm pm.symm pm2).trans Step.dropT⟩;refine Mt.back (m1.clr) (mB.drop k) λi j v e1 e2=>?_
   have hi:i<R.length:=(List.getElem?_eq_some_iff.mp e1).1;have e3:=pB (k+i) (List.mem_map.mpr ⟨i,List.mem_range.mpr hi,rfl⟩);rw [List.getElem?_drop,e3,vju,Yc (by simp),Xx,show k+i - k=i from by lia,Xu,e1]at e2;have e4:at' σ j=some v:=by simpa using e2
   unfold at' at e4;cases hh:σ[j]? with
   | none=>rw[hh]at e4;cases e4
   | some s=>rw[hh]at e4;rw[show s=some v from e4]
  refine⟨λi n ys τ H2=>∃(B:En) (LB:Ls) (ae:List Sl),Mt B τ LB/\τ.length=k+R.length/\Pn ((List.range R.length).map (k + ·)) (JX k R σ) τ/\World Z.K H2 (LB++(ae.map some++(_root_.Q.clr R L1++T.map some)))/\Step H L H2 (LB++(ae.map some++(_root_.Q.clr R L1++T.map some))) /\
   ys=ae.map Sl.v/\lcL tt u c (ds.drop i) B (ae.map Sl.sd)=some rB/\i<=ds.length/\ae.length<=i/\n=ds.length - i/\(q=true->kj H H2/\∀b∈j7 (ae.map some),H b=none),⟨_,V9 k R E1,_,[],mB0,by simp[JX],Pn.refl,wB,st.trans sB,rfl,hrB,Z5 _,Z5 _,rfl,λhq=>⟨sm hq,λ_ z=>(nomatch z)⟩⟩,?_⟩
  rintro i n ys τ H2 ⟨B,LB,ae,mB,lB,pB,wB2,sB2,rfl,f1,hi,gh,rfl,smB⟩
  by_cases dm:i<ds.length
  rotate_left
  ·have e:i=ds.length:=by lia
   subst e;rw [List.drop_length]at f1;cases oq9 f1;obtain⟨m3,w3,s3⟩:=pi mB lB pB wB2;refine .inl ⟨wk.stop H2 (okT wB2) (λhq=>(smB hq).1),by rw[X5];lia,?_⟩;exact kzb (σ:=σ) (Q:=Q) (o:=o) (xs:=ae) h2 rfl w3 (sB2.trans s3) smB kk m3
  ·have hd:ds.drop i=ds[i]::ds.drop (i+1):=List.drop_eq_getElem_cons dm;rw [hd]at f1;unfold lcL at f1;cases bp:tt.put ds[i] B with
   | none=>rw[bp]at f1;cases f1
   | some B2=>
    rw [bp]at f1;dsimp only at f1;refine .inr ⟨wk.go i H2 (okT wB2) (λhq=>(smB hq).1) dm,λv H3 hy=>?_⟩;obtain⟨z,zo,zd,zv,smz,ph,zas⟩:=wk.yld i H2 v H3 ds[i] (okT wB2) (λhq=>(smB hq).1) hy (X1 dm);have pm:(LB++(ae.map some++(_root_.Q.clr R L1++T.map some))).Perm ((LB++(ae.map some++_root_.Q.clr R L1))++T.map some):=by
     rw[<-Xm (ae.map some),<-Xm]
    obtain⟨wz,sz⟩:=kkr (wB2.perm pm) wk.no smz ph zo zas;have wz':World Z.K H3 ((some z::LB)++(ae.map some++(_root_.Q.clr R L1++T.map some))):=wz.perm (by
     rw[List.cons_append,List.cons_append];exact List.Perm.cons _ pm.symm)
    have sz':Step H2 (LB++(ae.map some++(_root_.Q.clr R L1++T.map some))) H3 ((some z::LB)++(ae.map some++(_root_.Q.clr R L1++T.map some))):=sz.perm pm.symm (by
     rw[List.cons_append,List.cons_append];exact List.Perm.cons _ pm.symm)
    refine⟨B,LB,z,B2,mB,wz'.left,zo,zv,by rw[zd];exact bp,fun τ2 LB2 p2 mB2 wB3 sB3=>?_⟩;obtain⟨w4,s4⟩:=stay wz' sB3 wB3;have lB2:τ2.length=k+R.length:=by
     have h1:=mB2.len.1;have h2:=mB.len.1;have h3:=vj3 bp;lia
    have p3:=pB.trans p2;have n6:Step H L H3 (LB2++(ae.map some++(_root_.Q.clr R L1++T.map some))):=sB2.trans (sz'.trans s4);have gc:q=true->kj H H3/\∀b∈j7 (ae.map some),H b=none:=λhq=>⟨qk (smB hq).1 smz,(smB hq).2⟩
    refine⟨λy H5=>∃(B:En) (LB:Ls) (dk:List Sl),Mt B τ2 LB/\World Z.K H5 (LB++(dk.map some++(_root_.Q.clr R L1++T.map some)))/\Step H L H5 (LB++(dk.map some++(_root_.Q.clr R L1++T.map some)))/\ae.map Sl.v++[y]=dk.map Sl.v/\dk.length=ae.length+1/\lcL tt u c (ds.drop (i+1)) B (dk.map Sl.sd)=some rB/\(q=true->kj H H5/\∀b∈j7 (dk.map some),H b=none),
     λH5=>∃B LB,Mt B τ2 LB/\World Z.K H5 (LB++(ae.map some++(_root_.Q.clr R L1++T.map some)))/\Step H L H5 (LB++(ae.map some++(_root_.Q.clr R L1++T.map some)))/\lcL tt u c (ds.drop (i+1)) B (ae.map Sl.sd)=some rB/\(q=true->kj H H5/\∀b∈j7 (ae.map some),H b=none),
     λy H5 ⟨B5,LB5,acc5,c1,c2,c3,c4,c5,c6,c7⟩=>⟨by rw[X5];lia,ds.length - (i+1),by lia,B5,LB5,acc5,c1,lB2,p3,c2,c3,c4,c6,dm,by lia,rfl,c7⟩,
     λH5 ⟨B5,LB5,c1,c2,c3,c6,c7⟩=>⟨ds.length - (i+1),by lia,B5,LB5,ae,c1,lB2,p3,c2,c3,rfl,c6,dm,by lia,rfl,c7⟩,?_⟩
    have xcB:∀{α:Type} {H6:Hp} {L6:Ls} {B6:En} {cc:Str} {A:Ls},rB=.exc B6 cc->World Z.K H6 (L6++(A++(_root_.Q.clr R L1++T.map some)))->Step H L H6 (L6++(A++(_root_.Q.clr R L1++T.map some)))->Xc Z τ2 H6 L6 (.exc B6 cc:Res α):=fun {α H6 L6 B6 cc A} er w6 s6 E7 c7 e7 C L7 H7 hm m7 w7 s7=>by
     injection e7 with e8 e9;subst e8 e9;subst er;cases oq9 h2;obtain⟨w8,s8⟩:=stay w6 s7 w7;obtain⟨m9,w9,s9⟩:=pi m7 lB2 p3 w8;exact xc _ _ rfl C _ H7 hm m9 w9.right ((s6.trans (s8.trans s9)).trans ⟨λ_ _ h _=>h,λa ha=>.inl (by rw[k3];exact lr9 _ ha),λa ha=>.inl (by rw[qv];exact lr9 _ ha)⟩)
    rcases vY f1 with⟨B4,kb,g1,g2⟩|⟨B4,cc,g1,g2⟩
    rotate_left
    ·exact⟨B2,LB2,_,mB2,wB3,g1,xcB g2 w4 n6,λE' s' z=>by cases z⟩
    refine⟨B2,LB2,_,mB2,wB3,g1,(λ_ _ z=>by cases z),λE' s' z LB4 H4 mB4 wB4 sB4 mh=>?_⟩;injection z with z1 z2;subst z1 z2;obtain⟨w5,s5⟩:=stay w4 sB4 wB4;have ji:=n6.trans s5;cases kb with
    | false=>
     rw[Xj (by decide)]at g2 ⊢;exact⟨B4,LB4,mB4,w5,ji,g2,λhq=>⟨qk (gc hq).1 (mh hq),(gc hq).2⟩⟩
    | true=>
     rw[Xf rfl]at g2 ⊢;rcases vY g2 with⟨B6,y,g3,g4⟩|⟨B6,cc,g3,g4⟩
     rotate_left
     ·exact⟨B4,LB4,_,mB4,wB4,g3,xcB g4 w5 ji,λE' s' z=>by cases z⟩
     refine⟨B4,LB4,_,mB4,wB4,g3,(λ_ _ z=>by cases z),λE' s' z x LB6 H6 ex ey mB6 wB6 sB6 og=>?_⟩;injection z with z1 z2;subst z1 z2;obtain⟨w7,s7⟩:=stay w5 sB6 wB6;have pm3:((some x::LB6)++(ae.map some++(_root_.Q.clr R L1++T.map some))).Perm (LB6++((ae++[x]).map some++(_root_.Q.clr R L1++T.map some))):=by
      rw[Yd,List.cons_append];have:(LB6++(ae.map some++[x].map some++(_root_.Q.clr R L1++T.map some)))=(LB6++ae.map some)++some x::(_root_.Q.clr R L1++T.map some):=by simp
      rw[this];refine List.Perm.trans ?_ List.perm_middle.symm;rw[Xm]
     refine⟨B6,LB6,ae++[x],mB6,w7.perm pm3,(ji.trans s7).perm (List.Perm.refl _) pm3,by simp,by simp,?_,λhq=>⟨qk (gc hq).1 (qk (mh hq) (og hq).1),λb hb=>?_⟩⟩
     ·rw[Yd,show[x].map Sl.sd=[y]from by simp[Sl.sd,ex,ey]];exact g4
     ·rw[Yd,k3]at hb;rcases List.mem_append.mp hb with hb|hb
      ·exact(gc hq).2 b hb
      ·have hb:b∈x.own:=by simpa using hb
       exact zj (qk (gc hq).1 (mh hq)) ((og hq).2 b hb)
theorem q_lc(N:List Str)(hi:QI X Z q tg it au)
  (hg:∀cl C s0 H0 fp,QG (lcE X scope N cl C s0 H0 fp Z.EX) Z ((List.range R.length).map (k + ·)) tt tg) (ht:∀cl C s0 H0 fp,PTs (lcE X scope N cl C s0 H0 fp Z.EX) dq (tT Z q u)) (he:∀cl C s0 H0 fp,QE (lcE X scope N cl C s0 H0 fp Z.EX) Z q c em)
  (gx:zQ X Z.EX) (top:K5 X) (hR:R.Nodup) (hr:∀j∈R,j<X.N.length) (hc:autoParam (X.calm=true) Ŕ) (hk:autoParam (scope.kind=.function) Ŕ) (jt:autoParam (V0 X.N X.env.scope scope N k R=true) Ŕ) (hs:autoParam (∀x,foldedSetIterable au X.env x=pure x) Ŗ):
  QE X Z q (cLC o k R it tt u c) (.ListComp em [⟨tg,au,dq,0⟩] scope pos):=λpins s σ H Q I hw=>
 vvr (EX:=Z.EX) N k R (wkq hi) hg ht he gx top hc hk jt hs pins s σ H Q I (qqi I.len hR hr hw)
theorem qkm{EX:XK}{wi:TI}{g:TG}{tte:TT}{te:TE}{i:Nat}{y:Str}{py jg:Pos}(N:List Str)(k:Nat)(R:List Nat)(hN:X.N.Nodup)(hy:X.N[i]?=some y)(hx:Loc X.env.scope y)(hi:PI X tg au wi)
  (hg:∀cl C s0 H0 fp,PG (lcE X scope N cl C s0 H0 fp EX) tg g) (ht:∀cl C s0 H0 fp,PTs (lcE X scope N cl C s0 H0 fp EX) dq tte) (he:∀cl C s0 H0 fp,PE (lcE X scope N cl C s0 H0 fp EX) em te) (gx:zQ X EX) (top:K5 X)
  (mi:autoParam (swapsWith (.ListComp em [⟨tg,au,dq,0⟩] scope pos) (some (.Name y py)) jg.line X.env=pure true) Ŕ)
  (hc:autoParam (X.calm=true) Ŕ) (hk:autoParam (scope.kind=.function) Ŕ) (jt:autoParam (V0 X.N X.env.scope scope N k R=true) Ŕ) (hs:autoParam (∀x,foldedSetIterable au X.env x=pure x) Ŗ)
  (hf:autoParam (X.fn y=true\/X.env.scope.names.lookup y=some .local) ś):
  PS X (.Assign [.Name y py] (.ListComp em [⟨tg,au,dq,0⟩] scope pos) jg) (λD σ H=>tLC wi g tte te k R σ H λv H1=>D.nx (σ.set i (some v)) H1):=by
 intro pins s σ H D I h;have sc:=kzg hk jt;obtain⟨cl,iu,de,be⟩:=kkw (scope:=scope) (env:=X.env) λy hy e=>I.ok.has y.1 (sc.caps y hy e)
 rw[exec_Assign_Name_used _ _ _ _ mi];refine X0 (wpAny_standAt (X0 ?_));show wpAny _ X.A (do let _ <-comprehension (.ListComp em [⟨tg,au,dq,0⟩] scope pos) scope X.env _ (newList []) false (eval au X.env) (some (assign (.Name y py) X.env))) _ _ s;refine X0 (thn (wpAny_comprehension_free (use:=some (assign (.Name y py) X.env)) (Q:=λ_ s'=>SP X pins D .next s') rfl hs iu sc.kind sc.names
  (thn (hi pins s σ H _ I h) λv s1 h1=>thn h1 λitv s2 h2=>?_)) λ_ s' hq=>X4 (X4 hq))
 obtain⟨it,fp,tn,J,H2,e,I2,T,bm,f2,W,w0,fj⟩:=h2;subst e;refine kw2 (EX:=EX) (RR:=λae C=>compPost (model X.prog X.w) X.A X.xe (some (assign (.Name y py) X.env)) (λ_ s'=>SP X pins D .next s') ae C) hc top sc de be (hg cl) (ht cl) (he cl) I2 T bm f2 w0 fj ?_ ?_
 rotate_left
 ·intro D' C s' cm σ' H' x T Cc fl hC t q;exact qxz gx I2 f2 hC t q
 intro L C oC m ys H' s' I' eC nC fC q;show wpAny _ X.A (assign (.Name y py) X.env (.ref L)) _ _ s';refine wpAny_assign_Name (kq4 I' hN hy hx (v:=.ref L) rfl (λj' I''=>?_) hf);have pC:=I''.pin (C,oC) (lr9 _ (lr9 _ (List.mem_singleton.mpr rfl)));refine⟨m,nC.at' λo e=>?_,λh' sb=>⟨_,_,I''.unpinned.turned (it:=C) (t':=j'.toks) (λb o hb e=>(sb.2 b hb).trans e) fC.1 fC.2.1 fC.2.2.2.1 fC.2.2.2.2.1 fC.2.2.2.2.2,q⟩⟩;rw[eC]at e;cases e;exact pC.1
theorem qkj{i:Nat}{y:Str}{py jg:Pos}(N:List Str)(hN:X.N.Nodup)(hy:X.N[i]?=some y)(hx:Loc X.env.scope y)(hi:QI X Z q tg it au)
  (hg:∀cl C s0 H0 fp,QG (lcE X scope N cl C s0 H0 fp Z.EX) Z ((List.range R.length).map (k + ·)) tt tg) (ht:∀cl C s0 H0 fp,PTs (lcE X scope N cl C s0 H0 fp Z.EX) dq (tT Z q u)) (he:∀cl C s0 H0 fp,QE (lcE X scope N cl C s0 H0 fp Z.EX) Z q c em)
  (gx:zQ X Z.EX) (top:K5 X) (hR:R.Nodup) (hr:∀j∈R,j<X.N.length) (hp:autoParam (i∉pn) ŕ)
  (mi:autoParam (swapsWith (.ListComp em [⟨tg,au,dq,0⟩] scope pos) (some (.Name y py)) jg.line X.env=pure true) Ŕ)
  (hc:autoParam (X.calm=true) Ŕ) (hk:autoParam (scope.kind=.function) Ŕ) (jt:autoParam (V0 X.N X.env.scope scope N k R=true) Ŕ) (hs:autoParam (∀x,foldedSetIterable au X.env x=pure x) Ŗ)
  (hf:autoParam (X.fn y=true\/X.env.scope.names.lookup y=some .local) ś):
  QS X Z pn (jk i (cLC o k R it tt u c)) (.Assign [.Name y py] (.ListComp em [⟨tg,au,dq,0⟩] scope pos) jg):=
 vv7 (q:=q) hp λpins s σ H D I hw=>qkm N k R hN hy hx (wkq hi) hg ht he gx top mi hc hk jt hs hf pins s σ H D I (qqi I.len hR hr hw)
end
end
section
variable {X:Cx}{Z:Fx0}{K:PySem.W.Frag}{pn:List Nat}{q qa qb:Bool}{a b c:Ex}{u:Ts}{tg e ea eb:Expr}{σ:L2.St}{H:Hp}{L:Ls}{E:En}{pos p:Pos}{x:Str}{id T:String}{r:List V->Hp->VK->Prop}{f:Sd->Option Sd}{g:Sd->Sd->Option Sd}
theorem qzy:PTs X [] (tT Z q _root_.Q.tYes):=λpins s σ H Q I av=>ex8 av λE L r m w hc xc k=>by
 cases oq9 hc;exact vj4 pins s σ H Q I (k _ _ rfl L H m w Step.refl λ_=>z6)
theorem Kq(hc:CallR X (.builtin id) r)(ad:Ad1 Z.K (λv H Q=>r [v] H Q) f)(ha:QV X Z q a ea)(hm:X.mg x=none)(hv:bootBuiltins x=some (.builtin id))(hg:autoParam (Gl X x) Ŕ)(hn:autoParam (x≠"__name__") ŕ)(f9:autoParam ((x==("__debug__":Str))=false) ŕ)
  (he:autoParam (starEach [ea] X.env=(false,eval ea X.env)::starEach [] X.env) Ŕ) (bn:autoParam ((backTo pos (starEach [] X.env)).any (·.1)=false) Ŕ):QE X Z q (cF1 f a) (.Call (.Name x p) [ea] [] pos):=
 qV (kqe hc hg hm hv (wj ha xj he) hn f9 he bn) fun σ H Q h=>Qq (r:=λv H Q=>r [v] H Q) ad h
theorem zY(hc:CallR X (.type T) r)(ad:Ad1 Z.K (λv H Q=>r [v] H Q) f)(ha:QV X Z q a ea)(hm:X.mg x=none)(hv:bootBuiltins x=some (.type T))(hg:autoParam (Gl X x) Ŕ)(hn:autoParam (x≠"__name__") ŕ)(f9:autoParam ((x==("__debug__":Str))=false) ŕ)
  (he:autoParam (starEach [ea] X.env=(false,eval ea X.env)::starEach [] X.env) Ŕ) (bn:autoParam ((backTo pos (starEach [] X.env)).any (·.1)=false) Ŕ):QE X Z q (cF1 f a) (.Call (.Name x p) [ea] [] pos):=
 qV (qkw hc hg hm hv (wj ha xj he) hn f9 he bn) fun σ H Q h=>Qq (r:=λv H Q=>r [v] H Q) ad h
theorem vxk:Ad1 K (λv H Q=>qkg K [v] H Q) (pu1 kZ):=by
 intro H x s Q ok hf k;unfold pu1 at hf;have fin:∀n:Nat,kZ x.d=some (.int n)->Q (.int n) H:=λn e=>by
  rw[show(x.o,x.d).2=x.d from rfl,e]at hf;cases oq9 hf;exact k ⟨.dp,.int n,.int n,[]⟩ H rfl rfl K8
 cases hx:x.d with
 |lst ds=>
  obtain⟨l,xs,bs,e,q,r,_⟩:=items ok (.inl hx);refine .inl ⟨l,xs,by rw[e],?_,by rw[<-r.len];exact fin ds.length (by rw[hx];rfl)⟩;rcases q with⟨_,z⟩|⟨_,z⟩
  ·exact .inl (zK z)
  ·exact .inr z
 |tup ds=>
  obtain⟨l,xs,bs,e,q,r,_⟩:=items ok (.inr hx);refine .inl ⟨l,xs,by rw[e],?_,by rw[<-r.len];exact fin ds.length (by rw[hx];rfl)⟩;rcases q with⟨_,z⟩|⟨_,z⟩
  ·exact .inl (zK z)
  ·exact .inr z
 |str z=>
  obtain⟨e,hz⟩:=zV ok hx;exact .inr (.inl ⟨z,by rw[e],hz,fin z.length (by rw[hx];rfl)⟩)
 |_=>rw[show(x.o,x.d).2=x.d from rfl,hx]at hf;cases hf
noncomputable def qwj(K:PySem.W.Frag):List V->Hp->VK->Prop:=λxs H Q=>wko K xs H Q\/(∃p ys U,xs=[.ref p,.ty U]/\SqT K H p ys/\U∈kinds.tail/\Q (.bl (WX "tuple" U)) H)\/∃p ys U,xs=[.ref p,.ty U]/\SqL K H p ys/\U∈kinds.tail/\Q (.bl (WX "list" U)) H
theorem kwb(hK:autoParam (X.K=K) Ŕ):CallR X (.builtin "isinstance") (qwj K):=by
 subst hK;intro pins s σ H xs us Q I r h;rcases h with h|⟨p,ys,U,rfl,hq,hU,q⟩|⟨p,ys,U,rfl,hq,hU,q⟩
 ·exact qxh pins s σ H xs us Q I r h
 ·obtain⟨u,w',rfl,r1,r2⟩:=qw8 r;cases(show w'=Value.type U from r2);cases r1;obtain⟨aa,_,⟨o,h1,h2,_⟩,_⟩:=I.tuple hq;exact Y5 PySem.W.kitx_tuple I.kIn ⟨o,h1,h2⟩ (kqo (T:="tuple") (by decide) hU) (λz=>nomatch z) λtk=>⟨.bl _,H,I.tok _,rfl,q⟩
 ·obtain⟨u,w',rfl,r1,r2⟩:=qw8 r;cases(show w'=Value.type U from r2);cases r1;obtain⟨aa,_,⟨o,n,h1,h2,_⟩,_⟩:=I.list hq;exact Y5 PySem.W.kitx_list I.kIn ⟨o,h1,h2⟩ (kqo (T:="list") (by decide) hU) (λz=>nomatch z) λtk=>⟨.bl _,H,I.tok _,rfl,q⟩
theorem qzg{U:String}(hU:U∈kinds.tail):Ad1 K (λv H Q=>qwj K [v,.ty U] H Q) (pu1 (k8 U)):=by
 intro H x s Q ok hf k;unfold pu1 k8 at hf;have fin:∀(T:String),kind x.d=T->(∀c f,x.d≠.obj c f)->Q (.bl (WX T U)) H:=λT e ho=>by
  cases hx:x.d with
  |obj c f=>exact absurd hx (ho c f)
  |dct ak=>rw[show(x.o,x.d).2=x.d from rfl,hx]at hf;cases hf
  |_=>
   rw[show(x.o,x.d).2=x.d from rfl,hx]at hf;cases oq9 hf;rw[<-e,hx];exact k ⟨.dp,.bl _,.bl _,[]⟩ H rfl rfl Jk
 cases hx:x.d with
 |non=>exact .inl ⟨x.v,"NoneType",U,rfl,by rw[qxv ok hx];exact .non,by decide,hU,fin _ (by rw[hx];rfl) (by rw[hx];exact λ_ _ z=>nomatch z)⟩
 |bl k=>exact .inl ⟨x.v,"bool",U,rfl,by rw[QK ok hx];exact .bl _,by decide,hU,fin _ (by rw[hx];rfl) (by rw[hx];exact λ_ _ z=>nomatch z)⟩
 |int k=>exact .inl ⟨x.v,"int",U,rfl,by rw[qz ok hx];exact .int _,by decide,hU,fin _ (by rw[hx];rfl) (by rw[hx];exact λ_ _ z=>nomatch z)⟩
 |str k=>exact .inl ⟨x.v,"str",U,rfl,by rw[(zV ok hx).1];exact .str _,by decide,hU,fin _ (by rw[hx];rfl) (by rw[hx];exact λ_ _ z=>nomatch z)⟩
 |lst ds=>
  obtain⟨l,xs,bs,e,q,r,_⟩:=items ok (.inl hx);have f:=fin "list" (by rw[hx];rfl) (by rw[hx];exact λ_ _ z=>nomatch z);rcases q with⟨_,z⟩|⟨z,_⟩
  ·exact .inr (.inr ⟨l,xs,U,by rw[e],z.sq,hU,f⟩)
  ·rw[hx]at z;cases z
 |tup ds=>
  obtain⟨l,xs,bs,e,q,r,_⟩:=items ok (.inr hx);have f:=fin "tuple" (by rw[hx];rfl) (by rw[hx];exact λ_ _ z=>nomatch z);rcases q with⟨z,_⟩|⟨_,z⟩
  ·rw[hx]at z;cases z
  ·exact .inr (.inl ⟨l,xs,U,by rw[e],z,hU,f⟩)
 |dct ak=>
  rw[show(x.o,x.d).2=x.d from rfl,hx]at hf;cases hf
 |obj c f=>
  rw[show(x.o,x.d).2=x.d from rfl,hx]at hf;cases hf
theorem QX{U:String}{y:Str}{p2:Pos}(ha:QV X Z q a ea)(hm:X.mg "isinstance"=none)(hmy:X.mg y=none)(hy:bootBuiltins y=some (.type U))(hK:X.K=Z.K)(hU:autoParam (U∈kinds.tail) ŕ)(hg:autoParam (Gl X "isinstance") Ŕ)(hgy:autoParam (Gl X y) Ŕ)(hny:autoParam (y≠"__name__") ŕ)(nk:autoParam ((y==("__debug__":Str))=false) ŕ)
  (he:autoParam (starEach [ea,.Name y p2] X.env=(false,eval ea X.env)::starEach [.Name y p2] X.env) Ŕ) (he2:autoParam (starEach [.Name y p2] X.env=(false,eval (.Name y p2) X.env)::starEach [] X.env) Ŕ) (bn:autoParam ((backTo pos (starEach [.Name y p2] X.env)).any (·.1)=false) Ŕ):
  QE X Z q (cF1 (pu1 (k8 U)) a) (.Call (.Name "isinstance" p) [ea,.Name y p2] [] pos):=
 qV (kqe (kwb hK) hg hm jz3 (wj ha (wj (qky (v:=.ty U) hgy hmy hy rfl hny nk) xj he2) he) (by decide) (by decide) he bn) fun σ H Q h=>Qq (r:=λv H Q=>qwj Z.K [v,.ty U] H Q) (qzg hU) h
theorem Ww:Ad1 K (λv H Q=>qkh [v] H Q) (pu1 xJ):=by
 intro H x s Q ok hf k;unfold pu1 xJ at hf;dsimp only at hf
 split at hf
 ·rename_i i e;cases oq9 hf;exact .inl ⟨i,by rw[qz ok e],k ⟨.dp,.int _,.int _,[]⟩ H rfl rfl K8⟩
 ·rename_i i e;cases oq9 hf;exact .inr (.inl ⟨i,by rw[QK ok e],k ⟨.dp,.int _,.int _,[]⟩ H rfl rfl K8⟩)
 ·rename_i z e
  split at hf
  ·rename_i hz;cases ht:PySem.intText? z with
   |none=>rw[ht]at hf;cases hf
   |some n=>
    rw[ht]at hf;cases oq9 hf;exact .inr (.inr ⟨z,n,by rw[(zV ok e).1],ht,hz,k ⟨.dp,.int _,.int _,[]⟩ H rfl rfl K8⟩)
  ·cases hf
 ·cases hf
theorem kqz:Ad1 K (λv H Q=>qkf K [v] H Q) K4:=by
 intro H x s Q ok hf k;unfold K4 at hf;dsimp only at hf
 split at hf
 ·rename_i ds e
  split at hf
  ·rename_i hl;cases oq9 hf;obtain⟨l,xs,bs,ev,q3,r3,h3⟩:=J5 ok (.inl e) hl;have q3:LsR K H l xs:=by rcases q3 with⟨_,z⟩|⟨z,_⟩;exact z;rw[e]at z;cases z
   exact⟨l,xs,by rw[ev],.inl (zK q3),λp hp=>k ⟨.rt,.lst ds,.ref p,p::bs⟩ _ rfl rfl (JK hp r3 h3)⟩
  ·cases hf
 ·rename_i ds e
  split at hf
  ·rename_i hl;cases oq9 hf;obtain⟨l,xs,bs,ev,q3,r3,h3⟩:=J5 ok (.inr e) hl;have q3:SqT K H l xs:=by rcases q3 with⟨z,_⟩|⟨_,z⟩;rw[e]at z;cases z;exact z
   exact⟨l,xs,by rw[ev],.inr q3,λp hp=>k ⟨.rt,.lst ds,.ref p,p::bs⟩ _ rfl rfl (JK hp r3 h3)⟩
  ·cases hf
 ·cases hf
noncomputable def kxy(K:PySem.W.Frag):List V->Hp->VK->Prop:=λxs H Q=>∃p ys,xs=[.ref p]/\((SqL K H p ys/\∀l,H l=none->Q (.ref l) (upd H l (.tup ys)))\/(SqT K H p ys/\Q (.ref p) H))
theorem qvr(hK:X.K=K):CallR X (.type "tuple") (kxy K):=by subst hK;exact kqv
theorem qxk:Ad1 K (λv H Q=>kxy K [v] H Q) J7:=by
 intro H x s Q ok hf k;unfold J7 at hf;dsimp only at hf
 split at hf
 ·rename_i ds e
  split at hf
  ·rename_i hl;cases oq9 hf;obtain⟨l,xs,bs,ev,q3,r3,h3⟩:=J5 ok (.inl e) hl;have q3:LsR K H l xs:=by rcases q3 with⟨_,z⟩|⟨z,_⟩;exact z;rw[e]at z;cases z
   exact⟨l,xs,by rw[ev],.inl ⟨zK q3,λp hp=>k ⟨.no,.tup ds,.ref p,bs⟩ _ rfl rfl (YW hp r3 h3)⟩⟩
  ·cases hf
 ·rename_i ds e
  split at hf
  ·rename_i hl;cases oq9 hf;obtain⟨l,xs,bs,ev,q3,r3,h3⟩:=J5 ok (.inr e) hl;have q3:SqT K H l xs:=by rcases q3 with⟨z,_⟩|⟨_,z⟩;rw[e]at z;cases z;exact z
   refine⟨l,xs,by rw[ev],.inr ⟨q3,k ⟨.no,.tup ds,.ref l,bs⟩ H rfl rfl ⟨z6,?_,λb hb=>(nomatch hb),Y1,λb hb=>h3 b hb⟩⟩⟩;show RepL K H true (.tup ds) (.ref l) bs;unfold RepL;exact⟨l,xs,rfl,q3,r3⟩
  ·cases hf
 ·cases hf
theorem qvu{g:Bool}:∀{ds:List D} {bs:List Bool} {xs:List V} {as:List Addr},bls ds=some bs->RepA K H g ds xs as->xs=bs.map V.bl
 | [],bs,xs,as,h,r=>by
  cases oq9 h;unfold RepA at r;exact r.1
 | d::ds,bs,xs,as,h,r=>by
  cases d with
  | bl b=>
   unfold bls at h;cases hb:bls ds with
   |none=>rw[hb]at h;cases h
   |some f8=>
    rw[hb]at h;cases oq9 h;unfold RepA at r;obtain⟨x,rr,c1,c2,rfl,rfl,h1,h2⟩:=r;unfold RepL at h1;rw[h1.1,qvu hb h2];rfl
  |_=>unfold bls at h;cases h
theorem QZ:Ad1 K (λv H Q=>vzn K [v] H Q) (pu1 J8):=by
 intro H x s Q ok hf k;unfold pu1 J8 at hf;dsimp only at hf
 split at hf
 ·rename_i ds e;cases hb:bls ds with
  |none=>rw[hb]at hf;cases hf
  |some bs=>
   rw[hb]at hf;cases oq9 hf;obtain⟨l,xs,cs,ev,q3,r3,_⟩:=items ok (.inl e);have q3:LsR K H l xs:=by rcases q3 with⟨_,z⟩|⟨z,_⟩;exact z;rw[e]at z;cases z
   exact⟨l,bs,by rw[ev],by rw[<-qvu hb r3];exact zK q3,k ⟨.dp,.bl _,.bl _,[]⟩ H rfl rfl Jk⟩
 ·cases hf
theorem K9{g:Int->Int->Bool}:∀x y s,pu2 (c2 g) x y=some s->∃k,s.2=.bl k:=by
 intro x y s h;unfold pu2 c2 at h
 split at h
 ·cases oq9 h;exact⟨_,rfl⟩
 ·cases h
theorem wjx:∀x y s,pu2 fEq x y=some s->∃k,s.2=.bl k:=by
 intro x y s h;unfold pu2 fEq at h
 split at h
 ·cases oq9 h;exact⟨_,rfl⟩
 ·cases h
theorem vxe:∀x y s,f2First fIsNon x y=some s->∃k,s.2=.bl k:=by
 intro x y s h;unfold f2First fIsNon at h
 split at h
 ·cases oq9 h;exact⟨_,rfl⟩
 ·cases h
theorem kxi:∀{xs:List V} {us:List Value},xs.length=us.length->(∀(i:Nat) (x:V) (u:Value),xs[i]?=some x->us[i]?=some u->RelV x u)->Vals xs us
 |[],[],_,_=>.nil
 |[],_::_,h,_=>by simp at h
 |_::_,[],h,_=>by simp at h
 |x::xs,u::us,h,f=>.cons (f 0 x u (by simp) (by simp)) (kxi (by simpa using h) λi x u e1 e2=>f (i+1) x u (by simpa using e1) (by simpa using e2))
theorem vzs{p2 ca:Pos}(ha:QV X Z q a ea)(hmr:X.mg "range"=none)(hml:X.mg "list"=none)(hc:autoParam (X.calm=true) Ŕ)(hgr:autoParam (Gl X "range") Ŕ)(hgl:autoParam (Gl X "list") Ŕ)
  (bo:autoParam (starEach [ea] X.env=(false,eval ea X.env)::starEach [] X.env) Ŕ) (bn:autoParam ((backTo ca (starEach [] X.env)).any (·.1)=false) Ŕ)
  (px:autoParam (starEach [.Call (.Name "range" p2) [ea] [] ca] X.env=(false,eval (.Call (.Name "range" p2) [ea] [] ca) X.env)::starEach [] X.env) Ŕ) (hpl2:autoParam ((backTo pos (starEach [] X.env)).any (·.1)=false) Ŕ):
  QE X Z q (W7 a) (.Call (.Name "list" p) [.Call (.Name "range" p2) [ea] [] ca] [] pos):=by
 have hr:PE X (.Call (.Name "range" p2) [ea] [] ca) (fun σ H Q=>tV Z q a σ H λv H1=>∃j:Int,v=.int j/\∀pp,H1 pp=none->Q (.ref pp) (upd H1 pp (.rng 0 j))):=by
  intro pins s σ H Q I h;refine Call_ (Jq I hgr hmr boot_range (Y8 (thn (wj ha xj bo ca pins s σ H (λvs H1=>∃j:Int,vs=[.int j]/\∀pp,H1 pp=none->Q (.ref pp) (upd H1 pp (.rng 0 j))) I ?_) λus s1 ⟨vs,H1,I1,r1,j,e,q1⟩=>?_) bo bn))
  ·obtain⟨E,L,r,m,w,i4,xc,k⟩:=h;exact⟨E,L,r,m,w,i4,xc,λE' s' z x L' H' e1 e2 m' w' ok fr sr st sm=>by
    obtain⟨j,ej,qj⟩:=k E' s' z x L' H' e1 e2 m' w' ok fr sr st sm;exact⟨j,by rw[ej],qj⟩⟩
  ·subst e;obtain⟨u,rfl,t,rfl⟩:=r1.one;refine call_range_1 ⟨.ref s1.heap.objs.size,_,I1.laid (o:=.rng 0 j) (λb o e=>X2 _ e) (Xd _) ⟨_,_,_,X9 _ rfl⟩,rfl,q1 _ I1.fresh⟩
 intro pins s σ H Q I ⟨E,L,r,m,w,i4,xc,k⟩;refine Yl (Jq I hgl hml Q8 ?_);refine Y8 (thn (wj hr xj px pos pins s σ H (λvs H1=>∃pp j,vs=[.ref pp]/\H1 pp=some (.rng 0 j)/\v7 j=true/\j.toNat<=big/\∀l,H1 l=none->Q (.ref l) (upd H1 l (.lst ((List.range j.toNat).map λ(i:Nat)=>V.int (0+(i:Int)))))) I ?_) λus s1 ⟨vs,H1,I1,r1,pp,j,e,hp,h62,gw,q1⟩=>?_) px hpl2
 ·refine vZ m w (show bnd (a E) _=some r from i4) xc λE1 s h1 x L1 H1 e1 e2 m1 w1 ok fr sr st sm=>?_
  cases hx:s.2 with
  | int j=>
   rw [hx]at h1;dsimp only at h1
   split at h1
   ·rename_i hj;cases oq9 h1;refine⟨j,qz ok (e2.trans hx),λpp hpp=>⟨pp,j,rfl,xq,hj.1,hj.2,λl hl=>?_⟩⟩;have s1:kj H1 (upd H1 pp (.rng 0 j)):=z7 hpp;have w2:World Z.K (upd H1 pp (.rng 0 j)) L1:=⟨λx hx=>RepO.kp (w1.ok x hx) (Kp.of_same s1),w1.nd,w1.ds⟩;have bm:Step H L (upd H1 pp (.rng 0 j)) L1:=st.trans ⟨λb ob z _=>s1 b ob z,λb z=>.inl z,λb z=>.inl z⟩;have ra:∀(n:Nat) (ns:List Nat) (Hx:Hp),RepA Z.K Hx true (ns.map λ(i:Nat)=>D.int (0+(i:Int))) (ns.map λ(i:Nat)=>V.int (0+(i:Int))) []:=by
     intro n ns Hx
     induction ns with
     |nil=>unfold RepA;exact⟨rfl,rfl⟩
     |cons i ns ih=>
      rw[List.map_cons,List.map_cons];unfold RepA;exact⟨_,_,[],[],rfl,rfl,K6,ih⟩
    have o:=JK (K:=Z.K) (H:=upd H1 pp (.rng 0 j)) (fr:=[]) hl (ra 0 (List.range j.toNat) (upd H1 pp (.rng 0 j))) (λ_ z=>(nomatch z));obtain⟨w3,d3⟩:=KJ w2 bm o (λ_ z=>(nomatch z)) (λ_ z=>(nomatch z)) (λ_ z=>(nomatch z));refine k _ _ rfl ⟨.rt,.lst (k9 0 j),.ref l,[l]⟩ L1 _ rfl rfl m1 (by simpa [k9]using w3) (by simpa [k9]using d3) λhq=>⟨qk (sm hq) (qk s1 o.same),λb hb=>?_⟩
    have:b=l:=by simpa [Sl.own]using hb
    subst this;exact zj (qk (sm hq) s1) hl
   ·cases h1
  | _=>rw[hx]at h1;cases h1
 ·subst e;obtain⟨u,rfl,rx⟩:=r1.one;cases rx;obtain⟨t1,t2,t3,hg⟩:=(show ObjOk X.prog X.w H1 s1.heap pp (.rng 0 j)from I1.hok pp _ hp);obtain⟨j1,j2⟩:=Zj h62;have e2:Builtin.Range.rangeSize 0 j 1=((j.toNat:Nat):Int):=by rw[rangeSize_one];split<;>lia
  refine call_list_range (n:=j.toNat) (I1.ok.hd hc) (show IsRange s1.heap pp 0 j 1 t1 t2 t3 from hg) (small_one (by lia) (by lia) j1 j2) e2 gw λh' tk dk c' kp e4 gu=>?_
  obtain⟨hs,ko⟩:=gu;have hv:Vals ((List.range j.toNat).map λ(i:Nat)=>V.int (0+(i:Int))) dk.toList:=kxi (by simp[hs]) λi x u ex eu=>by
   rw[Yi]at eu;obtain⟨t,rfl⟩:=ko i u eu;rw[Xu]at ex;cases hr:(List.range j.toNat)[i]? with
   | none=>rw[hr]at ex;cases ex
   | some m=>
    rw[hr]at ex;have hm:m=i:=by
     obtain⟨_,h2⟩:=List.getElem?_eq_some_iff.mp hr
     simpa using h2.symm
    subst hm;cases oq9 ex;exact⟨t,by rw[Int.mul_one]⟩
  refine⟨.ref s1.heap.objs.size,_,I1.laid (a:=s1.heap.objs.size) (o:=.lst ((List.range j.toNat).map λ(i:Nat)=>V.int (0+(i:Int)))) (t':=tk) kp (Xd _) ⟨by rw[X5,Yu];exact gw,dk.toList,c',hv,by simpa using e4⟩,rfl,q1 _ I1.fresh⟩
end
end Q
namespace Q
open PySem
def zw(n d:Nat):Option Int->Nat
 |none=>d
 |some v=>if v<0 then(v+(n:Int)).toNat else min v.toNat n
noncomputable def zZ(xs:List D)(lo hi:Option Int):List D:=(xs.drop (zw xs.length 0 lo)).take (zw xs.length xs.length hi - zw xs.length 0 lo)
noncomputable def fSl:Sd->Option Int->Option Int->Option Sd:=λx lo hi=>match x.2 with
 |.lst xs=>if qW x then some (.rt,.lst (zZ xs lo hi))else none
 |.tup xs=>if qW x/\¬(zw xs.length 0 lo=0/\zw xs.length xs.length hi=xs.length)then some (.no,.tup (zZ xs lo hi))else none
 |.str z=>if(Txt.slice z lo hi).length<=big then some (.dp,.str (Txt.slice z lo hi))else none
 |_=>none
noncomputable def V6:Option Ex->Ev (Option Int)
 |none,E=>some (.ok E none)
 |some c,E=>bnd (c E) λE x=>match x.2 with
  |.int i=>some (.ok E (some i))
  |_=>none
noncomputable def cSl(a:Ex)(lo hi:Option Ex):Ex:=λE=>bnd (a E) λE x=>bnd (V6 lo E) λE l=>bnd (V6 hi E) λE h=>val E (fSl x l h)
def vx4:Nat->List D->List D
 |_,[]=>[]
 |k,d::ds=>.tup [.int k,d]::vx4 (k+1) ds
def lstOf:D->Option (List D)
 |.lst xs=>some xs
 |_=>none
def x9:List D->Option (List Str)
 |[]=>some []
 |.str z::ds=>(x9 ds).map (z :: ·)
 |_=>none
def J9:List D->Option (List Int)
 |[]=>some []
 |.int z::ds=>(J9 ds).map (z :: ·)
 |_=>none
noncomputable def Kz(a:Str):List Str->List Str
 |[]=>[a]
 |b::r=>if Spec.ltCps b.cps.toList a.cps.toList then b::Kz a r else a::b::r
def kX:List Str->List Str
 |[]=>[]
 |a::r=>Kz a (kX r)
def Kj(a:Int):List Int->List Int
 |[]=>[a]
 |b::r=>if b<a then b::Kj a r else a::b::r
def V5:List Int->List Int
 |[]=>[]
 |a::r=>Kj a (V5 r)
noncomputable def kjr:Sd->Option Sd:=λx=>match x.2 with
 | .lst ds=>(match x9 ds with
  |some ss=>if ss.length<64 then some (.rt,.lst ((kX ss).map .str))else none
  |none=>(match J9 ds with
   |some is=>if is.length<64 then some (.rt,.lst ((V5 is).map .int))else none
   |none=>none))
 |_=>none
def isSq:D->Bool
 |.lst _=>true
 |.tup _=>true
 |_=>false
noncomputable def Wx(i:Nat)(c:Ex):Ex:=λE=>if Jj E[i]? then bnd (c E) λE x=>match E[i]?,x.2 with
 | some (some (o,.lst xs)),.int k=>if o=.no then none else(match ixN xs.length k with
  |some j=>(match xs[j]? with
   |some d=>if d.pure&&v7 k then some (.ok (E.set i (some (o,.lst (xs.eraseIdx j)))) (.dp,d))else none
   |none=>none)
  |none=>none)
 |_,_=>none
 else none
noncomputable def qw:Sd->Sd->Option Sd:=λx y=>match x.2,y.2 with
 |.tup a,.int k=>if -(2 ^ 63)<=k/\k<2 ^ 63/\a.length*k.toNat<=big/\qW x then some (.no,.tup (List.replicate k.toNat a).flatten)else none
 |_,_=>xk x y
noncomputable def JW(f g:D->D->Option D)(a b c:Ex):Ex:=λE=>bnd (a E) λE x=>bnd (b E) λE y=>match f x.2 y.2 with
 |some (.bl true)=>bnd (c E) λE z=>val E ((g y.2 z.2).map λd=>(.dp,d))
 |some (.bl false)=>some (.ok E (.dp,.bl false))
 |_=>none
def vkf:Ex:=λE=>some (.ok E (.rt,.dct []))
end Q
namespace Q
open PySem
noncomputable def vxu(i:Nat)(kc vc:Ex):Sm:=λE=>ofE (vc E) λE v=>if Jj E[i]?=true then ofE (kc E) λE k=>match E[i]?,k.2 with
 |some (some (o,.lst xs)),.int j=>if o=.no then none else(match ixN xs.length j with
  |some n=>some (.nx (E.set i (some (.rt,.lst (xs.set n v.2)))))
  |none=>none)
 |_,_=>none
 else none
def valI(kv:List (Int×Int))(k:Int):Option Int:=(kv.find? λp=>decide (p.1=k)).map (·.2)
noncomputable def putI(kv:List (Int×Int))(k v:Int):List (Int×Int):=if(kv.any λp=>decide (p.1=k))=true then kv.map (λp=>if p.1=k then(p.1,v)else p)else kv++[(k,v)]
noncomputable def wjj(z:Str):D->Option D:=λd=>match d with
 |.lst ds=>(match x9 ds with
  |some ys=>if(ys.map (·.length)).sum+ys.length*z.length<=100000 then some (.str (Txt.join z ys))else none
  |none=>none)
 |_=>none
def wjv(z:Str)(c:Ex):Ex:=λE=>bnd (c E) λE x=>val E ((wjj z x.2).map λd=>(.dp,d))
end Q
namespace Q
open PySem
def XV(x:Sd):Bool:=vk x||(x.1 == .rt&&(match x.2 with
 |.lst ds=>D.pures ds
 |_=>false))
end Q
namespace Q
open PySem
noncomputable def D.at:List Nat->D->Option D
 |[],d=>some d
 |n::p,.tup ds=>match ds[n]? with
  |some d=>D.at p d
  |none=>none
 |n::p,.lst ds=>match ds[n]? with
  |some d=>D.at p d
  |none=>none
 |_::_,_=>none
noncomputable def D.put(d':D):List Nat->D->D
 |[],_=>d'
 |n::p,.tup ds=>match ds[n]? with
  |some d=>.tup (ds.set n (D.put d' p d))
  |none=>.tup ds
 |n::p,.lst ds=>match ds[n]? with
  |some d=>.lst (ds.set n (D.put d' p d))
  |none=>.lst ds
 |_::_,d=>d
def VW(c:Ex):Ex:=λE=>bnd (c E) λE x=>if XV x=true then some (.ok E (.dp,x.2))else none
end Q
namespace Q
open PySem PySem.Spec PyProof.Rows L2 L3
section
variable {X:Cx}{Z:Fx0}{K:PySem.W.Frag}{pn:List Nat}{q qa qb:Bool}{a b c:Ex}{u:Ts}{tg e ea eb:Expr}{st:Stmt}{σ:L2.St}{H:Hp}{L:Ls}{E:En}{pos p p2:Pos}{x:Str}
theorem kjm(a:Str):∀r,(Kz a r).Perm (a::r)
 |[]=>List.Perm.refl _
 |b::r=>by
  unfold Kz
  split
  ·exact((kjm a r).cons b).trans (List.Perm.swap ..)
  ·exact List.Perm.refl _
theorem zx:∀r,(kX r).Perm r
 |[]=>List.Perm.refl _
 |a::r=>(kjm a _).trans ((zx r).cons a)
def leS(a b:Str):Prop:=Spec.ltCps b.cps.toList a.cps.toList=false
theorem leS_iff{a b:Str}:leS a b↔a.cps.toList<=b.cps.toList:=by
 unfold leS;rw[ltCps_eq,decide_eq_false_iff_not,List.not_lt]
theorem kw1{a b c:Str}(h:leS a b)(h':leS b c):leS a c:=leS_iff.mpr (List.le_trans (leS_iff.mp h) (leS_iff.mp h'))
theorem kqn{a b:Str}(h:leS a b)(h':leS b a):a=b:=by
 have:=List.le_antisymm (leS_iff.mp h) (leS_iff.mp h');cases a;cases b;simp only at this
 congr 1
 exact Array.toList_inj.mp this
theorem qqg{a b:Str}(h:¬leS a b):leS b a:=by
 rw[leS_iff]at h ⊢;exact List.le_of_lt (List.not_le.mp h)
theorem kvf:∀{a:Str} {r:List Str},risingS a r=true->(a::r).Pairwise leS
 |a,[],_=>by simp
 |a,b::r,h=>by
  have h:(!(Spec.ltCps b.cps.toList a.cps.toList)&&risingS b r)=true:=h;rw[Bool.and_eq_true,Bool.not_eq_true']at h;have ih:=kvf h.2;refine List.pairwise_cons.mpr ⟨λc hc=>?_,ih⟩;rcases List.mem_cons.mp hc with rfl|hc
  ·exact h.1
  ·exact kw1 h.1 ((List.pairwise_cons.mp ih).1 c hc)
theorem qk3{r:List Str}(h:sortedS r=true):r.Pairwise leS:=by
 cases r with
 |nil=>exact .nil
 |cons a r=>exact kvf h
theorem qqt{a:Str}:∀{r:List Str},r.Pairwise leS->(Kz a r).Pairwise leS
 | [],_=>by simp[Kz]
 | b::r,h=>by
  rw[List.pairwise_cons]at h;unfold Kz
  by_cases hl:Spec.ltCps b.cps.toList a.cps.toList=true
  ·rw[Xf hl];refine List.pairwise_cons.mpr ⟨λc hc=>?_,qqt h.2⟩;rcases List.mem_cons.mp ((kjm a r).mem_iff.mp hc)with rfl|hc
   ·exact qqg (by unfold leS;rw[hl];exact λz=>nomatch z)
   ·exact h.1 c hc
  ·rw[Xj hl];have jo:leS a b:=by unfold leS;exact Bool.eq_false_iff.mpr hl
   refine List.pairwise_cons.mpr ⟨λc hc=>?_,List.pairwise_cons.mpr h⟩;rcases List.mem_cons.mp hc with rfl|hc
   ·exact jo
   ·exact kw1 jo (h.1 c hc)
theorem WJ:∀{r:List Str},(kX r).Pairwise leS
 |[]=>.nil
 |a::r=>qqt WJ
theorem kxm{r s:List Str}(p:s.Perm r)(h:sortedS s=true):s=kX r:=
 List.Perm.eq_of_pairwise (λa b _ _ h1 h2=>kqn h1 h2) (qk3 h) WJ (p.trans (zx r).symm)
theorem kjn(a:Int):∀r,(Kj a r).Perm (a::r)
 |[]=>List.Perm.refl _
 |b::r=>by
  unfold Kj
  split
  ·exact((kjn a r).cons b).trans (List.Perm.swap ..)
  ·exact List.Perm.refl _
theorem jz7:∀r,(V5 r).Perm r
 |[]=>List.Perm.refl _
 |a::r=>(kjn a _).trans ((jz7 r).cons a)
theorem qqu{a:Int}:∀{r:List Int},r.Pairwise (·<=·)->(Kj a r).Pairwise (·<=·)
 | [],_=>by simp[Kj]
 | b::r,h=>by
  rw[List.pairwise_cons]at h;unfold Kj
  by_cases hl:b<a
  ·rw[Xf hl];refine List.pairwise_cons.mpr ⟨λc hc=>?_,qqu h.2⟩;rcases List.mem_cons.mp ((kjn a r).mem_iff.mp hc)with rfl|hc
   ·exact Int.le_of_lt hl
   ·exact h.1 c hc
  ·rw[Xj hl];refine List.pairwise_cons.mpr ⟨λc hc=>?_,List.pairwise_cons.mpr h⟩;rcases List.mem_cons.mp hc with rfl|hc
   ·lia
   ·have:=h.1 c hc;lia
theorem kxn:∀{r:List Int},(V5 r).Pairwise (·<=·)
 |[]=>.nil
 |a::r=>qqu kxn
theorem qwd{r s:List Int}(p:s.Perm r)(h:s.Pairwise (·<=·)):s=V5 r:=
 List.Perm.eq_of_pairwise (λa b _ _ h1 h2=>Int.le_antisymm h1 h2) h kxn (p.trans (jz7 r).symm)
theorem kkk{ns:List Str}:∀{us:List Value},Vals (ns.map V.str) us->StrsAre us ns:=by
 induction ns with
 | nil=>intro us r;rw[List.map_nil]at r;cases r;exact .nil
 | cons n ns ih=>
  intro us r;rw[List.map_cons]at r;cases r with
  |cons r1 r2=>
   obtain⟨t,e⟩:=r1;subst e;exact .cons n t (ih r2)
theorem kv6{us:List Value}{ns:List Str}(h:StrsAre us ns):Vals (ns.map V.str) us:=by
 induction h with
 |nil=>exact .nil
 |cons y t _ ih=>exact .cons ⟨t,rfl⟩ ih
theorem kv7{us:List Value}{ns:List Int}(h:IntsAre us ns):Vals (ns.map V.int) us:=by
 induction h with
 |nil=>exact .nil
 |cons y t _ ih=>exact .cons ⟨t,rfl⟩ ih
noncomputable def qke(K:PySem.W.Frag):List V->Hp->VK->Prop:=λxs H Q=>
 (∃p ss,xs=[.ref p]/\SqL K H p (ss.map V.str)/\ss.length<64/\∀l,H l=none->Q (.ref l) (upd H l (.lst ((kX ss).map V.str)))) \/
 ∃p ss,xs=[.ref p]/\SqL K H p (ss.map V.int)/\ss.length<64/\∀l,H l=none->Q (.ref l) (upd H l (.lst ((V5 ss).map V.int)))
theorem kxa(hK:X.K=K):CallR X (.builtin "sorted") (qke K):=by
 subst hK;intro pins s σ H xs us Q I r h;rcases h with⟨p,ss,rfl,hq,hl,q⟩|⟨p,ss,rfl,hq,hl,q⟩
 ·obtain⟨u,rfl,rx⟩:=xx r;cases rx;obtain⟨aa,r',pl,hz⟩:=I.list hq;have aj:=r'.length;rw[X5]at aj hz;refine sorted_strs (vs:=aa) pl.isList (kkk r') (by lia) λout ss' h1 h2 h3=>?_
  have e:=kxm h2 h3;subst e;obtain⟨n,hn⟩:=sortedAll_at s.heap aa out;have gm:s.heap.objs.size<=s.heap.objs.size+1:=Nat.le_succ _;refine⟨.ref (s.heap.objs.size+1),_,I.laid (t':=s.toks) (o:=.lst ((kX ss).map V.str)) (λb o e=>sortedAll_old e) gm ?_,rfl,q _ (I.hok.fresh gm)⟩;exact⟨by rw[X5,(zx ss).length_eq];exact hz,out.toList,n,kv6 h1,by simpa using hn⟩
 ·obtain⟨u,rfl,rx⟩:=xx r;cases rx;obtain⟨aa,r',pl,hz⟩:=I.list hq;have aj:=r'.length;rw[X5]at aj hz;refine sorted_ints (vs:=aa) pl.isList (kkt r') (by lia) λout ss' h1 h2 h3=>?_
  have e:=qwd h2 h3;subst e;obtain⟨n,hn⟩:=sortedAll_at s.heap aa out;have gm:s.heap.objs.size<=s.heap.objs.size+1:=Nat.le_succ _;refine⟨.ref (s.heap.objs.size+1),_,I.laid (t':=s.toks) (o:=.lst ((V5 ss).map V.int)) (λb o e=>sortedAll_old e) gm ?_,rfl,q _ (I.hok.fresh gm)⟩;exact⟨by rw[X5,(jz7 ss).length_eq];exact hz,out.toList,n,kv7 h1,by simpa using hn⟩
theorem kj0{g:Bool}:∀{ds:List D} {bs:List Str} {xs:List V} {as:List Addr},x9 ds=some bs->RepA K H g ds xs as->xs=bs.map V.str/\∀z∈bs,z.length<=sizeLine
 | [],bs,xs,as,h,r=>by
  cases oq9 h;unfold RepA at r;exact⟨r.1,λ_ z=>nomatch z⟩
 | d::ds,bs,xs,as,h,r=>by
  cases d with
  | str b=>
   unfold x9 at h;cases hb:x9 ds with
   |none=>rw[hb]at h;cases h
   |some f8=>
    rw[hb]at h;cases oq9 h;unfold RepA at r;obtain⟨x,rr,c1,c2,rfl,rfl,h1,h2⟩:=r;unfold RepL at h1;obtain⟨i1,i2⟩:=kj0 hb h2;exact⟨by rw[h1.1,i1];rfl,λz hz=>(List.mem_cons.mp hz).elim (λe=>e▸h1.2.2) (i2 z)⟩
  |_=>unfold x9 at h;cases h
theorem kqq{g:Bool}:∀{ds:List D} {bs:List Int} {xs:List V} {as:List Addr},J9 ds=some bs->RepA K H g ds xs as->xs=bs.map V.int
 | [],bs,xs,as,h,r=>by
  cases oq9 h;unfold RepA at r;exact r.1
 | d::ds,bs,xs,as,h,r=>by
  cases d with
  | int b=>
   unfold J9 at h;cases hb:J9 ds with
   |none=>rw[hb]at h;cases h
   |some f8=>
    rw[hb]at h;cases oq9 h;unfold RepA at r;obtain⟨x,rr,c1,c2,rfl,rfl,h1,h2⟩:=r;unfold RepL at h1;rw[h1.1,kqq hb h2];rfl
  |_=>unfold J9 at h;cases h
theorem kj1{g:Bool}:∀{bs:List Str},(∀z∈bs,z.length<=sizeLine)->RepA K H g (bs.map D.str) (bs.map V.str) []
 |[],_=>by unfold RepA;exact⟨rfl,rfl⟩
 |b::bs,h=>by
  rw[List.map_cons,List.map_cons];unfold RepA;exact⟨_,_,[],[],rfl,rfl,W6 (h b X3),kj1 λz hz=>h z (lc9 _ hz)⟩
theorem kxw{g:Bool}:∀{bs:List Int},RepA K H g (bs.map D.int) (bs.map V.int) []
 |[]=>by unfold RepA;exact⟨rfl,rfl⟩
 |b::bs=>by
  rw[List.map_cons,List.map_cons];unfold RepA;exact⟨_,_,[],[],rfl,rfl,K6,kxw⟩
theorem qw0:Ad1 K (λv H Q=>qke K [v] H Q) kjr:=by
 intro H x s Q ok hf k;unfold kjr at hf;dsimp only at hf;cases hx:x.d with
 | lst ds=>
  rw [hx]at hf;dsimp only at hf;obtain⟨l,xs,bs,ev,q3,r3,_⟩:=items ok (.inl hx);have q3:LsR K H l xs:=by rcases q3 with⟨_,z⟩|⟨z,_⟩;exact z;rw[hx]at z;cases z
  cases hs:x9 ds with
  | some ss=>
   rw[hs]at hf;dsimp only at hf
   split at hf
   ·rename_i hl;cases oq9 hf;obtain⟨e1,e2⟩:=kj0 hs r3;subst e1;refine .inl ⟨l,ss,by rw[ev],zK q3,hl,λp hp=>?_⟩;exact k ⟨.rt,.lst _,.ref p,p::[]⟩ _ rfl rfl (JK hp (kj1 λz hz=>e2 z ((zx ss).mem_iff.mp hz)) λb hb=>nomatch hb)
   ·cases hf
  | none=>
   rw[hs]at hf;dsimp only at hf;cases hi:J9 ds with
   | none=>rw[hi]at hf;cases hf
   | some ss=>
    rw[hi]at hf;dsimp only at hf
    split at hf
    ·rename_i hl;cases oq9 hf;have e1:=kqq hi r3;subst e1;refine .inr ⟨l,ss,by rw[ev],zK q3,hl,λp hp=>?_⟩;exact k ⟨.rt,.lst _,.ref p,p::[]⟩ _ rfl rfl (JK hp kxw λb hb=>nomatch hb)
    ·cases hf
 |_=>rw[hx]at hf;cases hf
def tPo(Z:Fx0):Option Ex->TO
 |none=>qjx
 |some c=>vq2 (tV Z true c)
theorem zJ:PO X none (tPo Z none):=vja
theorem xw(h:QV X Z true c e):PO X (some e) (tPo Z (some c)):=vj8 h
theorem qkp{α:Type}{co:Option Ex}{F:En->Option Int->Option (Res α)}{r:Res α}{G:Option Int->Hp->Prop}(m:Mt E σ L)(w:World Z.K H L)(h:bnd (V6 co E) F=some r)(xc:Xc Z σ H L r)
  (k:∀E1 l,F E1 l=some r->∀L1 H1,Mt E1 σ L1->World Z.K H1 L1->Step H L H1 L1->kj H H1->G l H1):tPo Z co σ H G:=by
 cases co with
 | none=>exact k E none h L H m w Step.refl z6
 | some c=>
  have h:bnd (bnd (c E) λE x=>match x.2 with|.int i=>some (.ok E (some i))|_=>none) F=some r:=h;have h':bnd (c E) (λE x=>bnd (match x.2 with|.int i=>some (.ok E (some i))|_=>none) F)=some r:=by
   cases hc:c E with
   |none=>rw[hc]at h;exact h
   |some y=>rw[hc]at h;cases y<;>exact h
  show tV Z true c σ H λx H1=>∃i,x=.int i/\G (some i) H1
  refine vZ m w h' xc λE1 s h1 x L1 H1 e1 e2 m1 w1 ok fr sr st sm=>?_
  cases hs:s.2 with
  |int i=>
   rw[hs]at h1;exact⟨i,qz ok (e2.trans hs),k E1 (some i) h1 L1 H1 m1 w1 st (sm rfl)⟩
  |_=>rw[hs]at h1;cases h1
theorem kxt(n d:Nat)(v:Option Int):HT.sIx n d v=zw n d v:=by
 cases v<;>rfl
theorem RepA.drop{K:PySem.W.Frag}{H:Hp}{g:Bool}:∀(n:Nat) {ds:List D} {xs:List V} {as:List Addr},RepA K H g ds xs as->∃bs,RepA K H g (ds.drop n) (xs.drop n) bs/\∀b∈bs,b∈as
 |0,ds,xs,as,h=>⟨as,h,λ_ h=>h⟩
 |n+1,[],xs,as,h=>by
  unfold RepA at h;obtain⟨rfl,rfl⟩:=h;exact⟨[],by simp only[List.drop_nil];unfold RepA;exact⟨rfl,rfl⟩,λ_ h=>h⟩
 |n+1,d::ds,xs,as,h=>by
  unfold RepA at h;obtain⟨x,r,bs,cs,rfl,rfl,h1,h2⟩:=h;obtain⟨es,r2,hb⟩:=RepA.drop n h2;exact⟨es,r2,λb h=>lr9 _ (hb b h)⟩
theorem RepA.take{K:PySem.W.Frag}{H:Hp}{g:Bool}:∀(n:Nat) {ds:List D} {xs:List V} {as:List Addr},RepA K H g ds xs as->∃bs,RepA K H g (ds.take n) (xs.take n) bs/\∀b∈bs,b∈as
 |0,ds,xs,as,h=>⟨[],by simp only[List.take_zero];unfold RepA;exact⟨rfl,rfl⟩,λ_ h=>nomatch h⟩
 |n+1,[],xs,as,h=>by
  unfold RepA at h;obtain⟨rfl,rfl⟩:=h;exact⟨[],by simp only[List.take_nil];unfold RepA;exact⟨rfl,rfl⟩,λ_ h=>h⟩
 |n+1,d::ds,xs,as,h=>by
  unfold RepA at h;obtain⟨x,r,bs,cs,rfl,rfl,h1,h2⟩:=h;obtain⟨es,r2,hb⟩:=RepA.take n h2;refine⟨bs++es,?_,λb h=>(List.mem_append.mp h).elim (λz=>ll9 _ z) λz=>lr9 _ (hb b z)⟩;rw[List.take_succ_cons,List.take_succ_cons];unfold RepA;exact⟨x,r.take n,bs,es,rfl,rfl,h1,r2⟩
theorem RepA.cut{K:PySem.W.Frag}{H:Hp}{g:Bool}{ds:List D}{xs:List V}{as:List Addr}(h:RepA K H g ds xs as)(lo hi:Option Int):∃bs,RepA K H g (zZ ds lo hi) (QQ xs lo hi) bs/\∀b∈bs,b∈as:=by
 have hl:=h.len;unfold zZ QQ;rw[kxt,kxt,<-hl];obtain⟨bs,r,hb⟩:=h.drop (zw ds.length 0 lo);obtain⟨cs,r2,hc⟩:=r.take (zw ds.length ds.length hi - zw ds.length 0 lo);exact⟨cs,r2,λb h=>hb b (hc b h)⟩
theorem qzq{x:Sl}{s:Sd}{lo hi:Option Int}{Q:VK}(ok:x.ok K H)(hf:fSl (x.o,x.d) lo hi=some s)(k:∀(z:Sl) H',z.o=s.1->z.d=s.2->Out K H H' z x.frz->Q z.v H'):qxo K x.v lo hi H Q:=by
 unfold fSl at hf;dsimp only at hf;cases hx:x.d with
 | lst ds=>
  rw[hx]at hf;dsimp only at hf
  split at hf
  ·rename_i hl;cases oq9 hf;obtain⟨l,xs,bs,ev,q3,r3,h3⟩:=J5 ok (.inl hx) (by rw[hx];exact hl);have q3:LsR K H l xs:=by rcases q3 with⟨_,z⟩|⟨z,_⟩;exact z;rw[hx]at z;cases z
   obtain⟨cs,r4,h4⟩:=r3.cut lo hi;exact .inl ⟨l,xs,ev,zK q3,λp hp=>k ⟨.rt,.lst _,.ref p,p::cs⟩ _ rfl rfl (JK hp r4 λb hb=>h3 b (h4 b hb))⟩
  ·cases hf
 | tup ds=>
  rw[hx]at hf;dsimp only at hf
  split at hf
  ·rename_i hl;cases oq9 hf;obtain⟨l,xs,bs,ev,q3,r3,h3⟩:=J5 ok (.inr hx) (by rw[hx];exact hl.1);have q3:SqT K H l xs:=by rcases q3 with⟨z,_⟩|⟨_,z⟩;rw[hx]at z;cases z;exact z
   obtain⟨cs,r4,h4⟩:=r3.cut lo hi;refine .inr (.inl ⟨l,xs,ev,q3,?_,λp hp=>k ⟨.no,.tup _,.ref p,cs⟩ _ rfl rfl (YW hp r4 λb hb=>h3 b (h4 b hb))⟩);rw[kxt,kxt,<-r3.len];exact hl.2
  ·cases hf
 | str z=>
  rw[hx]at hf;dsimp only at hf
  split at hf
  ·rename_i hl;cases oq9 hf;obtain⟨e,hz⟩:=zV ok hx;exact .inr (.inr ⟨z,e,hz,k ⟨.dp,.str _,.str _,[]⟩ H rfl rfl (YX hl)⟩)
  ·cases hf
 |_=>rw[hx]at hf;cases hf
theorem xX{lo hi:Option Ex}{elo ehi:Option Expr}(ha:QV X Z q a ea)(hl:PO X elo (tPo Z lo))(hh:PO X ehi (tPo Z hi))(hK:autoParam (X.K=Z.K) Ŕ):QE X Z q (cSl a lo hi) (.Subscript ea (.Slice elo ehi none p2) pos):=
 qV (qwp (vze Z.K hK) ha hl hh) fun σ H Q av=>ex8 av λE L r m w hc xc k=>by
  refine vZ m w (show bnd (a E) _=some r from hc) xc λE1 s h1 x L1 H1 e1 e2 m1 w1 ok fr sr st sm=>?_
  refine qkp m1 w1 h1 (xc.step st) λE2 l h2 L2 H2 m2 w2 bm dh=>?_
  refine qkp m2 w2 h2 (xc.step (st.trans bm)) λE3 u h3 L3 H3 m3 w3 d3 i5=>?_
  obtain⟨z,hz,rfl⟩:=K0 h3;have k1:=Qk ok fr bm dh;have k2:=Qk k1.1 k1.2 d3 i5;refine qzq k2.1 (by rw[e1,e2];exact hz) λy H' ho hd o=>?_
  obtain⟨w4,ij⟩:=KJ w3 ((st.trans bm).trans d3) o k2.2 (λb hb=>k2.1.some (Sl.frz_as hb)) (V4 sr λb hb=>Sl.frz_as hb);have mf:q=true->kj H H3:=λhq=>qk (sm hq) (qk dh i5)
  exact k _ _ rfl y L3 H' ho hd m3 w4 ij λhq=>⟨qk (mf hq) o.same,λb hb=>zj (mf hq) (o.new b hb)⟩
noncomputable def tAV(Z:Fx0)(cs:List Ex):TA:=fun σ H Q=>∃E L r,Mt E σ L/\World Z.K H L/\qY cs E=some r/\Xc Z σ H L r /\
 ∀E' ys,r=.ok E' ys->∀(xs:List Sl) L' H',xs.map Sl.sd=ys->Mt E' σ L'->World Z.K H' L'->(∀x∈xs,x.ok Z.K H')->Step H L H' L'->kj H H'->Q (xs.map Sl.v) H'
def QAV(X:Cx)(Z:Fx0)(cs:List Ex)(es:List Expr):Prop:=PA X es (tAV Z cs)
theorem vv6:QAV X Z [] []:=kvl xj fun σ H Q av=>ex8 av λE L r m w hc xc k=>by
 cases oq9 hc;exact k _ _ rfl [] L H rfl m w (λ_ z=>nomatch z) Step.refl z6
theorem YZ{cs:List Ex}{es:List Expr}(h:QV X Z true c e)(hs:QAV X Z cs es)(bo:autoParam (starEach (e::es) X.env=(false,eval e X.env)::starEach es X.env) Ŕ):QAV X Z (c::cs) (e::es):=
 kvl (wj h hs bo) fun σ H Q av=>ex8 av λE L r m w hc xc k=>by
  refine vZ m w (show bnd (c E) _=some r from hc) xc λE1 s h1 x L1 H1 e1 e2 m1 w1 ok fr sr st sm=>?_
  rcases vY h1 with⟨E2,ys,h2,h3⟩|⟨E2,cc,h2,h3⟩
  ·cases oq9 h3;refine⟨E1,L1,_,m1,w1,h2,(λ_ _ z=>by cases z),λE' ys' z xs L2 H2 e3 m2 w2 ic bm dh=>?_⟩;injection z with z1 z2;subst z1 z2;refine k _ _ rfl (x::xs) L2 H2 (by rw[List.map_cons,e3];simp[Sl.sd,e1,e2]) m2 w2 (λy hy=>?_) (st.trans bm) (qk (sm rfl) dh);rcases List.mem_cons.mp hy with rfl|hy
   ·exact(Qk ok fr bm dh).1
   ·exact ic y hy
  ·exact⟨E1,L1,_,m1,w1,h2,(xc.step st).map h3,λE' s' z=>by cases z⟩
end
theorem vzi{prog:Program}{w:PySem.World}{A:Around}{E:Value->Shared->Prop}{s:Shared}{l:Addr}{items:Array Value}{k:Int}{t:Tok}{Q:Value->Shared->Prop}
  (ht:IsTup s.heap l items) (h:Q .notImplemented s):wpAny (model prog w) A (call (.builtin "int.__rmul__") [.int k t,.ref l]) Q E s:=by
 refine Yf PySem.F.slot_int_rmul (typeIs_int s k t) PySem.F.entry_int_rmul ?_ (PySem.F.args_int_rmul_2 _ _);obtain⟨o,e,c,n,hd⟩:=ht;show wpAny _ _ (asInt? (.ref l) >>= _) _ _ s;unfold asInt?;refine X0 (X0 (wpAny_load e ?_));rw[hd];refine X4 ?_;dsimp only;refine X0 (wpAny_rule ?_);exact X4 ⟨_,rfl,h⟩
theorem mulT{prog:Program}{w:PySem.World}{A:Around}{E:Value->Shared->Prop}{s:Shared}{l:Addr}{items:Array Value}{k:Int}{t:Tok}{Q:Value->Shared->Prop}
  (ht:IsTup s.heap l items) (h1:-(2 ^ 63)<=k) (h2:k<2 ^ 63) (hz:items.size*k.toNat<=sizeLine)
  (ql:(items.isEmpty=true\/k=1)->Q (.ref l) s)
  (hsz:(List.foldl (λx1 x2=>x1++x2) #[] (List.replicate k.toNat items)).size<=sizeLine)
  (jh:Q (.ref s.heap.objs.size) { s with heap:=s.heap.push { cls:=.type "tuple",data:=.seq (List.foldl (λx1 x2=>x1++x2) #[] (List.replicate k.toNat items)) } })
  : wpAny (model prog w) A (call (.builtin "tuple.__mul__") [.ref l,.int k t]) Q E s:=by
 refine Yf PySem.F.slot_tuple_mul ht.typeIs PySem.F.entry_tuple_mul ?_ (PySem.F.args_tuple_mul_2 _ _);show wpAny _ _ (if(decide (k < -2 ^ 63)||decide (k>=2 ^ 63))=true then _ else _) _ _ s;rw [Xj (by simp;lia)];show wpAny _ _ (Builtin.Tuple.tupleItemsOf (.ref l) >>= _) _ _ s;refine X0 (tupleItemsOf_ ht ?_)
 by_cases hs:(items.isEmpty||k==1)=true
 ·rw[Xf hs];unfold Builtin.Tuple.tupleIsExact;refine X0 (X0 (wpAny_typeOf ht.typeIs (X4 ?_)));rw[Xf (by decide)];refine X0 (wpAny_rule ?_);refine X4 ⟨_,rfl,ql ?_⟩
  simpa using hs
 ·rw[Xj hs];have en:items.isEmpty=false:=by
   cases h:items.isEmpty<;>simp_all
  have hm:((items.size:Int)*k)<=(sizeLine:Int)\/k<=0:=by
   by_cases hk:k<=0
   ·exact .inr hk
   ·refine .inl ?_;have e:((k.toNat:Nat):Int)=k:=Int.toNat_of_nonneg (by lia);have:((items.size*k.toNat:Nat):Int)<=(sizeLine:Int):=Int.ofNat_le.mpr hz;rw[Int.natCast_mul,e]at this;exact this
  dsimp only
  by_cases hk:k<=0
  ·rw[Xf (by simp[hk])];have e:k.toNat=0:=by lia
   rw[e]at jh;unfold Builtin.Tuple.tupleExact;exact X0 (Xy (X4 ⟨_,rfl,jh⟩) (show(0:Nat)<=sizeLine from Z5 _))
  ·rw[Xj (by simp[hk,en])];have hm:=hm.resolve_right hk;have hsl:(sizeLine:Int)=16777216:=by decide
   rw[Xj (by lia)];rw[Xj (by unfold Builtin.Tuple.tupleTooMany;simp;lia)];unfold Builtin.Tuple.tupleExact;exact X0 (Xy (X4 ⟨_,rfl,jh⟩) hsz)
section
variable {X:Cx}{Z:Fx0}{K:PySem.W.Frag}{pn:List Nat}{q qa qb:Bool}{a b c:Ex}{u:Ts}{tg e ea eb:Expr}{st:Stmt}{σ:L2.St}{H:Hp}{L:Ls}{E:En}{pos p p2:Pos}{x:Str}
noncomputable def vqp(K:PySem.W.Frag):R2:=λx y H Q=>∃l k xs,x=.ref l/\y=.int k/\SqT K H l xs/\-(2 ^ 63)<=k/\k<2 ^ 63/\xs.length*k.toNat<=sizeLine/\((xs=[]\/k=1)->Q (.ref l) H)/\∀p,H p=none->Q (.ref p) (upd H p (.tup (List.replicate k.toNat xs).flatten))
theorem op_repT:OpR X (binaryOp .Mult) (vqp X.K):=by
 intro pins s σ H x y v u Q I rx ry h;obtain⟨l,k,xs,rfl,rfl,hq,h1,h2,hz,q1,q2⟩:=h;cases rx;obtain⟨t,rfl⟩:=ry;obtain⟨aa,r,ht,hl⟩:=I.tuple hq;have aj:=r.length;have f0:List.foldl (λx1 x2=>x1++x2) #[] (List.replicate k.toNat aa.toArray)=(List.replicate k.toNat aa).flatten.toArray:=by
  have:=kjo aa k.toNat [];rw[List.nil_append]at this;exact this
 have hz2:(List.replicate k.toNat xs).flatten.length<=sizeLine:=by rw[qqe,Nat.mul_comm];exact hz
 refine wpAny_binaryOp_repeat_ref (T:="tuple") (U:="int") (by decide) ht.typeIs (λs'=>typeIs_int s' k t) rfl F.fills_int_mul F.slot_int_rmul (show seqRepeat? (Value.type "tuple")=pure (some (Value.builtin "tuple.__mul__"))from rfl) F.slot_int_index.lookup
  (vzi ht ⟨rfl,ht.typeIs,mulT ht h1 h2 (by rw[X8,<-aj];exact hz) (λhs=>?_) ?_ ?_⟩)
 ·refine⟨.ref l,H,I,rfl,q1 ?_⟩;rcases hs with hs|hs
  ·left;have:aa=[]:=by simpa using hs
   subst this
   simpa using aj
  ·exact .inr hs
 ·rw[f0,X8,<-(r.rep k.toNat).length];exact hz2
 ·rw[f0];exact⟨.ref _,_,I.laid (t':=s.toks) (o:=.tup _) (λb o e=>X2 _ e) (Xd _) ⟨hz2,_,r.rep k.toNat,IsTupD.new _ _⟩,rfl,q2 _ (I.hok.fresh (Xd _))⟩
def vqs(K:PySem.W.Frag):R2:=λx y H Q=>vqp K x y H Q\/qzv K x y H Q
theorem vw2(hK:autoParam (X.K=K) Ŕ):OpR X (binaryOp .Mult) (vqs K):=by subst hK;exact op_repT.or vw3
theorem vkk:Ad2 K (vqs K) qw:=by
 intro H x y s Q ox oy hf k;cases hx:x.d with
 | tup ds=>
  cases hy:y.d with
  | int n=>
   unfold qw at hf;rw [show(x.o,x.d).2=x.d from rfl,show(y.o,y.d).2=y.d from rfl,hx,hy]at hf;dsimp only at hf
   split at hf
   ·rename_i hc;cases oq9 hf;obtain⟨l,xs,bs,e3,q3,r3,h3⟩:=J5 ox (.inr hx) (by rw[hx];exact hc.2.2.2);have q3:SqT K H l xs:=by rcases q3 with⟨z,_⟩|⟨_,z⟩;rw[hx]at z;cases z;exact z
    obtain⟨cs,r4,h4⟩:=r3.reps n.toNat;refine .inl ⟨l,n,xs,e3,qz oy hy,q3,hc.1,hc.2.1,by rw[<-r3.len];exact hc.2.2.1,λhs=>?_,λp hp=>?_⟩
    ·refine k ⟨.no,.tup _,.ref l,cs⟩ H rfl rfl ⟨z6,?_,λb hb=>(nomatch hb),Y1,λb hb=>ll9 _ (h3 b (h4 b hb))⟩;show RepL K H true (.tup _) (.ref l) cs;unfold RepL;refine⟨l,xs,rfl,q3,?_⟩;have e:(List.replicate n.toNat xs).flatten=xs:=by
      rcases hs with hs|hs
      ·subst hs;simp
      ·subst hs;simp
     rw[e]at r4;exact r4
    ·exact k ⟨.no,.tup _,.ref p,cs⟩ _ rfl rfl (YW hp r4 λb hb=>ll9 _ (h3 b (h4 b hb)))
   ·cases hf
  |_=>
   refine .inr (qzf H x y s Q ox oy ?_ k);unfold qw at hf;rw[show(x.o,x.d).2=x.d from rfl,show(y.o,y.d).2=y.d from rfl,hx,hy]at hf;rw[hx,hy];exact hf
 |_=>
  refine .inr (qzf H x y s Q ox oy ?_ k);unfold qw at hf;rw[show(x.o,x.d).2=x.d from rfl,hx]at hf;rw[hx];exact hf
end
theorem RepA.erase{K:PySem.W.Frag}{H:Hp}{g:Bool}:∀{j:Nat} {ds:List D} {xs:List V} {as:List Addr},RepA K H g ds xs as->∃bs,RepA K H g (ds.eraseIdx j) (xs.eraseIdx j) bs/\bs.Sublist as
 |j,[],xs,as,h=>by
  unfold RepA at h;obtain⟨rfl,rfl⟩:=h;exact⟨[],by simp only[List.eraseIdx_nil];unfold RepA;exact⟨rfl,rfl⟩,List.Sublist.refl _⟩
 |0,d::ds,xs,as,h=>by
  unfold RepA at h;obtain⟨x,r,bs,cs,rfl,rfl,h1,h2⟩:=h;exact⟨cs,h2,List.sublist_append_right _ _⟩
 |j+1,d::ds,xs,as,h=>by
  unfold RepA at h;obtain⟨x,r,bs,cs,rfl,rfl,h1,h2⟩:=h;obtain⟨es,r2,hs⟩:=RepA.erase (j:=j) h2;refine⟨bs++es,?_,List.Sublist.append (List.Sublist.refl _) hs⟩;rw[Yv,Yv];unfold RepA;exact⟨x,r.eraseIdx j,bs,es,rfl,rfl,h1,r2⟩
theorem vwp{n:Nat}{i:Int}{j:Nat}(h:_root_.Q.ixN n i=some j):seqIndex? i n=some j/\j<n/\-(n:Int)<=i/\i<n:=by
 have e:L2.ixN n i=some j:=by
  unfold _root_.Q.ixN at h;unfold L2.ixN
  by_cases h0:0<=i
  ·rw[Xf h0]at h ⊢;exact h
  ·rw[Xj h0]at h ⊢;exact h
 exact kx5 e
section
variable {X:Cx}{Z:Fx0}{K:PySem.W.Frag}{pn:List Nat}{q qa qb:Bool}{a b c:Ex}{u:Ts}{tg e ea eb:Expr}{st:Stmt}{σ:L2.St}{H:Hp}{L:Ls}{E:En}{pos p p2 tpos:Pos}{x:Str}{iw:List Expr}{k1:Nat}
theorem vzq {i:Nat} {o:Expr} {c8 bb:Pos} (hb:PE X (.Call (.Attribute o "pop" c8) [e] [] bb) (tBM Z.K "list" qxp (xW i) (qzo (tV Z q c) vz7))):QE X Z false (Wx i c) (.Call (.Attribute o "pop" c8) [e] [] bb):=qV hb fun σ H Q av=>ex8 av λE L r m w hc xc k=>by
 unfold Wx at hc;cases h0:E[i]? with
 | none=>rw [h0]at hc;cases hc
 | some s0 =>
  cases s0 with
  | none=>rw [h0]at hc;cases hc
  | some s0 =>
   obtain ⟨o0,d0⟩:=s0;cases d0 with
   | lst ds0 =>
    rw [h0,Xf (show Jj (some (some (o0,D.lst ds0)))=true from rfl)]at hc;obtain ⟨x0,a1,a2,a3,a4⟩:=m.get h0;refine ⟨x0.v,a4,qxx (w.ok x0 (ww a1)) a3,?_⟩;refine vZ m w hc xc λE1 s h1 x L1 H1 e1 e2 m1 w1 mv fr sr st sm=>?_
    cases hE:E1[i]? with
    | none=>rw[hE]at h1;cases h1
    | some s1=>
     cases s1 with
     | none=>rw[hE]at h1;cases h1
     | some s1=>
      obtain ⟨oo,dd⟩:=s1;rw [hE]at h1;cases dd with
      | lst ds=>
       cases hs:s.2 with
       | int kk=>
        rw [hs]at h1;dsimp only at h1
        by_cases d9:oo=.no
        ·rw [Xf d9]at h1;cases h1
        ·rw [Xj d9]at h1;cases hj:_root_.Q.ixN ds.length kk with
         | none=>rw[hj]at h1;cases h1
         | some j=>
          rw [hj]at h1;dsimp only at h1;cases hd:ds[j]? with
          | none=>rw[hd]at h1;cases h1
          | some d=>
           rw[hd]at h1;dsimp only at h1
           split at h1
           rotate_left
           ·cases h1
           rename_i hp;rw[Bool.and_eq_true]at hp;obtain⟨hp,hsm⟩:=hp;obtain⟨gq,dh⟩:=Zj hsm;cases oq9 h1;obtain⟨y,b1,b2,b3,b4⟩:=m1.get hE;have hv:y.v=x0.v:=by rw[a4]at b4;exact(oq9 (oq9 b4)).symm
           obtain⟨l,xs,bs,c1,c2,c3,c4,c5⟩:=kqf (w1.ok y (ww b1)) b3 (by rw[b2];exact d9);have ex0:x0.v=.ref l:=hv▸c1;rw[ex0];obtain⟨vv,f8,f1,f2,f3⟩:=c5.get hd;obtain⟨g1,g2,g3,g4⟩:=vwp hj;have aj:=c5.len;have gw:(2:Int) ^ 63=9223372036854775808:=by decide
           obtain⟨_,rp⟩:=RepL.pu (g':=false) f2 hp;obtain⟨cs,r6,fk⟩:=c5.erase (j:=j);refine⟨l,xs,kk,j,vv,rfl,by rw[qz mv (e2.trans hs)],c2,?_,?_,by rw[<-aj];exact g1,f1,?_⟩
           ·have:(2:Int) ^ 62=4611686018427387904:=by decide
            omega
           ·have:(2:Int) ^ 62=4611686018427387904:=by decide
            omega
           have yn:y.own.Nodup:=by
            obtain⟨A,B,e,_⟩:=ZQ b1;have:=w1.nd;rw[e,k3,jK,Xa]at this;exact(List.nodup_append.mp this.2.1).1
           have hoo:y.o=.rt\/y.o=.dp:=by
            rw[b2];cases oo with
            |no=>exact absurd rfl d9
            |rt=>exact .inl rfl
            |dp=>exact .inr rfl
           obtain⟨w3,s3⟩:=kqb (T:=[]) (o':=y.o) (ds':=ds.eraseIdx j) (xs':=xs.eraseIdx j) (by simpa using w1) b1 c2 c3 c4 c1 r6 (by
            rcases hoo with hoo|hoo
            ·exact .inl ⟨hoo,λa ha=>.inl (fk.subset ha)⟩
            ·refine .inr ⟨hoo,hoo,?_,λa ha=>.inl (fk.subset ha)⟩;unfold Sl.own at yn;rw[hoo,c3]at yn;exact fk.nodup (List.nodup_cons.mp yn).2)
           have ke:∀a o,H1 a=some o->a≠l->upd H1 l (.lst (xs.eraseIdx j)) a=some o:=λa o e ne=>by rw[kW ne];exact e
           have rp2:RepL Z.K (upd H1 l (.lst (xs.eraseIdx j))) false d vv []:=by
            refine rp.kp ⟨λa zs e=>ke a _ e λz=>?_,λa o u e=>ke a _ e λz=>?_,λa ha=>nomatch ha⟩
            ·subst z;rw[c2]at e;cases e
            ·subst z;rw[c2]at e;cases e
           have mm:=m1.set (x:=⟨y.o,.lst (ds.eraseIdx j),y.v,l::cs⟩) i;rw[KQ b4]at mm;refine k _ _ rfl ⟨.dp,d,vv,[]⟩ _ _ rfl rfl (by rw[<-b2];exact mm) (w3.consPu rp2 rfl) (V8 (x:=⟨.dp,d,vv,[]⟩) (st.trans (by simpa using s3)) (λb hb=>nomatch hb) rfl) λz=>nomatch z
       |_=>rw[hs]at h1;cases h1
      |_=>cases h1
   |_=>rw[h0]at hc;cases hc
theorem qz6{y:Sl}{ds:List D}(ok:y.ok K H)(hd:y.d=.lst ds)(ho:y.o=.dp):∃l xs bs,y.v=.ref l/\H l=some (.lst xs)/\y.as=l::bs/\y.own=l::bs/\RepA K H false ds xs bs:=by
 obtain⟨l,xs,bs,c1,c2,c3,c4,c5⟩:=kqf ok hd (by rw[ho];exact λz=>nomatch z);rw[ho]at c5;exact⟨l,xs,bs,c1,c2,c3,by unfold Sl.own;rw[ho,c3],c5⟩
end
section
variable {X:Cx}{Z:Fx0}{q:Bool}{a b c:Ex}{ea eb ec:Expr}{σ:L2.St}{H:Hp}{pos:Pos}
theorem kkx{r r':R2}{f g:D->D->Option D}(ad:Ad2 Z.K r (pu2 f))(mz:Ad2 Z.K r' (pu2 g)){Q:VK}(h:tQ Z q (JW f g a b c) σ H Q):qjy r r' (tV Z q a) (tV Z true b) (tV Z true c) σ H Q:=by
 obtain⟨E,L,R,m,w,hc,xc,k⟩:=h;refine vZ m w hc xc λE1 s h1 x L1 H1 e1 e2 m1 w1 ok fr sr st sm=>?_
 refine vZ m1 w1 h1 (xc.step st) λE2 s2 h2 y L2 H2 e3 e4 m2 w2 ic pw oh bm dh=>?_
 have kx:=Qk ok fr bm (dh rfl);cases hf:f s.2 s2.2 with
 | none=>rw[hf]at h2;cases h2
 | some d=>
  rw [hf]at h2;cases d with
  | bl kb=>
   refine ad H2 x y (.dp,.bl kb) _ kx.1 ic (by show(f x.d y.d).map _=_;rw[e2,e4,hf];rfl) λz H' zo zd o=>?_
   refine⟨kb,QK o.ok zd,?_⟩;have w3:World Z.K H' L2:=⟨λt ht=>RepO.kp (w2.ok t ht) (Kp.of_same o.same),w2.nd,w2.ds⟩;have d3:Step H L H' L2:=(st.trans bm).trans ⟨λb ob h _=>o.same b ob h,λ_ h=>.inl h,λ_ h=>.inl h⟩;have i5:q=true->kj H H':=λhq=>qk (sm hq) (qk (dh rfl) o.same)
   cases kb with
   | false=>
    cases oq9 h2;rw[Xj (by decide)];exact k _ _ rfl ⟨.dp,.bl false,.bl false,[]⟩ L2 H' rfl rfl m2 (w3.consPu (x:=⟨.dp,.bl false,.bl false,[]⟩) (show RepL Z.K H' false (.bl false) (.bl false) []from vJ) rfl) (V8 (x:=⟨.dp,.bl false,.bl false,[]⟩) d3 (λb hb=>nomatch hb) rfl) λhq=>⟨i5 hq,λ_ z=>(nomatch z)⟩
   | true=>
    rw[Xf rfl];refine vZ m2 w3 h2 (xc.step d3) λE3 s3 h3 v L3 H3 e5 e6 m3 w4 ok3 lv sr3 ij mh=>?_
    obtain⟨zz,hz,rfl⟩:=K0 h3;have ky:=Qk (x:=y) (RepO.kp ic (Kp.of_same o.same)) pw ij (mh rfl);refine mz H3 y v zz Q ky.1 ok3 (by show(g y.d v.d).map _=_;rw[e4,e6];exact hz) λt H5 to td ot=>?_
    obtain⟨w5,il⟩:=KJ w4 (d3.trans ij) ot (λb hb=>(List.mem_append.mp hb).elim (ky.2 b) (lv b)) (λb hb=>(List.mem_append.mp hb).elim (λz=>ky.1.some (Sl.frz_as z)) λz=>ok3.some (Sl.frz_as z))
     (qk2 (V4 (oh.back st) λb hb=>Sl.frz_as hb) (V4 (sr3.back d3) λb hb=>Sl.frz_as hb))
    exact k _ _ rfl t L3 H5 to td m3 w5 il λhq=>⟨qk (i5 hq) (qk (mh rfl) ot.same),λb hb=>zj (qk (i5 hq) (mh rfl)) (ot.new b hb)⟩
  |_=>cases h2
theorem vj0{op gz:CmpOp}{r r':R2}{f g:D->D->Option D}(ho:OpR X (compareOp op) r)(ad:Ad2 Z.K r (pu2 f))(fq:OpR X (compareOp gz) r')(mz:Ad2 Z.K r' (pu2 g))(ha:QV X Z q a ea)(hb:QV X Z true b eb)(hc:QV X Z true c ec)
  (hm:lastMarks [op,gz] [eb,ec]=false:=by with_unfolding_all rfl):QE X Z q (JW f g a b c) (.Compare ea [op,gz] [eb,ec] pos):=qV (qwr ho fq ha hb hc hm) fun σ H Q h=>kkx ad mz h
theorem kqa {op gz:CmpOp} {r r':R2} {f g:D->D->Option D} (ho:OpR X (compareOp op) r) (ad:Ad2 Z.K r (pu2 f)) (fq:OpR X (compareOp gz) r') (mz:Ad2 Z.K r' (pu2 g)) (ha:QV X Z q a ea) (hb:QV X Z true b eb) (hc:QV X Z true c ec) (hg:∀x y s,pu2 g x y=some s->∃k,s.2=.bl k)
  (hm:lastMarks [op,gz] [eb,ec]=false:=by with_unfolding_all rfl):QT X Z q (_root_.Q.tE (JW f g a b c)) (.Compare ea [op,gz] [eb,ec] pos):=
 kz2 (qwm ho fq ha hb hc hm) fun σ H Q av=>ex8 av λE L r m w i4 xc k=>by
  refine kkx ad mz ?_;have lc:bnd (JW f g a b c E) (λE x=>val E (truth x.2))=some r:=i4;rcases vY lc with⟨E1,s,h1,h2⟩|⟨E1,cx,h1,h2⟩
  ·refine⟨E,L,_,m,w,h1,(λ_ _ z=>by cases z),λE' s' z x L' H' e1 e2 m' w' st sm=>?_⟩;injection z with z1 z2;subst z1 z2;obtain⟨kk,hk⟩:∃k,s.2=.bl k:=by
    unfold JW at h1;rcases vY h1 with⟨E2,s2,h3,h4⟩|⟨_,_,_,z⟩
    ·rcases vY h4 with⟨E3,s3,h5,h6⟩|⟨_,_,_,z⟩
     ·split at h6
      ·rcases vY h6 with⟨E4,s4,h7,h8⟩|⟨_,_,_,z⟩
       ·obtain⟨y,hy,z⟩:=K0 h8;cases z;exact hg s3 s4 _ hy
       ·cases z
      ·cases oq9 h6;exact⟨false,rfl⟩
      ·cases h6
     ·cases z
    ·cases z
   rw[hk]at h2;cases oq9 h2;exact⟨kk,QK w'.head (e2.trans hk),k _ _ rfl L' H' m' w'.tail (st.trans Step.drop) λhq=>(sm hq).1⟩
  ·exact⟨E,L,_,m,w,h1,xc.map h2,λE' s' z=>by cases z⟩
end
end Q
namespace Q
open PySem PySem.Spec PyProof.Rows L2 L3
theorem vk8{P:Program}{w:PySem.World}{H:Hp}(h:Heap):ObjOk P w H (h.push { cls:=.type "dict",data:=.dict #[] }) h.objs.size (XZ h.objs.size [] 0):=
 ⟨⟨_,#[],X9 _ rfl,⟨rfl,rfl,rfl⟩,rfl,rfl⟩,⟨_,X9 _ rfl⟩,λh1 h2 ⟨o,ds,a1,a2⟩ k=>⟨o,ds,k o a1,a2⟩⟩
abbrev vza:TE:=λ_ H Q=>∀p,H p=none->(p==sysModules)=false->Q (.ref p) (upd H p (XZ p [] 0))
theorem vjd{X:Cx}{pos:Pos}:PE X (.Dict [] [] pos) vza:=λpins s σ H Q I h=>
 wpAny_Dict_empty ⟨.ref s.heap.objs.size,_,I.laid (a:=s.heap.objs.size) (o:=XZ s.heap.objs.size [] 0) (t':=s.toks) (λ_ _ q=>X2 _ q) (Xd _) (vk8 s.heap),rfl,h _ (I.hok.fresh (Xd _)) (by
  have:=I.big;exact beq_false_of_ne (Nat.ne_of_gt this))⟩
theorem vv4{X:Cx}{Z:Fx0}{pos:Pos}:QE X Z true vkf (.Dict [] [] pos):=qV vjd fun σ H Q av=>ex8 av λE L r m w hc xc k=>by
 intro p hp hs;cases oq9 hc;have sm:kj H (upd H p (XZ p [] 0)):=z7 hp;refine k _ _ rfl ⟨.rt,.dct [],.ref p,[p]⟩ L _ rfl rfl m ?_ ?_ λ_=>⟨sm,λb hb=>?_⟩
 ·refine World.cons ⟨λt ht=>RepO.kp (w.ok t ht) (Kp.of_same sm),w.nd,w.ds⟩ ?_ ?_ ?_ ?_ ?_ ?_
  ·exact⟨p,[],[],rfl,by unfold RepP;exact⟨rfl,rfl⟩,.inl ⟨[],0,xq,hs,Z5 _,Y1,rfl,λ_ z=>absurd z Xk,Paired.nil⟩,rfl⟩
  ·simp[Sl.own]
  ·intro b hb ho;have:b=p:=by simpa [Sl.own]using hb
   subst this;exact w.own_some ho hp
  ·intro b hb ho;have:b=p:=by simpa [Sl.own]using hb
   subst this;exact w.frz_some ho hp
  ·intro b hb;simp[Sl.frz]at hb
  ·intro b _ hb;simp[Sl.frz]at hb
 ·refine⟨λb ob h _=>sm b ob h,λb hb=>?_,λb hb=>?_⟩
  ·rw[jK]at hb;rcases List.mem_append.mp hb with z|z
   ·have:b=p:=by simpa [Sl.own]using z
    exact .inr (this▸hp)
   ·exact .inl z
  ·rw[qJ]at hb;rcases List.mem_append.mp hb with z|z
   ·simp[Sl.frz]at z
   ·exact .inl z
 ·have:b=p:=by simpa [Sl.own]using hb
  exact this▸hp
end Q
namespace Q
open PySem PySem.Spec PyProof.Rows L2 L3
theorem RepA.put{K:PySem.W.Frag}{H:Hp}{g:Bool}{d:D}{x:V}{cs:List Addr}(hx:RepL K H g d x cs):∀{ds:List D} {xs:List V} {bs:List Addr} (n:Nat),RepA K H g ds xs bs->∃es,RepA K H g (ds.set n d) (xs.set n x) es/\∀a∈es,a∈bs\/a∈cs
 | [],_,bs,n,h=>by
  have h0:=h;unfold RepA at h0;obtain⟨rfl,rfl⟩:=h0;exact⟨[],by simpa using h,λ_ z=>nomatch z⟩
 | e::ds,_,_,n,h=>by
  unfold RepA at h;obtain⟨y,r,b1,b2,rfl,rfl,h1,h2⟩:=h;cases n with
  | zero=>
   refine⟨cs++b2,?_,λa ha=>?_⟩
   ·rw[List.set_cons_zero,List.set_cons_zero];unfold RepA;exact⟨x,r,cs,b2,rfl,rfl,hx,h2⟩
   ·rcases List.mem_append.mp ha with z|z
    ·exact .inr z
    ·exact .inl (lr9 _ z)
  | succ n=>
   obtain⟨es,i1,i2⟩:=RepA.put hx n h2;refine⟨b1++es,?_,λa ha=>?_⟩
   ·rw[List.set_cons_succ,List.set_cons_succ];unfold RepA;exact⟨y,r.set n x,b1,es,rfl,rfl,h1,i1⟩
   ·rcases List.mem_append.mp ha with z|z
    ·exact .inl (ll9 _ z)
    ·exact(i2 a z).imp (lr9 _) id
section
variable {X:Cx}{Z:Fx0}{pn:List Nat}{q:Bool}{kc vc:Ex}{o ke ve:Expr}{pos bj:Pos}
theorem vzp {i:Nat} (ho:PE X o (xW i)) (hk:QV X Z true kc ke) (hv:QE X Z q vc ve) (hs:autoParam (swapsWithSole [.Subscript o ke bj] ve pos.line X.env=pure false) Ŕ) (hw:autoParam (swappedStores [.Subscript o ke bj] ve X.env=pure none) Ŕ)
  (h1:autoParam ((assignEach [.Subscript o ke bj] X.env).map (·.2)=[assign (.Subscript o ke bj) X.env]) Ŕ)
  (ha:autoParam (∀ v,assign (.Subscript o ke bj) X.env v=(do
   let ov <-holding [v] (eval o X.env)
   let iv <-holding [v,ov] (eval ke X.env)
   standAt bj
   holding [v,ov,iv] (setItem ov iv v)
   release [v,ov,iv] [])) Ŗ):
  QS X Z pn (vxu i kc vc) (.Assign [.Subscript o ke bj] ve pos):=JZ (kz3 hv (qxs ho hk kxr ha) hs hw h1) λD σ H av=>ex7 av λE L r m w hr k=>
 Vk m w hr k λE1 s1 h1 x L1 H1 e1 e2 m1 w1 mt _=>by
  by_cases hd:Jj E1[i]?=true
  ·rw [Xf hd]at h1;obtain ⟨s0,hd0⟩:∃s0,E1[i]?=some (some s0):=by
    cases h0:E1[i]? with
    | none=>rw[h0]at hd;cases hd
    | some s0=>
     cases s0 with
     | none=>rw[h0]at hd;cases hd
     | some s0=>exact⟨s0,rfl⟩
   obtain ⟨y0,a1,a2,a3,a4⟩:=m1.get hd0;refine ⟨y0.v,a4,?_⟩;have stL:Step H L H1 L1:=mt.trans Step.drop;rcases jxv h1 with⟨E2,ky,hk1,hk2⟩|⟨E2,c,hk1,rfl⟩
   ·refine ⟨E1,L1,_,m1,w1.tail,hk1,(λ_ _ z=>by cases z),λE' s' z zk L2 H2 f1 f2 m2 w2 okz frz _ bm sm=>?_⟩;injection z with z1 z2;subst z1 z2;cases hE:E2[i]? with
    | none=>rw[hE]at hk2;cases hk2
    | some s2=>
     cases s2 with
     | none=>rw[hE]at hk2;cases hk2
     | some s2=>
      obtain⟨oo,dd⟩:=s2;rw [hE]at hk2;cases dd with
      | lst ds=>
       cases hkd:ky.2 with
       | int j=>
        rw [hkd]at hk2;dsimp only at hk2
        by_cases d9:oo=.no
        ·rw[Xf d9]at hk2;cases hk2
        ·rw[Xj d9]at hk2;cases hj:ixN ds.length j with
         | none=>rw[hj]at hk2;cases hk2
         | some n=>
          rw[hj]at hk2;cases oq9 hk2;obtain⟨y,b1,b2,b3,b4⟩:=m2.get hE;have hyv:y.v=y0.v:=by rw[a4]at b4;exact(oq9 (oq9 b4)).symm
          obtain⟨w3,d3⟩:=wq4 (T:=[some x]) w1 bm w2;obtain⟨l,xs,bs,c1,c2,c3,c4,c5⟩:=kqf (w2.ok y (ww b1)) b3 (by rw[b2];exact d9);have c6:RepA Z.K H2 true ds xs bs:=by
           cases hb:(y.o != .dp)with
           |true=>rw[hb]at c5;exact c5
           |false=>rw[hb]at c5;exact c5.wk
          have rx:RepL Z.K H2 true s1.2 x.v x.as:=by rw[<-e2];exact RepO.wk (w3.ok x X3)
          obtain⟨es,g1,g2⟩:=RepA.put rx n c6;obtain⟨w4,ij⟩:=kqb (T:=[some x]) (o':=.rt) (ds':=ds.set n s1.2) (xs':=xs.set n x.v) w3 b1 c2 c3 c4 c1 g1 (.inl ⟨rfl,λa ha=>(g2 a ha).imp id λz=>by
           rcases Sl.as_of z with z|z
           ·exact .inl (by simpa using z)
           ·exact .inr (by simpa using z)⟩)
          have hkz:zk.v=.int j:=qz okz (by rw[f2];exact hkd);refine⟨l,xs,j,n,hyv▸c1,hkz,c2,by rw[<-c6.len,<-qqo];exact hj,?_⟩;have il:Step H L _ _:=(mt.trans d3).trans ij;refine k σ _ _ Pn.refl ?_ w4 il;have:=m2.set (x:=⟨.rt,.lst (ds.set n s1.2),y.v,l::es⟩) i;rw[KQ b4]at this;exact this
       |_=>rw[hkd]at hk2;cases hk2
      |_=>cases hk2
   ·exact⟨E1,L1,_,m1,w1.tail,hk1,(λE' c' e C L' H' hm m' w' st=>by injection e with z1 z2;subst z1 z2;exact k C σ L' H' hm Pn.refl m' w' (stL.trans st)),λE' s' z=>by cases z⟩
  ·rw[Xj hd]at h1;cases h1
end
end Q
namespace Q
open PySem PySem.Spec PyProof.Rows L2 L3
theorem vj2{X:Cx}{Z:Fx0}{q:Bool}:QA X Z q [] []:=kvl xj fun σ H Q av=>ex8 av λE L r m w hc xc k=>by
 cases oq9 hc;exact k _ _ rfl [] L H rfl m w Step.refl λ_=>⟨λ_ _ z=>z,λ_ z=>(nomatch z)⟩
end Q
namespace Q
open PySem PySem.Spec PyProof.Rows L2 L3
theorem vjg{K:PySem.W.Frag}{H:Hp}{x:Sl}(ok:x.ok K H)(ht:XV x.sd=true)(nd:x.own.Nodup):∃cs,RepL K H false x.d x.v cs/\(∀a∈cs,a∈x.own)/\cs.Nodup:=by
 obtain⟨o,d,v,as⟩:=x;unfold XV at ht;rw [Bool.or_eq_true]at ht;rcases ht with ht|ht
 ·unfold vk at ht;rw[Bool.or_eq_true]at ht;rcases ht with ht|ht
  ·have ho:o=.dp:=by
    have ht:(o==Own.dp)=true:=ht;cases o with
    |dp=>rfl
    |no=>cases ht
    |rt=>cases ht
   subst ho;exact⟨as,ok,λa h=>h,nd⟩
  ·obtain⟨_,r⟩:=RepL.pu (g':=false) (RepO.wk ok) ht;exact⟨[],r,λ_ h=>(nomatch h),Y1⟩
 ·rw[Bool.and_eq_true]at ht;have ho:o=.rt:=by
   have ht:(o==Own.rt)=true:=ht.1;cases o with
   |rt=>rfl
   |no=>cases ht
   |dp=>cases ht
  subst ho;cases d with
  | lst ds=>
   have hp:D.pures ds=true:=ht.2;obtain⟨a,xs,bs,e,r,h,e2⟩:=(show RepR K H (.lst ds) v as from ok);obtain⟨_,r2⟩:=RepA.pu (g':=false) r hp;refine⟨[a],?_,λb hb=>?_,by simp⟩
   ·unfold RepL;exact⟨a,xs,[],e,r2,.inl ⟨h,rfl⟩⟩
   ·rw[List.mem_singleton.mp hb];show a∈as.take 1;rw[e2];exact X3
  |_=>cases ht.2
end Q
namespace Q
open PySem PySem.Spec PyProof.Rows L2 L3
section
variable {K:PySem.W.Frag}{H:Hp}
structure Kx (H H':Hp)(as bs:List Addr):Prop where
 tup:∀a xs,H a=some (.tup xs)->H' a=some (.tup xs)
 frz:∀a o u,H a=some (.frz o u)->H' a=some (.frz o u)
 out:∀b∈as,b∉bs->∀ob,H b=some ob->H' b=some ob
theorem Kx.kp{H':Hp}{as bs cs:List Addr}(k:Kx H H' as bs)(h:∀b∈cs,b∈as/\b∉bs):Kp H H' cs:=⟨k.tup,k.frz,λa ha=>k.out a (h a ha).1 (h a ha).2⟩
theorem vvw{y:Sl}(h:y.o=.dp):y.own=y.as:=by unfold Sl.own;rw[h]
theorem vwy{y:Sl}(h:y.o=.dp):y.frz=[]:=by unfold Sl.frz;rw[h]
end
end Q
namespace Q
open PySem PySem.Spec PyProof.Rows L2 L3
theorem kxf{xs:List V}{n:Nat}{x:V}(h:xs[n]?=some x):atI xs (n:Int)=some x:=by
 have hn:n<xs.length:=(List.getElem?_eq_some_iff.mp h).1;have e:L2.ixN xs.length (n:Int)=some n:=by
  unfold L2.ixN;rw[Xf (Int.natCast_nonneg n)];simp[hn]
 unfold atI;rw[e];exact h
section
variable {X:Cx}{Z:Fx0}{pn:List Nat}{q:Bool}{c:Ex}{e ep:Expr}{i:Nat}{p:List Nat}{pos:Pos}
theorem jzz{K:PySem.W.Frag}{H:Hp}{L:Ls}{y:Sl}(w:World K H L)(h:L[i]?=some (some y)):World K H (some y::L.set i none)/\Step H L H (some y::L.set i none):=by
 have wn:World K H (none::L):=⟨λy hy=>w.ok y (by simpa using hy),by simpa using w.nd,by simpa using w.ds⟩;have sn:Step H L H (none::L):=⟨λ_ _ z _=>z,λa z=>.inl (by simpa using z),λa z=>.inl (by simpa using z)⟩;exact⟨wn.perm (Zw h),sn.trans (Step.refl.perm (List.Perm.refl _) (Zw h))⟩
theorem kzh{H:Hp}{l:Addr}{xs:List V}{ob:HO}(h:H l=some (.lst xs)){as:List Addr}(hn:l∉as):Kp H (upd H l ob) as:=by
 have ke:∀a o,H a=some o->a≠l->upd H l ob a=some o:=λa o e ne=>by rw[kW ne];exact e
 refine⟨λa xs e=>ke a _ e λz=>?_,λa o u e=>ke a _ e λz=>?_,λa ha o e=>ke a o e λz=>hn (z▸ha)⟩
 ·subst z;rw[h]at e;cases e
 ·subst z;rw[h]at e;cases e
theorem vky{K:PySem.W.Frag}{H:Hp}{l:Addr}{xs:List V}(h:H l=some (.lst xs)):tyV K "list" (.ref l) H:=.inl ⟨rfl,xs,.inl (.inl h)⟩
theorem wj8{u:Option V}:∀{E:En} {σ:L2.St} {L:Ls} (j:Nat),Mt E σ L->Mt (E.set j none) (σ.set j u) (L.set j none):=by
 intro E σ L j m
 induction m generalizing j with
 |nil=>exact .nil
 |un m ih=>cases j with
  |zero=>exact .un m
  |succ j=>exact .un (ih j)
 |cons m ih=>cases j with
  |zero=>exact .un m
  |succ j=>exact .cons (ih j)
theorem World.out1{K:PySem.W.Frag}{H:Hp}{L:Ls}(r:Nat)(w:World K H L):World K H (L.set r none)/\Step H L H (L.set r none):=by
 cases h:L[r]? with
 | none=>
  rw[show L.set r none=L from List.set_eq_of_length_le (by simpa using h)];exact⟨w,Step.refl⟩
 | some q=>
  cases q with
  |none=>
   rw[KQ h];exact⟨w,Step.refl⟩
  |some y=>
   obtain⟨w1,s1⟩:=jzz w h;exact⟨w1.tail,s1.trans Step.drop⟩
theorem qzz(hc:QE X Z q c e):QE X Z q (VW c) e:=qV hc fun σ H Q av=>ex8 av λE L r m w hr xc k=>by
 unfold VW at hr;rcases vY hr with⟨E1,s,h1,h2⟩|⟨E1,cc,h1,h2⟩
 ·refine⟨E,L,_,m,w,h1,(λ_ _ z=>by cases z),λE' s' z x L' H' e1 e2 m' w' st sm=>?_⟩;injection z with z1 z2;subst z1 z2
  split at h2
  rotate_left
  ·cases h2
  rename_i kr;cases oq9 h2;have xn:x.own.Nodup:=by
   have:=w'.nd;rw[jK]at this;exact(List.nodup_append.mp this).1
  obtain⟨cs,rx,fv,hcn⟩:=vjg w'.head (by unfold Sl.sd;rw[e1,e2];exact kr) xn;have nd:=w'.nd;rw[jK,Xa]at nd;refine k _ _ rfl ⟨.dp,x.d,x.v,cs⟩ L' H' rfl e2 m' ⟨λy hy=>?_,?_,λa ha=>?_⟩ ⟨st.keep,λa ha=>?_,λa ha=>?_⟩ λhq=>⟨(sm hq).1,λb hb=>(sm hq).2 b (fv b hb)⟩
  ·rcases List.mem_cons.mp hy with z|z
   ·cases z;exact rx
   ·exact w'.ok y (lc9 _ z)
  ·rw[jK,Xa];exact⟨hcn,nd.2.1,λa ha b hb=>nd.2.2 a (fv a ha) b hb⟩
  ·have ou:a∈j7 (some x::L'):=by
    rw[jK]at ha ⊢;exact List.mem_append.mpr ((List.mem_append.mp ha).imp (fv a) id)
   intro q2;rw[qJ]at q2;refine w'.ds a ou ?_;rw[qJ];exact lr9 _ ((List.mem_append.mp q2).elim (λz=>nomatch z) id)
  ·refine st.own a ?_;rw[jK]at ha ⊢;exact List.mem_append.mpr ((List.mem_append.mp ha).imp (fv a) id)
  ·refine st.frz a ?_;rw[qJ]at ha ⊢;exact lr9 _ ((List.mem_append.mp ha).elim (λz=>nomatch z) id)
 ·exact⟨E,L,_,m,w,h1,xc.map h2,λE' s' z=>by cases z⟩
end
end Q
namespace Q
open PySem PySem.Spec PyProof.Rows L2 L3
theorem qql{P:Program}{w:PySem.World}{K:PySem.W.Frag}{mg mb:Str->Option Value}{CX:CXT}{k:Nat}{fa a:Addr}{fd:FuncData}{x:Str}{sp:Sp}{s₁:Shared}{vs:List Value}{ns:List Int}
  (KX:K.In s₁.heap) (hns:s₁.heap.Ns mainGlobals mg) (hb:s₁.heap.Ns builtinsNs mb) (ny:∀x:Str,x≠"__name__"->mb x=bootBuiltins x) (hlim:s₁.heap.NoLimit) (hg:s₁.gens=#[])
  (ha:s₁.heap.get? a=some { cls:=.type "list",data:=.seq vs.toArray }) (hi:IntsAre vs ns) (hl:ns.length<=sizeLine) (hr:Room k callerA)
  (F:∀base:Heap,K.In base->base.Ns mainGlobals mg->FnOk P w K mg base CX k fa fd [x] sp) (qm:∀(s:Shared) (u:Value),BindsTo s fd ⟨[u],[]⟩ [(x,u)])
  (lp:∀H:Hp,wk6 H->LsR K H a (ns.map V.int)->sp [.ref a] H (λv _=>v=.bl true) λ_ _ _=>False)
  (hCX:∀H e s',CX [] H s₁ (λ_ _ _=>False) e s'->False):
  codeAny (model P w) callerA (.call (.ref fa) ⟨[.ref a],[]⟩) (λr s'=>r=.ok (.ret (.bool true))/\OldK s₁.heap s'.heap/\s'.os=s₁.os/\AllBare s'.gens) s₁:=by
 have rv:=kv7 hi;have lenV:=hi.length;have nt:∀H:Hp,wk6 H->LsR K H a (ns.map V.int)->HOk P w H s₁.heap->(∀b,H b≠none->b=a)->(H a≠none->K.lookup a=none) ->
   codeAny (model P w) callerA (.call (.ref fa) ⟨[.ref a],[]⟩) (λr s'=>r=.ok (.ret (.bool true))/\OldK s₁.heap s'.heap/\s'.os=s₁.os/\AllBare s'.gens) s₁:=by
  intro H hO hS hok hA hK;have i9:∀{b:Addr} {o:Obj},s₁.heap.get? b=some o->H b=none->(Kv s₁.heap H).get? b=some o:=λe n=>qx7 e n
  have qd:∀{b:Addr} {o:Obj} {es:Array DictEntry} {ep:Nat},s₁.heap.get? b=some o->o.data=.dict es ep->H b=none:=fun {b o es ep} e d=>by
   cases q:H b with
   | none=>rfl
   | some u=>
    have e':b=a:=hA b (by rw[q];simp);subst e';rw[ha]at e;cases e;have d':Data.seq vs.toArray _=Data.dict es ep:=d;cases d'
  have nsK:∀{b:Addr} {m:Str->Option Value},s₁.heap.Ns b m->(Kv s₁.heap H).Ns b m:=fun {b m} ⟨o,es,ep,e,d,r⟩=>⟨o,es,ep,i9 e (qd e d),d,r⟩
  have hKb:K.In (Kv s₁.heap H):=λb o e=>i9 (KX b o e) (by
   cases q:H b with
   | none=>rfl
   | some u=>
    have e':b=a:=hA b (by rw[q];simp);subst e';rw[hK (by rw[q];simp)]at e;cases e)
  have hM:Mod K mg (Kv s₁.heap H):=⟨hKb,nsK hns,⟨mb,nsK hb,ny⟩,let ⟨mc,h1,h2⟩:=hlim;⟨mc,nsK h1,h2⟩⟩;have e0:Env0 P w K mg (Kv s₁.heap H) callerA [] s₁ H:=⟨rfl,hM,λb o e=>vjl e,Nat.le_of_eq (qqw _ _),trivial,λb hb=>absurd (show b∈([]:List Addr)from hb) (by simp),hok,.of_eq hg⟩;refine codeAny_mono ((F _ hKb (nsK hns)).run callerA [] s₁ H ⟨[.ref a],[]⟩ [.ref a] [.ref a] _ _ hr e0 (qm s₁ (.ref a)) (.cons rfl .nil) (lp H hO hS)) λr s' h=>?_
  cases r with
  | error e=>exact(hCX H e s' h).elim
  | ok fl=>
   cases fl with
   | next=>exact False.elim h
   | brk=>exact False.elim h
   | cont=>exact False.elim h
   | ret u=>
    obtain⟨v,H',os,bare,un,hok',r',q⟩:=h;have q':v=.bl true:=q;subst q';obtain rfl:u=Value.bool true:=r';refine⟨rfl,OldK.of_keep λb o e=>?_,os,bare⟩;cases q:H b with
    | none=>exact un.keep b o e q (by intro z;exact absurd (show b∈([]:List Addr)from z) (by simp)) (by simp)
    | some u=>
     rcases hO b with z|⟨ob,xs,z⟩
     ·rw[q]at z;cases z
     ·have z2:=un.frzs b ob _ z;obtain⟨e1,_⟩:=hok b _ z;obtain⟨e2,_⟩:=hok' b _ z2;rw[e]at e1;cases e1;exact e2
 cases hk:K.lookup a with
 | some o=>
  have e:=KX a o hk;rw[ha]at e;cases e;refine nt (λ_=>none) (λ_=>.inl rfl) (.inr ⟨vs.toArray,_,hk,by rw[X8,lenV];exact hl,by simpa using rv⟩) (λb u z=>by have z':(none:Option HO)=some u:=z;cases z') (λb z=>absurd rfl z) λz=>absurd rfl z
 | none=>
  refine nt (λb=>if b=a then some (.frz { cls:=.type "list",data:=.seq vs.toArray } (.lst (ns.map V.int)))else none) (λb=>?_) (.inl (.inr ⟨{ cls:=.type "list",data:=.seq vs.toArray },Xf rfl⟩)) (λb u z=>?_) (λb z=>?_) λ_=>hk
  ·by_cases hb:b=a
   ·exact .inr ⟨_,_,Xf hb⟩
   ·exact .inl (Xj hb)
  ·by_cases hb:b=a
   ·have z':=(Xf hb).symm.trans z;cases z';subst hb;exact⟨ha,by rw[X5];exact hl,vs,_,rv,ha⟩
   ·have z':=(Xj hb).symm.trans z;cases z'
  ·by_cases hb:b=a
   ·exact hb
   ·exact absurd (Xj hb) z
@[elab_as_elim] theorem wq1 {P:List Value->Prop}(us:List Value)(e:us.length=1)(h:∀a,P [a]):P us:=by
 cases us with
 |nil=>cases e
 |cons a us=>cases List.eq_nil_of_length_eq_zero (Nat.succ.inj e);exact h a
@[elab_as_elim] theorem wq0 {P:List Value->Prop}(us:List Value)(e:us.length=2)(h:∀a b,P [a,b]):P us:=by
 cases us with
 |nil=>cases e
 |cons a us=>exact wq1 (P:=λl=>P (a::l)) us (Nat.succ.inj e) λb=>h a b
@[elab_as_elim] theorem wkz {P:List Value->Prop}(us:List Value)(e:us.length=3)(h:∀a b c,P [a,b,c]):P us:=by
 cases us with
 |nil=>cases e
 |cons a us=>exact wq0 (P:=λl=>P (a::l)) us (Nat.succ.inj e) λb c=>h a b c
@[elab_as_elim] theorem wky {P:List Value->Prop}(us:List Value)(e:us.length=4)(h:∀a b c d,P [a,b,c,d]):P us:=by
 cases us with
 |nil=>cases e
 |cons a us=>exact wkz (P:=λl=>P (a::l)) us (Nat.succ.inj e) λb c d=>h a b c d
@[elab_as_elim] theorem wkx {P:List Value->Prop}(us:List Value)(e:us.length=5)(h:∀a b c d f,P [a,b,c,d,f]):P us:=by
 cases us with
 |nil=>cases e
 |cons a us=>exact wky (P:=λl=>P (a::l)) us (Nat.succ.inj e) λb c d f=>h a b c d f
@[elab_as_elim] theorem len6 {P:List Value->Prop}(us:List Value)(e:us.length=6)(h:∀a b c d f g,P [a,b,c,d,f,g]):P us:=by
 cases us with
 |nil=>cases e
 |cons a us=>exact wkx (P:=λl=>P (a::l)) us (Nat.succ.inj e) λb c d f g=>h a b c d f g
theorem jz9{K:PySem.W.Frag}{H:Hp}{g:Bool}:∀(ns:List Int),RepA K H g (ns.map D.int) (ns.map V.int) []
 |[]=>by unfold RepA;exact⟨rfl,rfl⟩
 |n::ns=>by
  rw[List.map_cons,List.map_cons];unfold RepA;exact⟨_,_,[],[],rfl,rfl,K6,jz9 ns⟩
theorem vwg{K:PySem.W.Frag}{mg:Str->Option Value}{f:Fn}{H:Hp}{a:Addr}{ns:List Int}(h:∃E o,f [(.no,.lst (ns.map D.int))]=some (.ok E (o,.bl true)))(hs:LsR K H a (ns.map V.int))(hO:wk6 H):
  spF K mg 1 f [.ref a] H (λv _=>v=.bl true) λ_ _ _=>False:=by
 obtain⟨E,o,h⟩:=h;have ia:∃as,RepL K H true (.lst (ns.map D.int)) (.ref a) as/\(∀b∈as,False):=by
  rcases hs with(hs|⟨ob,hs⟩)|hs
  ·rcases hO a with z|⟨_,_,z⟩<;>(rw[hs]at z;cases z)
  ·refine⟨[],?_,λb hb=>nomatch hb⟩;unfold RepL;exact⟨a,ns.map V.int,[],rfl,jz9 ns,.inr ⟨rfl,.inl ⟨ob,hs⟩,rfl⟩⟩
  ·refine⟨[],?_,λb hb=>nomatch hb⟩;unfold RepL;exact⟨a,ns.map V.int,[],rfl,jz9 ns,.inr ⟨rfl,.inr hs,rfl⟩⟩
 obtain⟨as,r,hn⟩:=ia;refine⟨[⟨.no,.lst (ns.map D.int),.ref a,as⟩],_,rfl,rfl,?_,h,(λE' c z=>by cases z),λE' s z x H' e1 e2 w' st=>?_⟩
 ·exact⟨λx hx=>by rw[oq9 (List.mem_singleton.mp hx)];exact r,by simp[Sl.own],λb hb=>by simp[Sl.own]at hb⟩
 ·injection z with z1 z2;subst z2;exact QK w'.head e2
section
open PySem.W PySem.Calls
theorem walkQ{l:OpenLaw}{n k:Nat}{q:Program}{qW:List Str}{XP:(Str->Option Value)->Heap->Prop}{YP:PySem.World->Heap->Prop}{d:DefRec}{K:Params->Frag}{f:Fn}{x:Str}
  (hn:l.most=some n) (la:n<=sizeLine) (hdf:d.params.defaults=[]) (hr:Room k callerA)
  (hY:∀(w:PySem.World) (h:Heap),YP w h->(K w.params).In h)
  (F:∀(w:PySem.World) (mg:Str->Option Value) (fa:Addr) (h:Heap),(K w.params).In h->h.Ns mainGlobals mg->mg d.name=some (.ref fa) ->
   ∃fd:FuncData,(∀(s:Shared) (u:Value),BindsTo s fd ⟨[u],[]⟩ [(x,u)])/\∀base:Heap,(K w.params).In base->base.Ns mainGlobals mg->FnOk l.prog w (K w.params) mg base (CXE l.prog w) k fa fd [x] (spF (K w.params) mg 1 f))
  (lp:∀(ns:List Int),ns.length<=n->(∀i∈ns,Builtin.Int.intBits i<=1048576)->∃E o,f [(.no,.lst (ns.map D.int))]=some (.ok E (o,.bl true))):
  WalkO q qW XP YP l.row.toRowW d [] (λf vs=>PySem.call f vs):=by
 intro w s0 s1 mg mb G Y fa o pm cd fm dV kV ho hd gk hD hmg hg args bz as kl hlay hrd hwl hlo;obtain rfl:dV=.none:=Dflts.none hD hdf;obtain rfl:kV=.none:=Dflts.noKw hD;obtain⟨a,vs,ns,rfl,rfl,hobj,qf,aj⟩:=Att.script_of hn kl hwl;have nr:=kxd hlay;have KX:=hY w _ Y;obtain⟨fd,hb,hF⟩:=F w mg fa _ KX G.T.g hmg;refine enter_call (codeAny_mono (qql KX G.T.g G.T.b G.T.builtins G.T.nolimit hg hobj qf (Yk aj la) hr hF hb (λH hO hS=>vwg (lp ns aj nr) hS hO) (λ_ _ _ ⟨_,_,_,_,_,_,_,_,_,_,_,_,_,_,_,z⟩=>z)) λr s' hq=>?_);obtain⟨rfl,h2,h3,h4⟩:=hq;exact⟨.inl ⟨.bool true,.bool true,[],rfl,λ_=>rfl,.bool true,Att.post_true l _,λ_=>⟨List.Pairwise.nil,λ_ hm=>(nomatch hm)⟩⟩,h2,h3,h4⟩
end
end Q
namespace Q
open PySem PySem.Spec PyProof.Rows L2 L3
section
variable {P:Program}{w:PySem.World}{K:PySem.W.Frag}{mg:Str->Option Value}{base h:Heap}{x:Str}{st:Stmt}{ps:List Str}{k:Nat}{sp:Sp}
noncomputable def Gf(K:PySem.W.Frag)(x:Str)(st:Stmt):Prop:=∃(f:Addr) (oc:Value) (od:Option Addr) (kV dc pm:Value) (an:Option Addr) (cd ct:Value) (sl:Array (Option Value)),PySem.W.nsIn K mainGlobals x=some (some (.ref f))/\K.lookup f=some ⟨oc,od,.func (PySem.W.fnOf x x (Q7 st) (KW st) (kY st) .none kV dc pm an cd ct),sl⟩/\PySem.W.codeIn K cd x=true/\PySem.W.keepIn K (.ref f)=true
theorem Gf.mk{f:Addr}{oc:Value}{od:Option Addr}{kV dc pm:Value}{an:Option Addr}{cd ct:Value}{sl:Array (Option Value)}(a:PySem.W.nsIn K mainGlobals x=some (some (.ref f)))(l:K.lookup f=some ⟨oc,od,.func (PySem.W.fnOf x x (Q7 st) (KW st) (kY st) .none kV dc pm an cd ct),sl⟩)(c:PySem.W.codeIn K cd x=true)(k:PySem.W.keepIn K (.ref f)=true):Gf K x st:=⟨f,oc,od,kV,dc,pm,an,cd,ct,sl,a,l,c,k⟩
theorem Gf.d(g:Gf K x st)(X:K.In h)(G:h.Ns mainGlobals mg)(ok:∀{f:Addr} {fd:FuncData},Fun K x x st f fd->FnOk P w K mg base (CXE P w) k f fd ps sp)
  (hb:∀(kV fm pm:Value) (an:Option Addr) (bd ct:Value) (us:List Value),us.length=ps.length->bindArgs (PySem.W.fnOf x x (Q7 st) (KW st) (kY st) .none kV fm pm an bd ct) ⟨us,[]⟩=pure (ps.zip us):=by
   intro _ _ _ _ _ _ us hl
   first
   |exact wq1 us hl λ_=>rfl
   |exact wq0 us hl λ_ _=>rfl
   |exact wkz us hl λ_ _ _=>rfl
   |exact wky us hl λ_ _ _ _=>rfl
   |exact wkx us hl λ_ _ _ _ _=>rfl
   |exact len6 us hl λ_ _ _ _ _ _=>rfl):qx P w K mg base k x ps sp:=by
 obtain⟨f,oc,od,kV,dc,pm,an,cd,ct,sl,a,l,c,kp⟩:=g;exact⟨f,_,ok (qqz l c kp),(qqz l c kp).binds hb,kp,PySem.W.mg_of X G a⟩
theorem Gf.law{fa:Addr}{y:Str}(g:Gf K "law" st)(X:K.In h)(G:h.Ns mainGlobals mg)(hfa:mg "law"=some (.ref fa))(ok:∀{base:Heap} {f:Addr} {fd:FuncData},Fun K "law" "law" st f fd->FnOk P w K mg base (CXE P w) k f fd [y] sp)
  (hb:∀(kV fm pm:Value) (an:Option Addr) (bd ct:Value) (s:Shared) (v:Value),BindsTo s (PySem.W.fnOf "law" "law" (Q7 st) (KW st) (kY st) .none kV fm pm an bd ct) ⟨[v],[]⟩ [(y,v)]:=by
   intros
   exact .of_eq rfl):
  ∃fd:FuncData,(∀(s:Shared) (v:Value),BindsTo s fd ⟨[v],[]⟩ [(y,v)])/\∀base:Heap,K.In base->base.Ns mainGlobals mg->FnOk P w K mg base (CXE P w) k fa fd [y] sp:=by
 obtain⟨f,oc,od,kV,dc,pm,an,cd,ct,sl,a,l,c,kp⟩:=g;have e:=hfa.symm.trans (PySem.W.mg_of X G a);cases e;exact⟨_,hb kV dc pm an cd ct,λbase _ _=>ok (qqz l c kp)⟩
end
end Q
namespace Q
open PySem L2
theorem mkS{N P:List Str}{sc:Scope}(h1:autoParam (sc.kind=.function) Ŕ)(h2:autoParam (sc.isCoroutine=false) Ŕ)(h3:autoParam (sc.isGenerator=false) Ŕ)(h4:autoParam (N.Nodup) ŗ)(h5:autoParam (N.take P.length=P) Ŕ)(h6:autoParam (∀x∈P,sc.names.lookup x=some .local\/sc.names.lookup x=some .cell) ŗ)(h7:autoParam (∀y∈sc.names,y.2≠.free) ŗ):FnScope N P sc:=⟨h1,h2,h3,h4,h5,h6,h7⟩
end Q
namespace Q
open PySem PySem.Spec PyProof.Rows L2 L3
section
variable {X:Cx}{Z:Fx0}{pn:List Nat}{q qa:Bool}{a b c:Ex}{e ea eb:Expr}{pos p:Pos}
theorem kI{z:Int}{j}:QE X Z true (cC (.int z)) (.Constant (.int z) j p):=q_C qku λ_=>K6
theorem ki{z:Int}{j}:QV X Z true (vE (cC (.int z))) (.Constant (.int z) j p):=j4 kI
theorem kN{j}:QE X Z true (cC .non) (.Constant .none j p):=q_C vvp λ_=>qkb
theorem kn{j}:QV X Z true (vE (cC .non)) (.Constant .none j p):=j4 kN
theorem kS{z:Str}{j}(h:autoParam (z.length<=sizeLine) ŕ):QE X Z true (cC (.str z)) (.Constant (.str z) j p):=q_C vvm λ_=>W6 h
theorem ks{z:Str}{j}(h:autoParam (z.length<=sizeLine) ŕ):QV X Z true (vE (cC (.str z))) (.Constant (.str z) j p):=j4 (kS h)
theorem vv(i:Nat){x:Str}(hN:autoParam (X.N[i]?=some x) Ŕ)(hv:autoParam (Vis X.env.scope x) ř)(hd:autoParam ((x==("__debug__":Str))=false) ŕ)
  (gk:autoParam ((x==("__classdict__":Str))=false) ŕ):QV X Z true (vV i) (.Name x pos):=q_vV (pv i hN hv hd gk)
theorem cv(i:Nat){x:Str}(hN:autoParam (X.N[i]?=some x) Ŕ)(hv:autoParam (Vis X.env.scope x) ř)(hd:autoParam ((x==("__debug__":Str))=false) ŕ)
  (gk:autoParam ((x==("__classdict__":Str))=false) ŕ):QE X Z true (cV i) (.Name x pos):=q_V (pv i hN hv hd gk)
theorem kx(ha:QV X Z qa a ea)(hb:QV X Z true b eb)(hs:W9 eb:=by exact λ_ _=>rfl)(hK:autoParam (X.K=Z.K) Ŕ):QV X Z qa (jw a b) (.Subscript ea eb pos):=q_ix ha hb hs hK
theorem qA{i:Nat}{y:Str}{bj:Pos}(hN:X.N.Nodup)(h:QE X Z q a ea)(hi:autoParam (X.N[i]?=some y) Ŕ)(hx:autoParam (Loc X.env.scope y) Ś)(hp:autoParam (i∉pn) ŕ)(hs:autoParam (swapsWith ea (some (.Name y bj)) pos.line X.env=pure false) Ŕ)(hf:autoParam (X.fn y=true\/X.env.scope.names.lookup y=some .local) Ř):
  QS X Z pn (jk i a) (.Assign [.Name y bj] ea pos):=vv8 hN hi hx h hp hs hf
theorem gn{i:Nat}{x:Str}(hN:X.N.Nodup)(hi:autoParam (X.N[i]?=some x) Ŕ)(hx:autoParam (Loc X.env.scope x) Ś)(hf:autoParam (X.fn x=true\/X.env.scope.names.lookup x=some .local) Ř):PG X (.Name x pos) (qqy i):=ZK hN hi hx hf
theorem gN{i:Nat}{x:Str}(hN:X.N.Nodup)(hi:autoParam (X.N[i]?=some x) Ŕ)(hx:autoParam (Loc X.env.scope x) Ś)(hf:autoParam (X.fn x=true\/X.env.scope.names.lookup x=some .local) Ř)(hp:autoParam (i∉pn) ŕ):QG X Z pn (.n i) (.Name x pos):=vxx (ZK hN hi hx hf) hp
theorem qC{k m n:Nat}{x:Str}{ps:List Str}{f:Fn}{cs:List Ex}{es:List Expr}(D:qx X.prog X.w X.K X.mg X.base k x ps (spF Z.K Z.mg n f))(hr:Room m X.A)(ha:QA X Z q cs (e::es))(g:zQ X Z.EX:=by exact WV)(gm:autoParam (k<=m) ŕ)(hn:autoParam (cs.length=n) Ŕ)(hg:autoParam (Gl X x) Ŕ)(f9:autoParam ((x==("__debug__":Str))=false) ŕ)
  (he:autoParam (starEach (e::es) X.env=(false,eval e X.env)::starEach es X.env) Ŕ) (bn:autoParam ((backTo pos (starEach es X.env)).any (·.1)=false) Ŕ):
  QE X Z q (jJ f cs) (.Call (.Name x p) (e::es) [] pos):=vv5 D (hr.mono gm) g ha hn hg f9 he bn
theorem qF{tg au:Expr}{ss:List Stmt}{it:Ev (List D)}{t:Tg}{B:Sm}(hi:QI X Z q tg it au)(hg:QG X Z pn t tg)(hb:QSs X Z pn B ss)(hp:PassesOwn (model X.prog X.w) X.A X.env X.xe:=by exact vvx ⟨_,_,rfl,rfl⟩)(hc:autoParam (X.calm=true) Ŕ)(hs:autoParam (∀x,foldedSetIterable au X.env x=pure x) Ŗ):QS X Z pn (v8 it t B) (.For tg au ss [] pos):=vv3 hp hc hi hg hb hs
theorem oA(ha:QV X Z qa a ea)(hb:QV X Z true b eb)(hK:autoParam (X.K=Z.K) Ŕ):QE X Z qa (cF2 j9 a b) (.BinOp ea .Add eb pos):=xY (vw4 hK) vxm ha hb
theorem oX(ha:QV X Z qa a ea)(hb:QV X Z true b eb)(hK:autoParam (X.K=Z.K) Ŕ):QE X Z qa (cF2 qw a b) (.BinOp ea .Mult eb pos):=xY (vw2 hK) vkk ha hb
theorem oM(ha:QV X Z qa a ea)(hb:QV X Z true b eb):QE X Z qa (cF2 (pu2 kq) a b) (.BinOp ea .Mod eb pos):=xY vvz vxj ha hb
theorem qP{i:Nat}{x:Str}{c8 bb xp:Pos}(h:QE X Z q c e)(hN:autoParam (X.N[i]?=some x) Ŕ)(hv:autoParam (Vis X.env.scope x) ř)(hd:autoParam ((x==("__debug__":Str))=false) ŕ)
  (gk:autoParam ((x==("__classdict__":Str))=false) ŕ) (dy:autoParam (attributeBase (.Name x xp) "append" X.env (eval (.Name x xp) X.env)=eval (.Name x xp) X.env) Ŕ)
  (gy:autoParam (((backTo bb (starEach [e] X.env)).all (λx=>!x.1)&&(backToKw bb (keywordEach [] X.env)).all (λx=>x.1.isSome)
   && decide ([e].length+([]:List Keyword).length+(if([]:List Keyword).isEmpty then 0 else 1)<30))=true) Ŕ)
  (eh:autoParam ((c8.endLine==bb.line)=true) Ŕ) (hs:autoParam (starEach [e] X.env=(false,eval e X.env)::starEach [] X.env) Ŕ) (cw:autoParam ((backTo bb (starEach [] X.env)).any (·.1)=false) Ŕ) (hK:autoParam (X.K=Z.K) Ŕ)
  (mi:autoParam (swapsWith (.Call (.Attribute (.Name x xp) "append" c8) [e] [] bb) none pos.line X.env=pure false) Ŕ):
  QS X Z pn (qZ v4 i c) (.Expr (.Call (.Attribute (.Name x xp) "append" c8) [e] [] bb) pos):=vzt (qkx Z.K PySem.F.plainAttrs_list PySem.F.slot_list_append PySem.F.type_list_append kvy (pv i hN hv hd gk) (wj h xj hs) dy gy eh hs cw hK) mi
theorem qL(ha:QV X Z q a ea)(hm:X.mg "len"=none)(hK:autoParam (X.K=Z.K) Ŕ)(hg:autoParam (Gl X "len") Ŕ)(he:autoParam (starEach [ea] X.env=(false,eval ea X.env)::starEach [] X.env) Ŕ)(bn:autoParam ((backTo pos (starEach [] X.env)).any (·.1)=false) Ŕ):QE X Z q (cF1 (pu1 kZ) a) (.Call (.Name "len" p) [ea] [] pos):=Kq (hK▸vkd X.K) vxk ha hm vxd hg (by decide) (by decide) he bn
theorem qT(ha:QV X Z q a ea)(hm:X.mg "tuple"=none)(hK:autoParam (X.K=Z.K) Ŕ)(hg:autoParam (Gl X "tuple") Ŕ)(he:autoParam (starEach [ea] X.env=(false,eval ea X.env)::starEach [] X.env) Ŕ)(bn:autoParam ((backTo pos (starEach [] X.env)).any (·.1)=false) Ŕ):QE X Z q (cF1 J7 a) (.Call (.Name "tuple" p) [ea] [] pos):=zY (qvr hK) qxk ha hm kzu hg (by decide) (by decide) he bn
variable {au em tg:Expr}{dq:List Expr}{scope:Scope}{it:Ev (List D)}{tt:Tg}{u:Ts}
theorem qM{x:Str}{p':Pos}(o:Own)(k:Nat)(R:List Nat)(m:Nat)(N:List Str)(hi:QI X Z q (.Name x p') it au)(he:∀cl C s0 H0 fp,QE (lcE X scope N cl C s0 H0 fp Z.EX) Z q c em)
  (hN:autoParam (N.Nodup) ŗ) (gx:zQ X Z.EX:=by exact WV) (top:K5 X:=by exact⟨_,_,rfl,rfl⟩) (hR:autoParam (R.Nodup) ŕ) (hm:autoParam (X.N.length=m) Ŕ) (hr:autoParam (∀j∈R,j<m) ŕ) (hc:autoParam (X.calm=true) Ŕ) (hk:autoParam (scope.kind=.function) Ŕ) (jt:autoParam (V0 X.N X.env.scope scope N k R=true) Ŕ) (hs:autoParam (∀x,foldedSetIterable au X.env x=pure x) Ŗ)
  (hg:N.Nodup->∀cl C s0 H0 fp,QG (lcE X scope N cl C s0 H0 fp Z.EX) Z ((List.range R.length).map (k + ·)) (.n 0) (.Name x p'):=by exact λh _ _ _ _ _=>vxx (ZK (i:=0) h rfl (by first|exact Or.inl rfl|exact Or.inr rfl))):
  QE X Z q (cLC o k R it (.n 0) tYes c) (.ListComp em [⟨.Name x p',au,[],0⟩] scope pos):=q_lc N hi (hg hN) (λ_ _ _ _ _=>qzy) he gx top hR (hm▸hr) hc hk jt hs
end
end Q
namespace Q
def ddS(ss:List PySem.Str):List PySem.Str:=ss.foldl (λl k=>if l.any (· == k)then l else l++[k]) []
def ddI(ss:List Int):List Int:=ss.foldl (λl k=>if l.any (· == k)then l else l++[k]) []
noncomputable def XY:Sd->Option Sd:=λx=>match x.2 with
 |.lst ds=>(match x9 ds with
  |some ss=>if ss.length<64 then some (.rt,.lst ((kX (ddS ss)).map .str))else none
  |none=>none)
 |_=>none
noncomputable def kwc(f:Fn)(cs:List Ex):Ex:=λE=>bnd (qY cs E) λE xs=>match f (letAll xs)with
 |some (.ok _ y)=>if y.1=.dp then some (.ok E y)else none
 |some (.exc _ c)=>some (.exc E c)
 |none=>none
end Q
namespace Sw
open PySem PyProof.Rows
section
variable {prog:Program}{w:World}{A:Around}{E:Value->Shared->Prop}{s:Shared}
def tx(w:World):Bool:=w.params.followText "set-order"
structure Ok (prog:Program)(w:World)(o:Obj)(es:Array (Int×Value))(ep:Nat)(t:SetTable):Prop where
 ex:o.ExactSet
 d:o.data=.set es ep t
 el:ElemsOf (PySem.strKind prog w) es.toList
 b:es.size<scanBound
 f:t.fits es.size=true
 led:t.led=!tx w
 pl:t.plain=false\/es.size=0
def XX(es:List (Int×Value)):List Str:=es.map λe=>strOf e.2
noncomputable def Has(prog:Program)(w:World)(h:Heap)(a:Addr)(ls:List Str):Prop:=∃o es ep t,h.get? a=some o/\Ok prog w o es ep t/\(XX es.toList).Perm ls
theorem qz5{l:List (Int×Value)}(h:ElemsOf (PySem.strKind prog w) l){e:Int×Value}(he:e∈l):∃k t,e.2=.str k t:=by
 obtain⟨⟨k,hk,_⟩,_⟩:=h e he;obtain⟨t,ht⟩:=Value.isStrOf_shape hk;exact⟨k,t,ht⟩
theorem vwt{l:List (Int×Value)}(h:ElemsOf (PySem.strKind prog w) l)(k:Str):(∃e∈l,(PySem.strKind prog w).is k e.2=true)↔k∈XX l:=by
 unfold XX;rw[List.mem_map];constructor
 ·rintro ⟨e,he,hk⟩;obtain⟨t,ht⟩:=Value.isStrOf_shape hk;exact⟨e,he,by rw[ht];rfl⟩
 ·rintro ⟨e,he,hk⟩;obtain⟨k',t,ht⟩:=qz5 h he;rw[ht]at hk;cases(show k'=k from hk);exact⟨e,he,by rw[ht];exact strKind_is _ _ _ _⟩
theorem vjx(t:SetTable)(es:Array (Int×Value))(h:Int)(x:Value):(layNew t es h x).2.1.led=t.led/\((layNew t es h x).2.1.plain=true->t.plain=true):=by
 unfold layNew
 split
 ·rename_i slot wd _;show((t.put slot).1.orStandIn _).led=_/\(((t.put slot).1.orStandIn _).plain=true->_);unfold SetTable.orStandIn
  split
  ·exact⟨rfl,λh=>h⟩
  ·exact⟨rfl,λh=>nomatch h⟩
 ·exact⟨rfl,λh=>nomatch h⟩
theorem qkc(t:SetTable)(es:Array (Int×Value))(n:Nat):(relayAll t es n).2.1.led=t.led/\((relayAll t es n).2.1.plain=true->t.plain=true):=by
 unfold relayAll
 split
 ·rename_i t' order hr;dsimp only
  split
  ·unfold SetTable.relaid SetTable.laid at hr;rw[Option.bind_eq_bind,Option.bind_eq_some_iff]at hr;obtain⟨ow,_,e⟩:=hr;cases oq9 e;exact⟨rfl,λh=>h⟩
  ·exact⟨rfl,λh=>nomatch h⟩
 ·exact⟨rfl,λh=>nomatch h⟩
theorem vq7{h:Heap}{a:Addr}{o:Obj}{es es':Array (Int×Value)}{ep:Nat}{t t':SetTable}(ho:h.get? a=some o)(hd:o.data=.set es ep t):(h.update a (Obj.putSet es' t')).get? a=some { o with data:=.set es' (ep+1) t' }:=by
 have:=Y2 (Obj.putSet es' t') ho (by rw[putSet_of es' t' hd];rfl)
 rwa [putSet_of es' t' hd]at this
theorem tail{g:Bool->Sem Unit}(hg:∀(b:Bool) (s₁:Shared) (Q':Unit->Shared->Prop),Q' () s₁->wpAny (model prog w) A (g b) Q' E s₁)
  {a:Addr} {o:Obj} {es da:Array (Int×Value)} {ep:Nat} {t t2:SetTable} {ls:List Str} {jl:Bool} {R:Option Bool->Shared->Prop} (ho:s.heap.get? a=some o) (hd:o.data=.set es ep t) (hex:o.ExactSet)
  (hel:ElemsOf (PySem.strKind prog w) da.toList) (hb:da.size<scanBound) (hf:t2.fits da.size=true) (nh:t2.led=!tx w) (bn:t2.plain=false) (hp:(XX da.toList).Perm ls)
  (h:∀h',Heap.SameBut a s.heap h'->Has prog w h' a ls->R (some true) { s with heap:=h' }):
  wpAny (model prog w) A (do
    storeSet a da t2
    if(!jl&&t2.tooFull)=true then do
      g (relayAll t2 da (SetTable.grown da.size)).2.2
      storeSet a (relayAll t2 da (SetTable.grown da.size)).1 (relayAll t2 da (SetTable.grown da.size)).2.1
      pure (some true)
     else pure (some true)) R E s:=by
 refine X0 (wpAny_storeSet_of ho hd ?_ (fits_of_scanBound hb));have io:=vq7 (es':=da) (t':=t2) ho hd;have hs1:=Yg s.heap a (Obj.putSet da t2)
 split
 ·have r1:=relayAll_perm t2 da (SetTable.grown da.size);have r2:=relayAll_fits t2 da (SetTable.grown da.size);obtain⟨r3,r4⟩:=qkc t2 da (SetTable.grown da.size);generalize relayAll t2 da (SetTable.grown da.size)=V at r1 r2 r3 r4 ⊢;obtain⟨es2,t3,gv⟩:=V;dsimp only at r1 r2 r3 r4 ⊢;have hz:es2.size=da.size:=by rw[<-Xp,r1.length_eq,Xp]
  refine X0 (hg _ _ _ ?_);refine X0 (wpAny_storeSet_of io rfl ?_ (fits_of_scanBound (by rw[hz];exact hb)));refine X4 (h _ (hs1.trans (Yg _ a _)) ⟨_,es2,_,t3,vq7 io rfl,⟨hex,rfl,hel.perm r1,by rw[hz];exact hb,r2,r3.trans nh,.inl ?_⟩,(r1.map _).trans hp⟩);cases hq:t3.plain with
  |false=>rfl
  |true=>rw[r4 hq]at bn;cases bn
 ·exact X4 (h _ hs1 ⟨_,da,_,t2,io,⟨hex,rfl,hel,hb,hf,nh,.inl bn⟩,hp⟩)
theorem add{a:Addr}{k:Str}{tk:Tok}{ls:List Str}{Q:Bool->Shared->Prop}(hS:Has prog w s.heap a ls)(hl:ls.length+1<scanBound)
  (h:∀b h',Heap.SameBut a s.heap h'->Has prog w h' a (step_dedup ls k)->Q b { s with heap:=h' }):wpAny (model prog w) A (setAddHashed a (.str k tk) ((PySem.strKind prog w).hash k)) Q E s:=by
 obtain⟨o,es,ep,t,ho,hk,hp⟩:=hS;have hsz:es.size=ls.length:=by rw[<-hp.length_eq];unfold XX;rw[X5,Xp]
 have jp:(PySem.strKind prog w).is k (.str k tk)=true:=strKind_is _ _ _ _;have hmk:(∃e∈es.toList,(PySem.strKind prog w).is k e.2=true)↔k∈ls:=(vwt hk.el k).trans hp.mem_iff;unfold setAddHashed setAddHashedIn;refine Yb (X0 (Yz ho hk.d hk.f ?_));dsimp only;rw[byScan_of rfl hk.b hk.el];simp only[↓reduceIte];unfold setAddByScan;refine X0 ?_;refine X0 (wpAny_rule ?_);refine X0 (wpAny_setScan_of jp ho hk.d hk.f hk.el ?_);cases hr:List.findIdx? (λe=>(PySem.strKind prog w).is k e.2) es.toList with
 | some j=>
  dsimp only;obtain⟨hj,hpj,_⟩:=List.findIdx?_eq_some_iff_getElem.mp hr;have hin:k∈ls:=hmk.mp ⟨_,Y6 hj,hpj⟩;have bo:step_dedup ls k=ls:=by unfold step_dedup;rw[Xf (List.any_eq_true.mpr ⟨k,hin,by simp⟩)]
  refine X4 (X4 ?_);have:=h false s.heap (Heap.SameBut.refl a s.heap) (by rw[bo];exact⟨o,es,ep,t,ho,hk,hp⟩);exact this
 | none=>
  dsimp only;have hni:k∉ls:=λhin=>by
   obtain⟨e,he,hq⟩:=hmk.mpr hin;have:=List.findIdx?_eq_none_iff.mp hr e he;rw[hq]at this;cases this
  have bo:step_dedup ls k=ls++[k]:=by
   unfold step_dedup;rw[Xj];intro hh;obtain⟨y,hy,e⟩:=List.any_eq_true.mp hh;rw[eq_of_beq e]at hy;exact hni hy
  rw[bo]at h;have hgw:∀(b:Bool) {s₁:Shared} {Q':Unit->Shared->Prop},Q' () s₁->wpAny (model prog w) A (match b with|true=>PySem.rule "set.scan.the-table-gave-way" | false=>pure ()) Q' E s₁:=
   λb s₁ Q' hq=>by cases b<;>first|exact X4 hq|exact wpAny_rule hq
  have l1:=layNew_perm t es ((PySem.strKind prog w).hash k) (.str k tk);have l2:=layNew_fits t es ((PySem.strKind prog w).hash k) (.str k tk);obtain⟨l3,l4⟩:=vjx t es ((PySem.strKind prog w).hash k) (.str k tk);generalize layNew t es ((PySem.strKind prog w).hash k) (.str k tk)=V at l1 l2 l3 l4 ⊢;obtain⟨da,t1,wd,gv⟩:=V;dsimp only at l1 l2 l3 l4 ⊢;rw[Array.toList_push]at l1;have ni:ElemsOf (PySem.strKind prog w) da.toList:=(hk.el.push jp rfl).perm l1;have hz1:da.size=ls.length+1:=by rw[<-Xp,l1.length_eq,Xi,Xp,hsz];rfl
  have hp1:(XX da.toList).Perm (ls++[k]):=by
   refine(l1.map λe=>strOf e.2).trans ?_;rw[Yd];exact hp.append (List.Perm.refl _)
  refine X0 (hgw _ ?_)
  split
  ·refine X0 ?_;rw[hashByValue_scannable 8 rfl];refine X4 ?_;refine tail ?_ ho hk.d hk.ex ni (by rw[hz1];exact hl) (SetTable.fits_plain_off l2) (l3.trans hk.led) rfl hp1 λh' a1 a2=>?_
   ·intro b s₁ Q' hq;cases b<;>first|exact X4 hq|exact wpAny_rule hq
   ·exact X4 (h true h' a1 a2)
  ·rename_i bn;refine X0 (X4 ?_);refine tail ?_ ho hk.d hk.ex ni (by rw[hz1];exact hl) l2 (l3.trans hk.led) (show t1.plain=false from Bool.eq_false_iff.mpr bn) hp1 λh' a1 a2=>?_
   ·intro b s₁ Q' hq;cases b<;>first|exact X4 hq|exact wpAny_rule hq
   ·exact X4 (h true h' a1 a2)
def dd(ss:List Str):List Str:=ss.foldl step_dedup []
theorem vk9{ss:List Str}{i:Nat}{x:Str}(h:ss[i]?=some x):dd (ss.take (i+1))=step_dedup (dd (ss.take i)) x:=by
 obtain⟨hl,e⟩:=List.getElem?_eq_some_iff.mp h;unfold dd;rw[List.take_succ,h,List.foldl_append];rfl
theorem vx8(ss:List Str):(dd ss).length<=ss.length:=foldl_step_dedup_nil_length_le ss
theorem qjz:∀{vs:List Value} {ss:List Str},StrsAre vs ss->∀(i:Nat) (v:Value),vs[i]?=some v->∃x t,v=.str x t/\ss[i]?=some x
 |_,_,.nil,i,v,h=>by cases i<;>cases h
 |_,_,.cons x t r,0,v,h=>by cases oq9 h;exact⟨x,t,rfl,rfl⟩
 |_,_,.cons x t r,i+1,v,h=>qjz r i v h
theorem kq3:∀{vs:List Value} {ss:List Str},StrsAre vs ss->vs.length=ss.length
 |_,_,.nil=>rfl
 |_,_,.cons x t r=>congrArg (· + 1) (kq3 r)
theorem Has.same{h h':Heap}{a:Addr}{ls:List Str}(x:Has prog w h a ls)(e:∀o,h.get? a=some o->h'.get? a=some o):Has prog w h' a ls:=by
 obtain⟨o,es,ep,t,ho,r⟩:=x;exact⟨o,es,ep,t,e _ ho,r⟩
theorem loop{R:Result->Shared->Prop}{I:Addr}{fp wr:List Addr}{G:Array GenState->Array GenState->Prop}{n:Nat}{P:Nat->Value->Prop}{St:Nat->Shared->Prop}(W:WalksS prog w A.in1 I fp wr G n P St)(S:Addr)(o9:S∉fp)
  {ss:List Str} (hn:ss.length=n) (lu:∀i v,P i v->∃x t,v=.str x t/\ss[i]?=some x) (hb:n+1<scanBound):∀(k i:Nat) (s:Shared),n - i=k->i<=n->St i s->Has prog w s.heap S (dd (ss.take i)) ->
   (∀s',Moved (S::wr) G s s'->Has prog w s'.heap S (dd ss)->R (.ok (.ret .none)) s')->codeAny (model prog w) A (.builtin "set.update.loop" ⟨[.ref S,.ref I],[]⟩) R s:=by
 have hSw:S∉wr:=λh=>o9 (W.sub _ h)
 have fk:∀b∈wr,b∈S::wr:=λb hb=>lc9 _ hb
 intro k
 induction k with
 | zero=>
  intro i s hk hi bo hS hR;cases(show i=n by lia);refine Yy F.entry_set_update_loop ?_;rw[Around.under_plainId F.plain_set_update_loop _];show wpAny _ A.in1 (pyNext (.ref I) >>= _) _ _ s;refine X0 (W.done s _ _ bo λs' hm=>?_);refine X4 (hR s' (hm.mono fk) ?_);rw[<-hn,List.take_length]at hS;exact hS.same λo e=>hm.heap S _ hSw e
 | succ k ih=>
  intro i s hk hi bo hS hR;refine Yy F.entry_set_update_loop ?_;rw[Around.under_plainId F.plain_set_update_loop _];show wpAny _ A.in1 (pyNext (.ref I) >>= _) _ _ s;refine X0 (W.item i s _ _ (by lia) bo λv s' hP hst' hm=>?_);obtain⟨x,t,rfl,hx⟩:=lu i v hP;have im:Has prog w s'.heap S (dd (ss.take i)):=hS.same λo e=>hm.heap S _ hSw e
  show wpAny _ A.in1 (holding [Value.str x t] (setAdd S (.str x t)) >>= _) _ _ s';refine X0 (Yb ?_);unfold setAdd;refine Yb ?_;refine X0 ((PySem.strKind prog w).pyHash (k:=x) (strKind_is _ _ _ _) ?_);have gm:(dd (ss.take i)).length+1<scanBound:=by have:=vx8 (ss.take i);rw[Y9]at this;lia
  refine add im gm λb h' a1 a2=>?_
  rw[<-vk9 hx]at a2;refine X4 ⟨plainId_quiet F.plain_set_update_loop _,ih (i+1) _ (by lia) (by lia) (W.frame _ s' _ _ hst' (Nat.le_succ _) λb hb o e=>?_) a2 λj' hm'' hS''=>?_⟩
  ·rw[a1.2 b (λh:b=S=>o9 (by rw[<-h];exact hb))];exact e
  ·refine hR j' (Moved.trans W.gtrans ((hm.mono fk).then_heap (Nat.le_succ _) λb o hb e=>?_) hm'') hS'';rw[a1.2 b (λh:b=S=>hb (by rw[h];exact X3))];exact e
def fresh(w:World):Obj:={ cls:=.type "set",dict:=none,data:=.set #[] 0 (.fresh 0 0 (!tx w)) }
theorem qv0{h:Heap}{a:Addr}(e:h.get? a=some (fresh w)):Has prog w h a []:=
 ⟨_,#[],0,.fresh 0 0 (!tx w),e,⟨⟨rfl,rfl,rfl⟩,rfl,(λe he=>nomatch he),by decide,by rfl,rfl,.inr rfl⟩,.refl _⟩
theorem made(a:Value){Q₁:Value->Shared->Prop}(h:Q₁ (.ref s.heap.objs.size) { s with heap:=s.heap.push (fresh w) }):
  codeAny (model prog w) A (.call (.builtin "set.__new__") ⟨[.type "set",a],[]⟩) (wants Q₁ E) s:=by
 refine codeAny_of_tree ?_;show wpAny _ A.in1 (do checkBuiltinCall "set.__new__" ⟨[.type "set",a],[]⟩;again (.builtin "set.__new__" ⟨[.type "set",a],[]⟩)) _ _ s;refine X0 (wpAny_of_eq (F.newCall_set_1 a) (X4 ⟨plainId_quiet F.plain_set_new _,Yy F.entry_set_new ?_⟩));rw[Around.under_plainId F.plain_set_new _];unfold Builtin.«set.__new__» Builtin.Frozenset.newClass;have fk:=sub_set_self;obtain⟨hp,g,d,tk,os⟩:=s;dsimp only
 wp_walk
 refine Z3 (X4 ?_);dsimp only;simp only[newObj];refine X0 (wpAny_alloc (X4 ?_));exact X4 h
set_option maxHeartbeats 8000000 in
theorem qxg{l:Addr}{items:Array Value}{ss:List Str}{Q:Value->Shared->Prop}(hh:A.handled=none)(hl:s.heap.IsList l items)(hi:StrsAre items.toList ss)(hb:items.size+1<scanBound)
  (h:∀(h':Heap) (tk:Nat),Has prog w h' s.heap.objs.size (dd ss)->(∀b o,b<s.heap.objs.size->s.heap.get? b=some o->h'.get? b=some o)->Q (.ref s.heap.objs.size) { s with heap:=h',toks:=tk }):
  wpAny (model prog w) A (call (.type "set") [.ref l]) Q E s:=by
 obtain⟨c,tl,hmro⟩:=F.called_set.mro;have nj:=F.called_set.made;have fk:=F.called_set.sub;refine wpAny_call (codeAny_of_tree ?_);show wpAny _ _ (callAny (.type "set") _) _ _ _;refine X4 ⟨Code.quiet_builtin _ (by decide +kernel),Yy F.entry_type_call ?_⟩;rw [Around.under_plain (weight_type_call_type "set" [.ref l] []) rfl];have h1:=F.called_set.notType;have h2:=F.called_set.canCreate;have hct:=F.typeCall_set_1 (.ref l)
 repeat (any_goals (first|assumption|wp_step))
 refine codeAny_mono (made (.ref l) (E:=E) (Q₁:=λobj s₁=>obj=.ref s.heap.objs.size/\s₁={ s with heap:=s.heap.push (fresh w) }) ⟨rfl,rfl⟩) λr s₁ hr=>?_
 cases r with
 | error e=>exact hr
 | ok fl=>
 cases fl with
 | ret obj=>
  obtain⟨rfl,rfl⟩:=hr;have hS:(s.heap.push (fresh w)).get? s.heap.objs.size=some (fresh w):=X9 _ rfl;have hT:Shared.TypeIs { s with heap:=s.heap.push (fresh w) } (.ref s.heap.objs.size) "set":=⟨_,hS,rfl⟩;have hli:=F.called_set.init.lookup;have hbi:=F.called_set.init.bind (.ref s.heap.objs.size)
  repeat (any_goals (first|assumption|wp_step))
  refine codeAny_mono (codeAny_call_builtin (R:=wants (λr s₂=>r=.none/\∃h' tk,s₂={ s with heap:=h',toks:=tk }/\Has prog w h' s.heap.objs.size (dd ss) /\
    (∀b o,b<s.heap.objs.size->s.heap.get? b=some o->h'.get? b=some o)) E) F.called_set.init.plain F.entry_set_init (check_set_init_1 hT ?_)) λr₂ s₂ me=>?_
  ·obtain⟨ol,oe,de,nl,np⟩:=hl;obtain⟨ocls,jm,pe,gj⟩:=ol;simp only at de np;subst de;subst np;have lx:(s.heap.push (fresh w)).get? l=some { cls:=.type "list",dict:=jm,data:=.seq items nl,slots:=gj }:=X2 _ oe;have hsls:=F.sub_list_set;have hslf:=F.sub_list_frozenset;have en:(Value.type "list" == Value.type "dict")=false:=by decide
   have qy:(s.heap.push (fresh w)).IsList l items:=⟨_,lx,rfl,nl,rfl⟩;have oj:l<s.heap.objs.size:=Xe oe;have jf:({ cls:=.type "set",dict:=none,data:=.set #[] 0 (.fresh 0 0 (!tx w)) }:Obj)=fresh w:=rfl;unfold Builtin.«set.__init__» noKeywords Builtin.Frozenset.updateFrom;generalize hPI:pyIter=PI
   wp_walk
   subst hPI;refine wpAny_pyIter_list qy ?_;refine X0 (wpAny_runValue ?_);have hh3:A.in1.in1.in1.handled=none:=by simp[hh]
   have hsz:(s.heap.push (fresh w)).objs.size=s.heap.objs.size+1:=Heap.size_push ..;refine loop ((Walks.list hh3 _ l (by rw[hsz];exact Xn (Z0 oj)) items).toS) s.heap.objs.size (by rw[hsz];simp only[Xr,Xk,or_false,not_or];exact⟨Xn (Nat.lt_succ_self _),Nat.ne_of_gt oj⟩) (ss:=ss) ?_ (λi v hv=>qjz hi i v (by rw[Yi];exact hv)) hb (items.size - 0) 0 _ (by lia) (Z5 _)
    ⟨⟨_,X9 _ rfl,rfl,rfl⟩,qy.push _⟩ ?_ ?_
   ·rw[<-kq3 hi,Xp]
   ·exact qv0 (X2 _ hS)
   ·intro s' hm im;obtain⟨h',g',d',tk',qc⟩:=s';have eg:g'=s.gens:=hm.gens;have ed:d'=s.drawn:=hm.drawn;have eo:qc=s.os:=hm.os;subst eg;subst ed;subst eo;show wpAny _ _ _ _ _ _;refine X4 ?_;show wpAny _ _ (ret Value.none) _ _ _;refine X4 ⟨rfl,h',tk',rfl,im,λb o hb e=>?_⟩;exact hm.heap b o (by simp only[Xr,Xk,or_false,not_or];rw[hsz];exact⟨Xn hb,Xn (Z0 hb)⟩) (X2 _ (X2 _ e))
  ·cases r₂ with
   | error e=>exact me
   | ok fl₂=>
    cases fl₂ with
    |ret r=>
     obtain⟨rfl,h',tk,rfl,im,hk'⟩:=me
     repeat (any_goals (first|assumption|wp_step))
     exact h _ _ im hk'
    |_=>exact me.elim
 |_=>exact hr.elim
end
theorem slot_next:Slot "set_iterator" "__next__" "set_iterator.__next__" :=
 .of (owner:="set_iterator") (n:="__next__") (by rw[typeLookup_type,builtinLookup_eq_fast];kernel_rfl) (by decide +kernel) (by decide +kernel) (by decide +kernel)
  (by first|exact .inl (by decide +kernel)|exact .inr (by decide +kernel)) (by rw[isSubtype_type];kernel_rfl)
theorem kvb:Slot "set_iterator" "__iter__" "set_iterator.__iter__" :=
 .of (owner:="set_iterator") (n:="__iter__") (by rw[typeLookup_type,builtinLookup_eq_fast];kernel_rfl) (by decide +kernel) (by decide +kernel) (by decide +kernel)
  (by first|exact .inl (by decide +kernel)|exact .inr (by decide +kernel)) (by rw[isSubtype_type];kernel_rfl)
theorem jwn:entryFor table "set_iterator.__next__"=some Builtin.«set_iterator.__next__»:=entryFor_of_tree (by kernel_rfl)
theorem qji:entryFor table "set_iterator.__iter__"=some Builtin.«dict_keyiterator.__iter__»:=entryFor_alias (id':="dict_keyiterator.__iter__") (by kernel_rfl) rfl (by decide +kernel) (by kernel_rfl)
theorem qjj:entryFor table "set.__iter__"=some Builtin.«frozenset.__iter__»:=entryFor_alias (id':="frozenset.__iter__") (by kernel_rfl) rfl (by decide +kernel) (by kernel_rfl)
theorem jz5(a:Value):argsOk "set_iterator.__next__" ⟨[a],[]⟩:=by unfold argsOk;kernel_rfl
theorem qvx(a:Value):argsOk "set_iterator.__iter__" ⟨[a],[]⟩:=by unfold argsOk;kernel_rfl
theorem qvy(a:Value):argsOk "set.__iter__" ⟨[a],[]⟩:=by unfold argsOk;kernel_rfl
section
variable {prog:Program}{w:World}{A:Around}{E:Value->Shared->Prop}{s:Shared}
theorem vx9{src:Source}{n:Nat}{Q:Nat->Shared->Prop}(hn:n≠0)(h:∀i d,i<n->Q i { s with drawn:=d }):wpAny (model prog w) A (choose src n) Q E s:=
 λ_ _ _=>⟨hn,h _ _ (Nat.mod_lt _ (Nat.pos_of_ne_zero hn))⟩
theorem XQ{α:Type}:∀{l:List α} {i:Nat} (h:i<l.length),(l[i]::l.eraseIdx i).Perm l
 |a::l,0,h=>List.Perm.refl _
 |a::l,i+1,h=>by
  have hi:i<l.length:=Nat.lt_of_succ_lt_succ h;exact(List.Perm.swap a (l[i]'hi) _).trans ((XQ hi).cons a)
theorem drawn{α:Type}:∀(n:Nat) (xs:List α) (s:Shared) {Q:List α->Shared->Prop},xs.length=n->(∀ys d,ys.Perm xs->Q ys { s with drawn:=d })->wpAny (model prog w) A (drawOrder n xs) Q E s
 | 0,xs,s,Q,hl,h=>by
  cases xs with
  |nil=>exact X4 (h [] s.drawn (.refl _))
  |cons=>cases hl
 | n+1,xs,s,Q,hl,h=>by
  cases xs with
  |nil=>cases hl
  |cons x xs=>
   unfold drawOrder;refine X0 (vx9 (by simp) λi d hi=>?_);rw[X1 hi];refine X0 (drawn n _ _ (by rw[List.length_eraseIdx,Xf hi];exact Nat.succ.inj hl) λys d' hp=>?_);exact X4 (h _ d' ((hp.cons _).trans (XQ hi)))
theorem qkr{α:Type}(f:Nat->Nat):∀(n k:Nat) (l:List α) (out:Array α),l.length=n->(pickOrder.go f n k l out).toList.Perm (out.toList++l)
 |0,k,l,out,hl=>by
  cases l with
  |nil=>unfold pickOrder.go;simp
  |cons=>cases hl
 |n+1,k,l,out,hl=>by
  have hi:f k % l.length<l.length:=Nat.mod_lt _ (by lia);unfold pickOrder.go;rw[X1 hi];refine(qkr f n (k+1) _ _ (by rw[List.length_eraseIdx,Xf hi];lia)).trans ?_;rw[Array.toList_push,Xm];exact(List.Perm.refl _).append (XQ hi)
theorem kvj{α:Type}(f:Nat->Nat)(xs:Array α):(pickOrder f xs).toList.Perm xs.toList:=by
 unfold pickOrder;exact qkr f _ 0 _ #[] (by simp)
end
section
variable {prog:Program}{w:World}{A:Around}{E:Value->Shared->Prop}{s:Shared}
noncomputable def It(h:Heap)(I a:Addr)(f:Value)(i n ep:Nat):Prop:=∃o,h.get? I=some o/\o.cls=.type "set_iterator"/\o.data=.fields #[f,.int i 0,.ref a,.int n 0,.int ep 0]
theorem It.at'{h h':Heap}{I a:Addr}{f:Value}{i n ep:Nat}(x:It h I a f i n ep)(e:∀o,h.get? I=some o->h'.get? I=some o):It h' I a f i n ep:=by
 obtain⟨o,ho,r⟩:=x;exact⟨o,e _ ho,r⟩
noncomputable def Stn(h:Heap)(a:Addr)(n ep:Nat):Prop:=∃o es t,h.get? a=some o/\o.data=.set es ep t/\t.fits es.size=true/\es.size=n
theorem qk7{I a:Addr}{f:Value}{i n ep:Nat}{Q:Value->Shared->Prop}(gu:It s.heap I a f i n ep)(h:Q (.ref I) s):wpAny (model prog w) A (pyIter (.ref I)) Q E s:=by
 obtain⟨o,ho,hc,hd⟩:=gu;have hT:s.TypeIs (.ref I) "set_iterator":=⟨o,ho,hc⟩;refine wpAny_pyIter_slot hT kvb (Yf kvb hT qji ?_ (qvx _));show wpAny _ _ (ret (.ref I)) _ _ s;exact X4 ⟨_,rfl,"set_iterator",_,hT,slot_next.lookup,h⟩
theorem vwr{I a:Addr}{sl nx i n ep:Nat}{v:Value}{Q:Option Value->Shared->Prop}(gu:It s.heap I a (.int sl 0) i n ep)(hs:Stn s.heap a n ep)
  (hN:∀(A':Around) (E':Value->Shared->Prop) (R:Option (Value×Nat)->Shared->Prop),R (some (v,nx)) s->wpAny (model prog w) A' (setNext a sl i ep) R E' s)
  (hQ:∀h',It h' I a (.int nx 0) (i+1) n ep->Heap.SameBut I s.heap h'->Q (some v) { s with heap:=h' }):wpAny (model prog w) A (pyNext (.ref I)) Q E s:=by
 obtain⟨o,ho,hc,hd⟩:=gu;obtain⟨os,es,t,ii,ip,hf,hn⟩:=hs;have hT:s.TypeIs (.ref I) "set_iterator":=⟨o,ho,hc⟩;unfold pyNext;refine X0 (wpAny_attempt (Yt (name:=Str.ofString "__next__") hT slot_next (Yf slot_next hT jwn ?_ (jz5 _))));show wpAny _ _ (fieldsOf (.ref I) >>= _) _ _ s;refine X0 (wpAny_fieldsOf ho hd ?_);show wpAny _ _ (setEntries a >>= _) _ _ s;refine X0 (wpAny_setEntries_of ii ip hf ?_);rw[Xj (by rw[hn];simp)];show wpAny _ _ (setNext a ((sl:Int)).toNat ((i:Int)).toNat ((ep:Int)).toNat >>= _) _ _ s;rw[Xv,Xv,Xv];refine X0 (hN _ _ _ ?_);refine X0 (Yq ho hd (by simp) ?_);have mw:=Obj.data_mapFields hd (·.setIfInBounds 0 (rawInt nx));have io:=Y2 (Obj.mapFields (·.setIfInBounds 0 (rawInt nx))) ho (Obj.isFreed_of_fields mw);refine X0 (Yq io mw (by simp) (X4 ⟨v,rfl,X4 (hQ _ ?_ ((Yg ..).trans (Yg ..)))⟩));have gi:=Obj.data_mapFields mw (·.setIfInBounds 1 (rawInt (i+1)));refine⟨_,Y2 _ io (Obj.isFreed_of_fields gi),(Obj.cls_mapFields ..).trans ((Obj.cls_mapFields ..).trans hc),?_⟩;rw[gi];simp[rawInt]
theorem vwq{I a T:Addr}{i n ep:Nat}{v:Value}{pl:List Nat}{p:Nat}{Q:Option Value->Shared->Prop}(gu:It s.heap I a (.ref T) i n ep)(hs:Stn s.heap a n ep)(hT':∃o k,s.heap.get? T=some o/\o.data=.seq (pl.map λ(j:Nat)=>rawInt j).toArray k)
  (hp:pl[i]?=some p)
  (hN:∀(A':Around) (E':Value->Shared->Prop) (R:Value->Shared->Prop),R v s->wpAny (model prog w) A' (setNextDrawn a p ep) R E' s)
  (hQ:∀h',It h' I a (.ref T) (i+1) n ep->Heap.SameBut I s.heap h'->Q (some v) { s with heap:=h' }):wpAny (model prog w) A (pyNext (.ref I)) Q E s:=by
 obtain⟨o,ho,hc,hd⟩:=gu;obtain⟨os,es,t,ii,ip,hf,hn⟩:=hs;obtain⟨oT,kT,hoT,my⟩:=hT';have hT:s.TypeIs (.ref I) "set_iterator":=⟨o,ho,hc⟩;unfold pyNext;refine X0 (wpAny_attempt (Yt (name:=Str.ofString "__next__") hT slot_next (Yf slot_next hT jwn ?_ (jz5 _))));show wpAny _ _ (fieldsOf (.ref I) >>= _) _ _ s;refine X0 (wpAny_fieldsOf ho hd ?_);show wpAny _ _ (setEntries a >>= _) _ _ s;refine X0 (wpAny_setEntries_of ii ip hf ?_);rw[Xj (by rw[hn];simp)];show wpAny _ _ (seqItems? (.ref T) >>= _) _ _ s;refine X0 (wpAny_seqItems hoT my ?_);have hg:(pl.map λ(j:Nat)=>rawInt j).toArray[((i:Int)).toNat]?=some (.int p 0):=by
  rw[Xv,List.getElem?_toArray,Xu,hp];rfl
 dsimp only;rw[hg];show wpAny _ _ (setNextDrawn a ((p:Int)).toNat ((ep:Int)).toNat >>= _) _ _ s;rw[Xv,Xv];refine X0 (hN _ _ _ ?_);have gi:=Obj.data_mapFields hd (·.setIfInBounds 1 (rawInt (i+1)));refine X0 (Yq ho hd (by simp) (X4 ⟨v,rfl,X4 (hQ _ ?_ (Yg ..))⟩));refine⟨_,Y2 _ ho (Obj.isFreed_of_fields gi),(Obj.cls_mapFields ..).trans hc,?_⟩;rw[gi];simp[rawInt]
theorem wjn{I a:Addr}{sl i n ep:Nat}{Q:Option Value->Shared->Prop}(hh:A.handled=none)(gu:It s.heap I a (.int sl 0) i n ep)(hs:Stn s.heap a n ep)
  (hN:∀(A':Around) (E':Value->Shared->Prop) (R:Option (Value×Nat)->Shared->Prop),R none s->wpAny (model prog w) A' (setNext a sl i ep) R E' s)
  (hQ:∀h',Heap.ExtBut I s.heap h'->Q none { s with heap:=h' }):wpAny (model prog w) A (pyNext (.ref I)) Q E s:=by
 obtain⟨o,ho,hc,hd⟩:=gu;obtain⟨os,es,t,ii,ip,hf,hn⟩:=hs;have hT:s.TypeIs (.ref I) "set_iterator":=⟨o,ho,hc⟩;unfold pyNext;refine X0 (wpAny_attempt (Yt (name:=Str.ofString "__next__") hT slot_next (Yf slot_next hT jwn ?_ (jz5 _))));show wpAny _ _ (fieldsOf (.ref I) >>= _) _ _ s;refine X0 (wpAny_fieldsOf ho hd ?_);show wpAny _ _ (setEntries a >>= _) _ _ s;refine X0 (wpAny_setEntries_of ii ip hf ?_);rw[Xj (by rw[hn];simp)];show wpAny _ _ (setNext a ((sl:Int)).toNat ((i:Int)).toNat ((ep:Int)).toNat >>= _) _ _ s;rw[Xv,Xv,Xv];refine X0 (hN _ _ _ ?_);refine X0 (Yq ho hd (by simp) ?_);show wpAny _ _ (newExc (.type "StopIteration") [] >>= _) _ _ _;refine X0 ?_;simp only[newExc,newTuple];refine X0 (Xy ?_ (by size_fits));refine X0 (m:=firstArgMember _ _) (wpAny_of_eq (a:=Value.none) (by first|rfl|(simp only[firstArgMember];rfl)) ?_);refine Xy ?_ (by size_fits);simp only[raiseNew];refine X0 (wpAny_handled ?_);rw[show A.in1.handled=none from hh];refine X0 (X4 (wpAny_throw ?_));refine X0 (wpAny_isInstance (T:="StopIteration") (b:=true) ⟨_,X9 _ rfl,rfl⟩ isSubtype_stop ?_);exact X4 (hQ _ (((Yg ..).extBut.push _).push _))
theorem wjm{I a T:Addr}{i n ep:Nat}{pl:List Nat}{Q:Option Value->Shared->Prop}(hh:A.handled=none)(gu:It s.heap I a (.ref T) i n ep)(hs:Stn s.heap a n ep)(hT':∃o k,s.heap.get? T=some o/\o.data=.seq (pl.map λ(j:Nat)=>rawInt j).toArray k)
  (hp:pl[i]?=none) (hQ:∀h',Heap.ExtBut I s.heap h'->Q none { s with heap:=h' }):wpAny (model prog w) A (pyNext (.ref I)) Q E s:=by
 obtain⟨o,ho,hc,hd⟩:=gu;obtain⟨os,es,t,ii,ip,hf,hn⟩:=hs;obtain⟨oT,kT,hoT,my⟩:=hT';have hT:s.TypeIs (.ref I) "set_iterator":=⟨o,ho,hc⟩;unfold pyNext;refine X0 (wpAny_attempt (Yt (name:=Str.ofString "__next__") hT slot_next (Yf slot_next hT jwn ?_ (jz5 _))));show wpAny _ _ (fieldsOf (.ref I) >>= _) _ _ s;refine X0 (wpAny_fieldsOf ho hd ?_);show wpAny _ _ (setEntries a >>= _) _ _ s;refine X0 (wpAny_setEntries_of ii ip hf ?_);rw[Xj (by rw[hn];simp)];show wpAny _ _ (seqItems? (.ref T) >>= _) _ _ s;refine X0 (wpAny_seqItems hoT my ?_);have hg:(pl.map λ(j:Nat)=>rawInt j).toArray[((i:Int)).toNat]?=none:=by
  rw[Xv,List.getElem?_toArray,Xu,hp];rfl
 dsimp only;rw[hg];have mw:=Obj.data_mapFields hd (·.setIfInBounds 0 (rawInt 0));have io:=Y2 (Obj.mapFields (·.setIfInBounds 0 (rawInt 0))) ho (Obj.isFreed_of_fields mw);refine X0 (Yq ho hd (by simp) ?_);refine X0 (Yq io mw (by simp) ?_);show wpAny _ _ (newExc (.type "StopIteration") [] >>= _) _ _ _;refine X0 ?_;simp only[newExc,newTuple];refine X0 (Xy ?_ (by size_fits));refine X0 (m:=firstArgMember _ _) (wpAny_of_eq (a:=Value.none) (by first|rfl|(simp only[firstArgMember];rfl)) ?_);refine Xy ?_ (by size_fits);simp only[raiseNew];refine X0 (wpAny_handled ?_);rw[show A.in1.handled=none from hh];refine X0 (X4 (wpAny_throw ?_));refine X0 (wpAny_isInstance (T:="StopIteration") (b:=true) ⟨_,X9 _ rfl,rfl⟩ isSubtype_stop ?_);exact X4 (hQ _ ((((Yg ..).trans (Yg ..)).extBut.push _).push _))
end
section
variable {prog:Program}{w:World}{A:Around}{E:Value->Shared->Prop}{s:Shared}
theorem qjr(hh:A.handled=none)(I a:Addr)(en:a≠I){o:Obj}{es:Array (Int×Value)}{ep:Nat}{t:SetTable}(hd:o.data=.set es ep t)(hf:t.fits es.size=true){bz:List Value}(hl:bz.length=es.size)(sl:Nat->Nat)
  (hN:∀(i:Nat) (s:Shared) (A':Around) (E':Value->Shared->Prop) (R:Option (Value×Nat)->Shared->Prop),s.heap.get? a=some o->i<=es.size->R (bz[i]?.map λv=>(v,sl (i+1))) s->wpAny (model prog w) A' (setNext a (sl i) i ep) R E' s):
  Walks prog w A I [I,a] [I] es.size (λi v=>bz[i]?=some v) (λi h=>It h I a (.int (sl i) 0) i es.size ep/\h.get? a=some o) where
 sub:=λb hb=>by simp at hb;simp[hb]
 frame:=λ_ _ _ st hk=>⟨st.1.at' λo e=>hk I (by simp) o e,hk a (by simp) _ st.2⟩
 item:=λi s Q E hi st hQ=>by
  have hv:bz[i]?=some (bz[i]'(by lia)):=X1 _;refine vwr (nx:=sl (i+1)) (v:=bz[i]'(by lia)) st.1 ⟨o,es,t,st.2,hd,hf,rfl⟩ (λA' E' R hR=>hN i s A' E' R st.2 (Nat.le_of_lt hi) (by rw[hv];exact hR)) λh' ma gs=>?_
  exact hQ _ h' s.toks hv ⟨ma,(gs.extBut a o en st.2)⟩ λb o hb e=>gs.extBut b o (λh=>hb (by simp[h])) e
 done:=λs Q E st hQ=>by
  refine wjn hh st.1 ⟨o,es,t,st.2,hd,hf,rfl⟩ (λA' E' R hR=>hN es.size s A' E' R st.2 (Xd _) (by rw[Yj (by lia)];exact hR)) λh' he=>?_
  exact hQ h' s.toks λb o hb e=>he b o (λh=>hb (by simp[h])) e
 self:=λ_ _ _ _ st hQ=>qk7 st.1 hQ
theorem qzi(hh:A.handled=none)(I a T:Addr)(en:a≠I)(hneT:T≠I){o oT:Obj}{es:Array (Int×Value)}{ep k:Nat}{t:SetTable}(hd:o.data=.set es ep t)(hf:t.fits es.size=true){pl:List Nat}(hp:pl.Perm (List.range es.size))(my:oT.data=.seq (pl.map λ(j:Nat)=>rawInt j).toArray k):
  Walks prog w A I [I,a,T] [I] es.size (λi v=>(pl.map λj=>(es.getD j (0,.none)).2)[i]?=some v) (λi h=>It h I a (.ref T) i es.size ep/\h.get? a=some o/\h.get? T=some oT) where
 sub:=λb hb=>by simp at hb;simp[hb]
 frame:=λ_ _ _ st hk=>⟨st.1.at' λo e=>hk I (by simp) o e,hk a (by simp) _ st.2.1,hk T (by simp) _ st.2.2⟩
 item:=λi s Q E hi st hQ=>by
  have aj:pl.length=es.size:=by rw[hp.length_eq,Yu]
  have hv:pl[i]?=some (pl[i]'(by lia)):=X1 _;have dm:pl[i]'(by lia)<es.size:=List.mem_range.mp (hp.mem_iff.mp (Y6 _));refine vwq (p:=pl[i]'(by lia)) (v:=(es.getD (pl[i]'(by lia)) (0,.none)).2) st.1 ⟨o,es,t,st.2.1,hd,hf,rfl⟩ ⟨oT,k,st.2.2,my⟩ hv (λA' E' R hR=>?_) λh' ma gs=>?_
  ·unfold setNextDrawn;refine X0 (Yz st.2.1 hd hf ?_);dsimp only;rw[Xj (by simp),Array.getElem?_eq_getElem dm];refine X4 ?_;rw[Array.getD_eq_getD_getElem?,Array.getElem?_eq_getElem dm]at hR;exact hR
  ·exact hQ _ h' s.toks (by rw[Xu,hv];rfl) ⟨ma,(gs.extBut a o en st.2.1),(gs.extBut T oT hneT st.2.2)⟩ λb o hb e=>gs.extBut b o (λh=>hb (by simp[h])) e
 done:=λs Q E st hQ=>by
  have aj:pl.length=es.size:=by rw[hp.length_eq,Yu]
  refine wjm hh st.1 ⟨o,es,t,st.2.1,hd,hf,rfl⟩ ⟨oT,k,st.2.2,my⟩ (Yj (by lia)) λh' he=>?_
  exact hQ h' s.toks λb o hb e=>he b o (λh=>hb (by simp[h])) e
 self:=λ_ _ _ _ st hQ=>qk7 st.1 hQ
theorem qq6(kh:tx w=true){a:Addr}{o:Obj}{es:Array (Int×Value)}{ep:Nat}{t:SetTable}(hd:o.data=.set es ep t)(hf:t.fits es.size=true):
  ∀(i:Nat) (s:Shared) (A':Around) (E':Value->Shared->Prop) (R:Option (Value×Nat)->Shared->Prop),s.heap.get? a=some o->i<=es.size->R (((pickOrder (w.params.setOrder a ep) es).toList.map (·.2))[i]?.map λv=>(v,0)) s->wpAny (model prog w) A' (setNext a 0 i ep) R E' s:=by
 intro i s A' E' R ho hi hR;unfold setNext;refine X0 (Yz ho hd hf ?_);unfold setsByText;refine X0 (X0 (Z3 (X4 ?_)));show wpAny _ _ (if tx w=true then _ else _) _ _ _;rw[Xf kh];rw[Xj (by simp)];unfold setWalk;refine X0 (X0 (Yz ho hd hf ?_));unfold setsByText;refine X0 (X0 (Z3 (X4 ?_)));show wpAny _ _ (if tx w=true then _ else _) _ _ _;rw[Xf kh];refine X0 (Z3 (X4 ?_));refine X4 ?_;rw[Xu,Yi,Option.map_map]at hR;exact hR
end
section
variable {prog:Program}{w:World}{A:Around}{E:Value->Shared->Prop}{s:Shared}
theorem qv5{t:SetTable}{n:Nat}(h:t.fits n=true):t.place.size=n:=by
 simp only[SetTable.fits,Bool.and_eq_true,beq_iff_eq]at h;exact h.1
def sl1(t:SetTable)(i:Nat):Nat:=if i=0 then 0 else t.place.getD 0 0+1
theorem qwy(kh:tx w=false){a:Addr}{o:Obj}{es:Array (Int×Value)}{ep:Nat}{t:SetTable}(hk:Ok prog w o es ep t)(h1:es.size<=1):
  ∀ (i:Nat) (s:Shared) (A':Around) (E':Value->Shared->Prop) (R:Option (Value×Nat)->Shared->Prop),s.heap.get? a=some o->i<=es.size->R ((es.toList.map (·.2))[i]?.map λv=>(v,sl1 t (i+1))) s->wpAny (model prog w) A' (setNext a (sl1 t i) i ep) R E' s:=by
 intro i s A' E' R ho hi hR;have hsz:=qv5 hk.f;unfold setNext;refine X0 (Yz ho hk.d hk.f ?_);unfold setsByText;refine X0 (X0 (Z3 (X4 ?_)));show wpAny _ _ (if tx w=true then _ else _) _ _ _;rw [Xj (by rw[kh];decide)];show wpAny _ _ (if(!t.plain&&decide (es.size>1))=true then _ else _) _ _ _;rw [Xj (by rw[Xb (by lia)];simp)];show wpAny _ _ ((if(!t.led && !es.isEmpty)=true then _ else pure ()) >>= _) _ _ _;rw [Xj (by rw[hk.led,kh];simp)];refine X0 (X4 ?_);refine X4 ?_;obtain⟨es⟩:=es;obtain⟨cq,⟨pl⟩,du,fi,le,mo,pln⟩:=t;cases es with
 | nil=>
  cases pl with
  | nil=>
   have hi0:i=0:=by simpa using hi
   subst hi0;exact hR
  | cons=>cases hsz
 | cons e es=>
  cases es with
  | cons=>exact absurd h1 (by simp)
  | nil=>
   cases pl with
   | nil=>cases hsz
   | cons p pl=>
    cases pl with
    | cons=>cases hsz
    | nil=>
     have hb0:SetTable.below #[p] 0=0:=by
      show SetTable.below.go #[p] 0 1 0 1=0;unfold SetTable.below.go;rw[Xf (by decide),Xj (by simp)];rfl
     have hb1:SetTable.below #[p] (p+1)=1:=by
      show SetTable.below.go #[p] (p+1) 1 0 1=1;unfold SetTable.below.go;rw[Xf (by decide),Xf (by simp)];rfl
     rcases(show i=0\/i=1 by have:i<=1:=hi;lia)with rfl|rfl
     ·show R (match (#[e]:Array (Int×Value))[SetTable.below #[p] 0]?,(#[p]:Array Nat)[SetTable.below #[p] 0]? with|some (_,x),some j=>some (x,j+1)|_,_=>none) s;rw[hb0];exact hR
     ·show R (match (#[e]:Array (Int×Value))[SetTable.below #[p] (p+1)]?,(#[p]:Array Nat)[SetTable.below #[p] (p+1)]? with|some (_,x),some j=>some (x,j+1)|_,_=>none) s;rw[hb1];exact hR
theorem qjt{es:Array (Int×Value)}{pl:List Nat}(hp:pl.Perm (List.range es.size)):(pl.map λj=>(es.getD j (0,.none)).2).Perm (es.toList.map (·.2)):=by
 refine(hp.map _).trans (.of_eq ?_);apply List.ext_getElem
 ·simp
 ·intro i h1 h2;simp at h1;simp[Array.getD_eq_getD_getElem?,h1]
end
section
variable {prog:Program}{w:World}{A:Around}{E:Value->Shared->Prop}{s:Shared}
theorem qxc{a:Addr}{o:Obj}{es:Array (Int×Value)}{ep:Nat}{t:SetTable}(ho:s.heap.get? a=some o)(hk:Ok prog w o es ep t){Q:Bool->Shared->Prop}(h:Q (!tx w&&(!t.plain&&decide (es.size>1))) s):wpAny (model prog w) A (setDrawn a) Q E s:=by
 unfold setDrawn;refine X0 (Yz ho hk.d hk.f ?_);unfold setsByText;refine X0 (X0 (Z3 (X4 ?_)));exact X4 h
theorem vk0{a:Addr}{o:Obj}{es:Array (Int×Value)}{ep:Nat}{t:SetTable}{Q:Value->Shared->Prop}(ho:s.heap.get? a=some o)(hk:Ok prog w o es ep t)
  (h:∀(h':Heap) (d:Drawn) (I:Addr) (fp:List Addr) (bz:List Value) (St:Nat->Heap->Prop),(∀b o,s.heap.get? b=some o->h'.get? b=some o)->s.heap.objs.size<=I->(∀b∈fp,b=a\/s.heap.objs.size<=b) ->
   (∀A':Around,A'.handled=none->Walks prog w A' I fp [I] es.size (λi v=>bz[i]?=some v) St)->St 0 h'->bz.Perm (es.toList.map (·.2))->Q (.ref I) { s with heap:=h',drawn:=d }):wpAny (model prog w) A (pyIter (.ref a)) Q E s:=by
 have hT:s.TypeIs (.ref a) "set":=⟨o,ho,hk.ex.1⟩;have ku:a<s.heap.objs.size:=Xe ho;refine wpAny_pyIter_slot hT F.slot_set_iter (Yf F.slot_set_iter hT qjj ?_ (qvy _));unfold Builtin.«frozenset.__iter__» Builtin.Frozenset.slot0 slotArgs;simp only[List.isEmpty_nil,Bool.not_true,Bool.false_eq_true,↓reduceIte,bind_assoc,List.length_nil,bne_self_eq_false];unfold Builtin.Frozenset.addrOf Builtin.Frozenset.sizeOf;refine X0 (X4 ?_)
 try dsimp only
 refine X0 (X4 ?_);refine X0 (X0 (wpAny_setEntries_of ho hk.d hk.f (X4 ?_)));refine X0 (qxc ho hk ?_)
 by_cases ld:(!tx w&&(!t.plain&&decide (es.size>1)))=true
 ·rw [Xf ld];refine X0 (drawn es.size _ s (by simp) λpl d hp=>?_);refine X0 (wpAny_newTuple ?_ (hsz:=by rw[X5,hp.length_eq,Yu];exact fits_of_scanBound hk.b));refine X0 (wpAny_setEpoch_of (X2 _ ho) hk.d hk.f ?_);refine X0 (Xy (X4 ⟨_,rfl,"set_iterator",_,⟨_,X9 _ rfl,rfl⟩,slot_next.lookup,?_⟩));have hsz:(s.heap.push (seqObj "tuple" (pl.map λ(i:Nat)=>rawInt i).toArray 0)).objs.size=s.heap.objs.size+1:=Heap.size_push ..;refine h _ d _ [_,a,s.heap.objs.size] (pl.map λj=>(es.getD j (0,.none)).2) _ (λb o e=>X2 _ (X2 _ e)) (by rw[hsz];exact Nat.le_succ _) (λb hb=>?_)
   (λA' hh=>qzi hh _ a s.heap.objs.size (by rw[hsz];exact Xn (Z0 ku)) (by rw[hsz];exact Xn (Nat.lt_succ_self _)) (o:=o) (oT:=seqObj "tuple" (pl.map λ(i:Nat)=>rawInt i).toArray 0) hk.d hk.f hp rfl)
   ⟨⟨_,X9 _ rfl,rfl,rfl⟩,X2 _ (X2 _ ho),X2 _ (X9 _ rfl)⟩ (qjt hp)
  rcases List.mem_cons.mp hb with rfl|hb
  ·exact .inr (by rw[hsz];exact Nat.le_succ _)
  rcases List.mem_cons.mp hb with rfl|hb
  ·exact .inl rfl
  ·rw[List.mem_singleton.mp hb];exact .inr (Xd _)
 ·rw [Xj ld];refine X0 (X4 ?_);refine X0 (wpAny_setEpoch_of ho hk.d hk.f ?_);refine X0 (Xy (X4 ⟨_,rfl,"set_iterator",_,⟨_,X9 _ rfl,rfl⟩,slot_next.lookup,?_⟩));have hfp:∀b∈[s.heap.objs.size,a],b=a\/s.heap.objs.size<=b:=λb hb=>by
   rcases List.mem_cons.mp hb with rfl|hb
   ·exact .inr (Xd _)
   ·exact .inl (List.mem_singleton.mp hb)
  cases kh:tx w with
  | true=>
   refine h _ s.drawn _ [_,a] ((pickOrder (w.params.setOrder a ep) es).toList.map (·.2)) _ (λb o e=>X2 _ e) (Xd _) hfp
    (λA' hh=>qjr hh _ a (Xn ku) (o:=o) hk.d hk.f (by rw[X5,(kvj _ es).length_eq,Xp]) (λ_=>0) (qq6 kh hk.d hk.f))
    ⟨⟨_,X9 _ rfl,rfl,rfl⟩,X2 _ ho⟩ ((kvj _ es).map _)
  | false=>
   have h1:es.size<=1:=by
    rcases hk.pl with hp|hp
    ·rw[kh,hp]at ld;simp at ld;exact ld
    ·lia
   refine h _ s.drawn _ [_,a] (es.toList.map (·.2)) _ (λb o e=>X2 _ e) (Xd _) hfp
    (λA' hh=>qjr hh _ a (Xn ku) (o:=o) hk.d hk.f (by rw[X5,Xp]) (sl1 t) (qwy kh hk h1))
    ⟨⟨_,X9 _ rfl,rfl,rfl⟩,X2 _ ho⟩ (.refl _)
theorem vk3{a:Addr}{Q:Bool->Shared->Prop}(hT:s.TypeIs (.ref a) "set")(h:Q false s):wpAny (model prog w) A (Builtin.List.listLengthHint (.ref a)) Q E s:=by
 unfold Builtin.List.listLengthHint;refine X0 (wpAny_specialOf hT F.slot_set_len.lookup ?_);generalize jy:("set.__len__":String)=id0
 wp_delta
 rw[show splitId id0=some ("set","__len__")from by subst jy;decide +kernel];subst jy;refine X0 (wpAny_isInstance (T:="set") (b:=true) hT sub_set_self ?_);refine wpAny_ite_split (λjo=>absurd jo (by decide)) (λ_=>?_);refine wpAny_ite_split (λ_=>?_) (λjo=>absurd (by decide +kernel) jo);refine X0 (wpAny_typeOf hT ?_);exact X4 h
theorem kq2:∀{vs:List Value},(∀v∈vs,∃x t,v=Value.str x t)->StrsAre vs (vs.map strOf)
 |[],_=>.nil
 |v::vs,h=>by
  obtain⟨x,t,rfl⟩:=h v X3;exact .cons x t (kq2 λv hv=>h v (lc9 _ hv))
theorem qjk{a:Addr}{ls:List Str}{Q:List Value->Shared->Prop}(hh:A.handled=none)(hS:Has prog w s.heap a ls)
  (h:∀(h':Heap) (d:Drawn) (tk:Nat) (vs:List Value) (ss:List Str),(∀b o,s.heap.get? b=some o->h'.get? b=some o)->s.heap.objs.size<h'.objs.size->StrsAre vs ss->ss.Perm ls->Q vs { s with heap:=h',drawn:=d,toks:=tk }):
  wpAny (model prog w) A (collect (.ref a)) Q E s:=by
 obtain⟨o,es,ep,t,ho,hk,hp⟩:=hS;have ku:a<s.heap.objs.size:=Xe ho;unfold collect;refine X0 (wpAny_runValue (Yy F.entry_proto_collect ?_));rw[Around.under_plainId F.plain_proto_collect _];show wpAny _ A.in1 (newList [] >>= λl=>again (.builtin "list.__iadd__" ⟨[l,.ref a],[]⟩)) _ _ s;refine X0 (Xy ?_);refine X4 ⟨plainId_quiet F.plain_list_iadd _,Yy F.entry_list_iadd ?_⟩;rw[Around.under_plainId F.plain_list_iadd _];have io:(s.heap.push { cls:=.type "list",data:=.seq ([]:List Value).toArray }).get? a=some o:=X2 _ ho;have hT1:Shared.TypeIs { s with heap:=s.heap.push { cls:=.type "list",data:=.seq ([]:List Value).toArray } } (.ref a) "set":=⟨o,io,hk.ex.1⟩;show wpAny _ A.in1 (Builtin.List.listExtendWith (.ref s.heap.objs.size) (.ref a) (.ref s.heap.objs.size)) _ _ _;unfold Builtin.List.listExtendWith;refine X0 (wpAny_typeOf hT1 ?_);have h1:Builtin.List.listSameRef (.ref s.heap.objs.size) (.ref a)=false:=by simp[Builtin.List.listSameRef];exact Nat.ne_of_gt ku
 have h2:(Value.type "set" == Value.type "list")=false:=by decide
 have h3:(Value.type "set" == Value.type "tuple")=false:=by decide
 simp only[h1,h2,h3,Bool.or_false,Bool.false_eq_true,if_false];refine X0 (vk0 io hk λh' d I fp bz St fe hI hfp W st0 hv=>?_);refine X0 (Yb (vk3 ⟨o,fe _ _ io,hk.ex.1⟩ ?_));show wpAny _ A.in1 (PySem.rule "list.extend.makes-room" >>= λ_=>Builtin.List.listTouch (.ref s.heap.objs.size) >>= λ_=>
  again (.builtin "list.extend.loop" ⟨[.ref s.heap.objs.size,.ref I,.ref s.heap.objs.size],[]⟩)) _ _ _
 refine X0 (wpAny_rule ?_);have hsz:(s.heap.push { cls:=.type "list",data:=.seq ([]:List Value).toArray }).objs.size=s.heap.objs.size+1:=Heap.size_push ..;have hI':s.heap.objs.size+1<=I:=by rw[<-hsz];exact hI
 have o9:s.heap.objs.size∉fp:=λhm=>by
  rcases hfp _ hm with e|e
  ·exact absurd e (Nat.ne_of_gt ku)
  ·have e:s.heap.objs.size+1<=s.heap.objs.size:=by rw[<-hsz];exact e
   exact absurd e (Nat.not_succ_le_self _)
 have hS₁:h'.get? s.heap.objs.size=some { cls:=.type "list",data:=.seq ([]:List Value).toArray }:=fe _ _ (X9 _ rfl);refine X0 ?_;show wpAny _ A.in1 (updateSeq s.heap.objs.size (·.push .none) >>= λ_=>updateSeq s.heap.objs.size (·.pop)) _ _ _;refine X0 (wpAny_updateSeq hS₁ rfl ?_);have hS₂:=Y2 (Obj.mapSeq (·.push Value.none)) hS₁ rfl;refine wpAny_updateSeq hS₂ rfl ?_;have hS₃:=Y2 (Obj.mapSeq (·.pop)) hS₂ rfl;have oth:∀b o,b≠s.heap.objs.size->h'.get? b=some o->((h'.update s.heap.objs.size (Obj.mapSeq (·.push Value.none))).update s.heap.objs.size (Obj.mapSeq (·.pop))).get? b=some o:=
  λb o hb e=>(Heap.get?_update_other _ _ (Z6 hb)).trans ((Heap.get?_update_other _ _ (Z6 hb)).trans e)
 have WW:=W A.in1 hh;have aj:bz.length=es.size:=by rw[hv.length_eq,X5,Xp]
 refine X4 ⟨plainId_quiet F.plain_extend_loop _,codeAny_extend_loopS WW.toS (fits_of_scanBound hk.b) _ o9 _ es.size 0 _ _ _ rfl (Z5 _) (WW.frame 0 h' _ st0 λb hb o e=>oth b o (λe'=>o9 (e'▸hb)) e) hS₃ (ItemsOf.nil _) λs' dk c' hm im gh=>?_⟩;show wpAny _ A (load s.heap.objs.size >>= _) _ _ s';refine X0 (wpAny_load im ?_);have hac:dk.toList=bz:=by
  apply List.ext_getElem?;intro j
  by_cases hj:j<es.size
  ·have hj1:j<dk.size:=by rw[gh.1];exact hj
   rw[Yi,Array.getElem?_eq_getElem hj1];exact(gh.2 j _ (Array.getElem?_eq_getElem hj1)).symm
  ·rw[Yj (by rw[Xp,gh.1];lia),Yj (by lia)]
 refine X4 ?_;rw[hac,Moved.eq_with hm];refine h _ d _ bz (bz.map strOf) (λb o e=>?_) (Xe im) ?_ ?_
 ·have hb:b<s.heap.objs.size:=Xe e;have hbS:b≠s.heap.objs.size:=Xn hb;refine hm.heap b o (λhmem=>?_) (oth b o hbS (fe b o (X2 _ e)));rcases List.mem_cons.mp hmem with e'|hmem
  ·exact hbS e'
  ·rw[List.mem_singleton.mp hmem]at hb;exact absurd hb (Nat.not_lt.mpr (Nat.le_of_succ_le hI'))
 ·exact kq2 λv hvm=>by
   obtain⟨e,he,rfl⟩:=List.mem_map.mp (hv.mem_iff.mp hvm);exact qz5 hk.el he
 ·refine((hv.map strOf).trans (.of_eq ?_)).trans hp;rw[Y3];rfl
end
section
variable {prog:Program}{w:World}{A:Around}{E:Value->Shared->Prop}{s:Shared}
theorem qj2{a:Addr}{ls:List Str}{Q:Value->Shared->Prop}(hh:A.handled=none)(hS:Has prog w s.heap a ls)(nq:ls.length<64)
  (h:∀(h':Heap) (d:Drawn) (tk l e:Nat) (out:Array Value) (ss:List Str),(∀b o,s.heap.get? b=some o->h'.get? b=some o)->s.heap.objs.size<=l->h'.get? l=some (seqObj "list" out e)->StrsAre out.toList ss->ss.Perm ls->sortedS ss=true->Q (.ref l) { s with heap:=h',drawn:=d,toks:=tk }):
  wpAny (model prog w) A (call (.builtin "sorted") [.ref a]) Q E s:=by
 refine Calls.call_function_entry kind_sorted plain_sorted entry_sorted (args_sorted1 _) ?_;unfold Builtin.«sorted»;refine X0 (m:=checkCount "sorted" 1 1 _) (X4 ?_);refine X0 (qjk (by simpa using hh) hS λh' d tk vs ss fe hsz hv hp=>?_);have h64':vs.length<64:=by rw[kq3 hv,hp.length_eq];exact nq
 refine X0 (wpAny_newList ?_ (hsz:=by rw[sizeLine_eq];lia));have om:(h'.push (seqObj "list" vs.toArray 0)).get? h'.objs.size=some (seqObj "list" vs.toArray 0):=X9 _ rfl;refine X0 (Yb (Yf slot_list_sort ⟨_,om,rfl⟩ entry_list_sort (list_sort_treeK strKind_oneLt om hv.keysOf (λv₁ v₂ j8 e=>keyKind_strs (by rw[<-e];exact hv)) h64' λfu a1 a2=>⟨_,rfl,?_⟩) (args_list_sort _)));obtain⟨ss',h1,h2,h3⟩:=sorted_out_str hv a1 a2;obtain⟨e,he⟩:=sortedHeap_at (out:=(arrOf fu).map (·.2)) om;refine X4 ⟨_,rfl,h _ d tk _ e _ ss' (λb o q=>?_) (Nat.le_of_lt hsz) he h1 (h2.trans hp) h3⟩;have hb:=Xe (fe b o q);show(sortedHeap (h'.push (seqObj "list" vs.toArray 0)) h'.objs.size vs _).get? b=some o;rw[sortedHeap_old (Xn hb) (by rw[size_push'];exact Z0 hb)];exact X2 _ (fe b o q)
end
end Sw
namespace Q
open PySem PySem.Spec PyProof.Rows L2 L3 Sw
section
variable {X:Cx}{Z:Fx0}{K:PySem.W.Frag}{q:Bool}{a:Ex}{e ea:Expr}{σ:L2.St}{H:Hp}{pos p p2 ca:Pos}{x y:Str}{pins:List (Addr×Obj)}{s:Shared}
theorem Inv.dr{d:Drawn}(I:L2.Inv X pins σ H s):L2.Inv X pins σ H { s with drawn:=d }:=⟨I.ok,I.os,I.bare,I.base,I.loc,I.cell,I.free,I.freeC,I.pin,I.hok,I.len⟩
noncomputable def wqc(X:Cx)(f:Value)(r:List Str->Hp->VK->Prop):Prop:=
 ∀(pins:List (Addr×Obj)) (s:Shared) (σ:L2.St) (H:Hp) (b:Addr) (ls:List Str) (Q:VK),L2.Inv X pins σ H s->Has X.prog X.w s.heap b ls->r ls H Q->wpAny (model X.prog X.w) X.A (call f [.ref b]) (EP X pins σ Q) X.xe s
noncomputable def vzl(K:PySem.W.Frag)(r:List Str->Hp->VK->Prop):List V->Hp->VK->Prop:=λxs H Q=>∃p ss,xs=[.ref p]/\SqL K H p (ss.map V.str)/\ss.length<4000/\r (dd ss) H Q
theorem vjb{id:String}{r:List Str->Hp->VK->Prop}{t:TE}(hc:X.calm=true)(hf:wqc X (.builtin id) r)(hg:Gl X x)(hm:X.mg x=none)(hv:bootBuiltins x=some (.builtin id))(ko:Gl X "set")(ly:X.mg "set"=none)(hv2:bootBuiltins "set"=some (.type "set"))
  (ha:PE X e t) (hn:autoParam (x≠"__name__") ŕ) (f9:autoParam ((x==("__debug__":Str))=false) ŕ) (la:autoParam (("set":Str)≠"__name__") ŕ) (hdb2:autoParam ((("set":Str)==("__debug__":Str))=false) ŕ)
  (he:autoParam (starEach [e] X.env=(false,eval e X.env)::starEach [] X.env) Ŕ):
  PE X (.Call (.Name x p) [.Call (.Name "set" p2) [e] [] ca] [] pos) (fun σ H Q=>t σ H λv H1=>vzl X.K r [v] H1 Q):=by
 intro pins s σ H Q I h;refine Yl (Jq I hg hm hv ?_ hn f9);refine PyProof.Rows.callWith_builtin1 ?_ rfl rfl;show wpAny _ _ (spliced ((false,eval (.Call (.Name "set" p2) [e] [] ca) X.env)::[])) _ _ s;refine Calls.spliced_cons ?_;refine Yl (Jq I ko ly hv2 ?_ la hdb2);refine Y8 (thn (wj ha xj he ca pins s σ H (λvs H1=>vzl X.K r vs H1 Q) I ?_) λus s1 ⟨vs,H1,I1,r1,q1⟩=>?_) he rfl
 ·exact h
 obtain⟨b,ss,rfl,hq,hl,q⟩:=q1;obtain⟨u,rfl,rx⟩:=xx r1;cases rx;obtain⟨aa,r',pl,hz⟩:=I1.list hq;have aj:=r'.length;rw[X5]at aj hz;refine qxg (I1.ok.hd hc) pl.isList (by simpa using kkk r') (by simp;unfold scanBound;lia) λh' tk hS fe=>?_
 have I2:L2.Inv X pins σ H1 { s1 with heap:=h',toks:=tk }:=I1.kept λb u q=>fe b u (Xe q) q
 exact Calls.spliced_nil (hf pins _ σ H1 _ (dd ss) Q I2 hS q)
theorem qj4(hc:X.calm=true):wqc X (.builtin "sorted") (λls H Q=>ls.length<64/\∀l,H l=none->Q (.ref l) (upd H l (.lst ((kX ls).map V.str)))):=by
 intro pins s σ H b ls Q I hS h;refine qj2 (I.ok.hd hc) hS h.1 λh' d tk l e out ss fe hl hg h1 h2 h3=>?_
 have e1:=kxm h2 h3;subst e1;have hz:(kX ls).length<=sizeLine:=by rw[(zx ls).length_eq,sizeLine_eq];lia
 refine⟨.ref l,_,Inv.dr (I.laid (t':=tk) (o:=.lst ((kX ls).map V.str)) fe hl ?_),rfl,h.2 l (I.hok.fresh hl)⟩;exact⟨by rw[X5];exact hz,out.toList,e,kv6 h1,by simpa using hg⟩
end
end Q
namespace Sw
open PySem PySem.Spec PyProof.Rows
theorem kq1:isSubtype (.type "tuple") (.type "set")=pure false:=by rw[isSubtype_type];kernel_rfl
theorem jww:isSubtype (.type "tuple") (.type "frozenset")=pure false:=by rw[isSubtype_type];kernel_rfl
section
variable {prog:Program}{w:World}{A:Around}{E:Value->Shared->Prop}{s:Shared}
set_option maxHeartbeats 8000000 in
theorem qvn{l:Addr}{items:Array Value}{ns:List Int}{Q:Value->Shared->Prop}(hh:A.handled=none)(hl:s.heap.IsTuple l items)(hi:IntsAre items.toList ns)(hb:items.size+1<scanBound)
  (h:∀(h':Heap) (tk:Nat),h'.SetOf (intKind prog w) s.heap.objs.size (λk'=>(firstMet (λi=>ns.getD i 0) items.size).any (· == k')) (firstMet (λi=>ns.getD i 0) items.size).length->(∀b o,b<s.heap.objs.size->s.heap.get? b=some o->h'.get? b=some o)->Q (.ref s.heap.objs.size) { s with heap:=h',toks:=tk }):
  wpAny (model prog w) A (call (.type "set") [.ref l]) Q E s:=by
 obtain⟨c,tl,hmro⟩:=F.called_set.mro;have nj:=F.called_set.made;have fk:=F.called_set.sub;refine wpAny_call (codeAny_of_tree ?_);show wpAny _ _ (callAny (.type "set") _) _ _ _;refine X4 ⟨Code.quiet_builtin _ (by decide +kernel),Yy F.entry_type_call ?_⟩;rw [Around.under_plain (weight_type_call_type "set" [.ref l] []) rfl];have h1:=F.called_set.notType;have h2:=F.called_set.canCreate;have hct:=F.typeCall_set_1 (.ref l)
 repeat (any_goals (first|assumption|wp_step))
 refine codeAny_mono (made (.ref l) (E:=E) (Q₁:=λobj s₁=>obj=.ref s.heap.objs.size/\s₁={ s with heap:=s.heap.push (fresh w) }) ⟨rfl,rfl⟩) λr s₁ hr=>?_
 cases r with
 | error e=>exact hr
 | ok fl=>
 cases fl with
 | ret obj=>
  obtain⟨rfl,rfl⟩:=hr;have hS:(s.heap.push (fresh w)).get? s.heap.objs.size=some (fresh w):=X9 _ rfl;have hT:Shared.TypeIs { s with heap:=s.heap.push (fresh w) } (.ref s.heap.objs.size) "set":=⟨_,hS,rfl⟩;have hli:=F.called_set.init.lookup;have hbi:=F.called_set.init.bind (.ref s.heap.objs.size)
  repeat (any_goals (first|assumption|wp_step))
  refine codeAny_mono (codeAny_call_builtin (R:=wants (λr s₂=>r=.none/\∃h' tk,s₂={ s with heap:=h',toks:=tk }/\h'.SetOf (intKind prog w) s.heap.objs.size (λk'=>(firstMet (λi=>ns.getD i 0) items.size).any (· == k')) (firstMet (λi=>ns.getD i 0) items.size).length /\
    (∀b o,b<s.heap.objs.size->s.heap.get? b=some o->h'.get? b=some o)) E) F.called_set.init.plain F.entry_set_init (check_set_init_1 hT ?_)) λr₂ s₂ me=>?_
  ·obtain⟨ol,oe,de,nl,np⟩:=hl;obtain⟨ocls,jm,pe,gj⟩:=ol;simp only at de np;subst de;subst np;have lx:(s.heap.push (fresh w)).get? l=some { cls:=.type "tuple",dict:=jm,data:=.seq items nl,slots:=gj }:=X2 _ oe;have hsls:=kq1;have hslf:=jww;have en:(Value.type "tuple" == Value.type "dict")=false:=by decide
   have qy:(s.heap.push (fresh w)).IsTuple l items:=⟨_,lx,rfl,nl,rfl⟩;have oj:l<s.heap.objs.size:=Xe oe;have jf:({ cls:=.type "set",dict:=none,data:=.set #[] 0 (.fresh 0 0 (!tx w)) }:Obj)=fresh w:=rfl;unfold Builtin.«set.__init__» noKeywords Builtin.Frozenset.updateFrom;generalize hPI:pyIter=PI
   wp_walk
   subst hPI;refine wpAny_pyIter_tuple qy ?_;refine X0 (wpAny_runValue ?_);have hh3:A.in1.in1.in1.handled=none:=by simp[hh]
   have hsz:(s.heap.push (fresh w)).objs.size=s.heap.objs.size+1:=Heap.size_push ..;have lu:∀(i:Nat) (v:Value),items[i]?=some v->∃t,v=.int ((λi=>ns.getD i 0) i) t:=λi v hv=>IntsAre.int_at hi i v (by rw[Yi];exact hv)
   refine codeAny_set_update_loopS ((Walks.tuple hh3 _ l (by rw[hsz];exact Xn (Z0 oj)) items).toS) s.heap.objs.size (by rw[hsz];simp only[Xr,Xk,or_false,not_or];exact⟨Xn (Nat.lt_succ_self _),Nat.ne_of_gt oj⟩) (λi=>ns.getD i 0) lu hb (items.size - 0) 0 _ (by lia) (Z5 _)
    ⟨⟨_,X9 _ rfl,rfl,rfl⟩,qy.at λo e=>X2 _ e⟩ ?_ ?_
   ·exact SetOf_congr ((setObjOf_fresh (knd:=intKind prog w) (!tx w)).setOf (X2 _ hS) (by unfold scanBound;lia)) (λ_=>rfl) rfl
   ·intro s' hm im;obtain⟨h',g',d',tk',qc⟩:=s';have eg:g'=s.gens:=hm.gens;have ed:d'=s.drawn:=hm.drawn;have eo:qc=s.os:=hm.os;subst eg;subst ed;subst eo;show wpAny _ _ _ _ _ _;refine X4 ?_;show wpAny _ _ (ret Value.none) _ _ _;refine X4 ⟨rfl,h',tk',rfl,im,λb o hb e=>?_⟩;exact hm.heap b o (by simp only[Xr,Xk,or_false,not_or];rw[hsz];exact⟨Xn hb,Xn (Z0 hb)⟩) (X2 _ (X2 _ e))
  ·cases r₂ with
   | error e=>exact me
   | ok fl₂=>
    cases fl₂ with
    |ret r=>
     obtain⟨rfl,h',tk,rfl,im,hk'⟩:=me
     repeat (any_goals (first|assumption|wp_step))
     exact h _ _ im hk'
    |_=>exact me.elim
 |_=>exact hr.elim
end
end Sw
namespace Q
open PySem PySem.Spec PyProof.Rows L2 L3 Sw
section
variable {X:Cx}{Z:Fx0}{K:PySem.W.Frag}{q:Bool}{a:Ex}{e ea:Expr}{σ:L2.St}{H:Hp}{pos p p2 ca:Pos}{x y:Str}{pins:List (Addr×Obj)}{s:Shared}
theorem vx6{ss:List Str}{z:Str}(h:z∈ddS ss):z∈ss:=by
 have:∀(l ae:List Str),z∈l.foldl (λl k=>if l.any (· == k)then l else l++[k]) ae->z∈ae\/z∈l:=by
  intro l
  induction l with
  | nil=>intro ae h;exact .inl h
  | cons k l ih=>
   intro ae h;rcases ih _ h with h|h
   ·dsimp only at h
    split at h
    ·exact .inl h
    ·rcases List.mem_append.mp h with h|h
     ·exact .inl h
     ·exact .inr (by rw[List.mem_singleton.mp h];exact X3)
   ·exact .inr (lc9 _ h)
 rcases this ss [] h with h|h
 ·cases h
 ·exact h
noncomputable def rSS(K:PySem.W.Frag):List V->Hp->VK->Prop:=vzl K λls H Q=>ls.length<64/\∀l,H l=none->Q (.ref l) (upd H l (.lst ((kX ls).map V.str)))
theorem qjm:Ad1 K (λv H Q=>rSS K [v] H Q) XY:=by
 intro H x s Q ok hf k;unfold XY at hf;dsimp only at hf;cases hx:x.d with
 | lst ds=>
  rw[hx]at hf;dsimp only at hf;obtain⟨l,xs,bs,ev,q3,r3,_⟩:=items ok (.inl hx);have q3:LsR K H l xs:=by rcases q3 with⟨_,z⟩|⟨z,_⟩;exact z;rw[hx]at z;cases z
  cases hs:x9 ds with
  | some ss=>
   rw[hs]at hf;dsimp only at hf
   split at hf
   ·rename_i hl;cases oq9 hf;obtain⟨e1,e2⟩:=kj0 hs r3;subst e1;refine⟨l,ss,by rw[ev],zK q3,by lia,Nat.lt_of_le_of_lt (vx8 ss) hl,λp hp=>?_⟩;exact k ⟨.rt,.lst _,.ref p,p::[]⟩ _ rfl rfl (JK hp (kj1 λz hz=>e2 z (vx6 ((zx _).mem_iff.mp hz))) λb hb=>nomatch hb)
   ·cases hf
  |none=>rw[hs]at hf;cases hf
 |_=>rw[hx]at hf;cases hf
theorem qki(hK:X.K=Z.K)(hc:X.calm=true)(ha:QV X Z q a ea)(hm:X.mg "sorted"=none)(ly:X.mg "set"=none)(hg:autoParam (Gl X "sorted") Ŕ)(ko:autoParam (Gl X "set") Ŕ)(he:autoParam (starEach [ea] X.env=(false,eval ea X.env)::starEach [] X.env) Ŕ):
  QE X Z q (cF1 XY a) (.Call (.Name "sorted" p) [.Call (.Name "set" p2) [ea] [] ca] [] pos):=
 qV (vjb hc (qj4 hc) hg hm rfl ko ly rfl ha (he:=he)) fun σ H Q h=>by
  have:=Qq (r:=λv H Q=>rSS Z.K [v] H Q) qjm h;rw[hK];exact this
theorem vwz(ns:List Int):∀i,i<=ns.length->firstMet (λi=>ns.getD i 0) i=(ns.take i).foldl step_dedup []
 |0,_=>rfl
 |i+1,h=>by
  rw[firstMet_succ,vwz ns i (Nat.le_of_succ_le h),List.take_succ,List.foldl_append,X7,X1 h];rfl
end
end Q
namespace Q
open PySem PySem.Spec PyProof.Rows L2 L3
section
variable {X:Cx}{Z:Fx0}{K:PySem.W.Frag}{pn:List Nat}{q qa qb:Bool}{a b c:Ex}{u:Ts}{tg e ea eb:Expr}{st:Stmt}{σ:L2.St}{H:Hp}{L:Ls}{E:En}{pos p p2:Pos}{x:Str}
theorem vj1{k n:Nat}{ps:List Str}{f:Fn}{cs:List Ex}{es:List Expr}(D:qx X.prog X.w X.K X.mg X.base k x ps (spF Z.K Z.mg n f))(hr:Room k X.A)(g:zQ X Z.EX)(ha:QAV X Z cs (e::es))(hn:autoParam (cs.length=n) Ŕ)(hg:autoParam (Gl X x) Ŕ)(f9:autoParam ((x==("__debug__":Str))=false) ŕ)
  (he:autoParam (starEach (e::es) X.env=(false,eval e X.env)::starEach es X.env) Ŕ) (bn:autoParam ((backTo pos (starEach es X.env)).any (·.1)=false) Ŕ):
  QE X Z true (kwc f cs) (.Call (.Name x p) (e::es) [] pos):=qV (qkv D hr g ha hg f9 he bn) fun σ H Q av=>ex8 av λE L r m w hc xc kk=>by
 have hc:bnd (qY cs E) _=some r:=hc;rcases vY hc with⟨E1,ys,h1,h2⟩|⟨E1,cc,h1,h2⟩
 rotate_left
 ·exact⟨E,L,_,m,w,h1,xc.map h2,λE' s' z=>by cases z⟩
 refine⟨E,L,_,m,w,h1,(λ_ _ z=>by cases z),λE' ys' z xs L1 H1 e1 m1 w1 ok1 st sm=>?_⟩;injection z with z1 z2;subst z1 z2;rw [Y0];have aj:xs.length=n:=by rw[<-hn,<-jz2 h1,<-e1,X5]
 cases hf:f (letAll ys)with
 | none=>rw[hf]at h2;cases h2
 | some fr=>
  rw [hf]at h2;have ev:xs.map Sl.v=(xs.map Sl.let).map Sl.v:=by rw[Y3];rfl
  have wl:World Z.K H1 ((xs.map Sl.let).map some):=by
   refine⟨λy hy=>?_,by rw[JJ];exact Y1,λa ha=>by rw[JJ]at ha;exact nomatch ha⟩;obtain⟨y',hy',e⟩:=List.mem_map.mp hy;cases e;obtain⟨t,ht,rfl⟩:=List.mem_map.mp hy';exact Vx (ok1 t ht)
  rw [ev];refine⟨xs.map Sl.let,fr,rfl,by rw[X5];exact aj,wl,by rw[<-e1]at hf;rw[qqc];exact hf,λE' c ee C H' hm s'=>?_,λE' a ee y H' e2 e3 w' s'=>?_⟩
  ·subst ee;cases oq9 h2;have gq:kj H1 H':=λb ob hb=>s'.keep b ob hb λz=>by rw[JJ]at z;exact nomatch z
   exact xc _ _ rfl C L1 H' hm m1 ⟨λy hy=>RepO.kp (w1.ok y hy) (Kp.of_same gq),w1.nd,w1.ds⟩ (st.trans ⟨λb ob hb _=>gq b ob hb,λ_ h=>.inl h,λ_ h=>.inl h⟩)
  ·subst ee;dsimp only at h2
   split at h2
   ·rename_i hp;cases oq9 h2;have gq:kj H1 H':=λb ob hb=>s'.keep b ob hb λz=>by rw[JJ]at z;exact nomatch z
    have w2:World Z.K H' L1:=⟨λy hy=>RepO.kp (w1.ok y hy) (Kp.of_same gq),w1.nd,w1.ds⟩;have ng:y.o=.dp:=e2.trans hp;have nw:∀b∈y.own,H1 b=none:=λb hb=>by
     rcases s'.own b (by rw[jK];exact ll9 _ hb)with z|z
     ·rw[JJ]at z;exact nomatch z
     ·exact z
    have fz:y.frz=[]:=by unfold Sl.frz;rw[ng]
    have nd:y.own.Nodup:=by have:=w'.nd;rw[jK,qq1,Y0]at this;exact this
    have bm:Step H L H' L1:=st.trans ⟨λb ob hb _=>gq b ob hb,λ_ h=>.inl h,λ_ h=>.inl h⟩;have w3:World Z.K H' (some y::L1):=w2.cons (w'.ok y X3) nd (λb hb hL=>w1.own_some hL (nw b hb)) (λb hb hL=>w1.frz_some hL (nw b hb)) (λb hb=>by rw[fz]at hb;cases hb) (λb hb hL=>by rw[fz]at hL;cases hL);have ll:∀b∈y.own,H b=none:=λb hb=>zj sm (nw b hb)
    refine kk _ _ rfl y L1 H' e2 e3 m1 w3 ⟨bm.keep,λb hb=>?_,λb hb=>?_⟩ λ_=>⟨qk sm gq,λb hb=>ll b hb⟩
    ·rw[jK]at hb;rcases List.mem_append.mp hb with hb|hb
     ·exact .inr (ll b hb)
     ·exact bm.own b hb
    ·rw[qJ,fz]at hb;exact bm.frz b hb
   ·cases h2
end
end Q
namespace Q
open PySem PySem.Spec PyProof.Rows L2 L3
section
variable {X:Cx}{Z:Fx0}{K:PySem.W.Frag}{H:Hp}{q g:Bool}{a:Ex}{e:Expr}{p2 pos:Pos}{x:Str}{d:D}{ds:List D}{v:V}{vs:List V}
theorem vzy{j:_}{p3 p4:Pos}:PE X (.UnaryOp .USub (.Constant (.int 1) j p3) p4) (tC (.int (-1))):=qV (vvk qju qku) fun σ H Q h=>⟨1,rfl,h⟩
end
end Q
namespace Q
open PySem
noncomputable def Wq:D->Option D:=λx=>match x with
 |.tup ds=>(match J9 ds with
  |some is=>if is.length<4000 then some (.int (ddI is).length)else none
  |none=>none)
 |_=>none
end Q
namespace Q
open PySem PySem.Spec PyProof.Rows L2 L3 Sw
section
variable {X:Cx}{Z:Fx0}{K:PySem.W.Frag}{q:Bool}{a:Ex}{e ea:Expr}{σ:L2.St}{H:Hp}{pos p p2 ca:Pos}{pins:List (Addr×Obj)}{s:Shared}
noncomputable def vxw(K:PySem.W.Frag):List V->Hp->VK->Prop:=λxs H Q=>∃p ns,xs=[.ref p]/\SqT K H p (ns.map V.int)/\ns.length<4000/\Q (.int (ddI ns).length) H
theorem qj9{t:TE}(hc:X.calm=true)(hg:Gl X "len")(hm:X.mg "len"=none)(ko:Gl X "set")(ly:X.mg "set"=none)(ha:PE X e t)(he:autoParam (starEach [e] X.env=(false,eval e X.env)::starEach [] X.env) Ŕ):
  PE X (.Call (.Name "len" p) [.Call (.Name "set" p2) [e] [] ca] [] pos) (fun σ H Q=>t σ H λv H1=>vxw X.K [v] H1 Q):=by
 intro pins s σ H Q I h;refine Yl (Jq I hg hm (u:=.builtin "len") rfl ?_ (by decide) (by decide));refine PyProof.Rows.callWith_builtin1 ?_ rfl rfl;show wpAny _ _ (spliced ((false,eval (.Call (.Name "set" p2) [e] [] ca) X.env)::[])) _ _ s;refine Calls.spliced_cons ?_;refine Yl (Jq I ko ly (u:=.type "set") rfl ?_ (by decide) (by decide));refine Y8 (thn (wj ha xj he ca pins s σ H (λvs H1=>vxw X.K vs H1 Q) I ?_) λus s1 ⟨vs,H1,I1,r1,q1⟩=>?_) he rfl
 ·exact h
 obtain⟨b,ss,rfl,hq,hl,q⟩:=q1;obtain⟨u,rfl,rx⟩:=xx r1;cases rx;obtain⟨aa,r',pl,hz⟩:=I1.tuple hq;have aj:=r'.length;rw[X5]at aj;refine qvn (ns:=ss) (I1.ok.hd hc) pl (by simpa using kkt r') (by simp;unfold scanBound;lia) λh' tk hS fe=>?_
 have I2:L2.Inv X pins σ H1 { s1 with heap:=h',toks:=tk }:=I1.kept λb u q=>fe b u (Xe q) q
 obtain⟨o,es,ep,t,ho,hex,hd,hel,hmem,hb,hf,hn⟩:=hS;have la:es.size=(ddI ss).length:=by
  rw[hn,show aa.toArray.size=ss.length by simp;lia,vwz ss _ (Xd _),List.take_length];rfl
 refine Calls.spliced_nil (call_len_set ho hex hd hf (by unfold scanBound at hb;lia) ?_);refine⟨.int (ddI ss).length,H1,?_,by rw[la];exact⟨_,rfl⟩,q⟩;exact I2.kept (h':=h') λb u q=>q
theorem qjn:Ad1 K (λv H Q=>vxw K [v] H Q) (pu1 Wq):=by
 intro H x s Q ok hf k;unfold pu1 Wq at hf;dsimp only at hf;cases hx:x.d with
 | tup ds=>
  rw[hx]at hf;dsimp only at hf;obtain⟨l,xs,bs,ev,q3,r3,_⟩:=items ok (.inr hx);have q3:SqT K H l xs:=by rcases q3 with⟨z,_⟩|⟨_,z⟩;rw[hx]at z;cases z;exact z
  cases hi:J9 ds with
  | none=>rw[hi]at hf;cases hf
  | some ss=>
   rw[hi]at hf;dsimp only at hf
   split at hf
   ·rename_i hl;cases oq9 hf;have e1:=kqq hi r3;subst e1;exact⟨l,ss,by rw[ev],q3,hl,k ⟨.dp,.int _,.int _,[]⟩ H rfl rfl K8⟩
   ·cases hf
 |_=>rw[hx]at hf;cases hf
theorem qkk(hK:X.K=Z.K)(hc:X.calm=true)(ha:QV X Z q a ea)(hm:X.mg "len"=none)(ly:X.mg "set"=none)(hg:autoParam (Gl X "len") Ŕ)(ko:autoParam (Gl X "set") Ŕ)(he:autoParam (starEach [ea] X.env=(false,eval ea X.env)::starEach [] X.env) Ŕ):
  QE X Z q (cF1 (pu1 Wq) a) (.Call (.Name "len" p) [.Call (.Name "set" p2) [ea] [] ca] [] pos):=
 qV (qj9 hc hg hm ko ly ha (he:=he)) fun σ H Q h=>by
  have:=Qq (r:=λv H Q=>vxw Z.K [v] H Q) qjn h;rw[hK];exact this
end
end Q
namespace Q
open PySem
noncomputable def vz2:D->Option D
 |.int i=>if i.natAbs.log2<1920/\(Str.ofString (toString i)).length<=sizeLine then some (.str (Str.ofString (toString i)))else none
 |.str z=>if z.length<=sizeLine then some (.str z)else none
 |_=>none
end Q
namespace Q
open PySem PySem.Spec PyProof.Rows L2 L3
section
variable {X:Cx}{Z:Fx0}{K:PySem.W.Frag}{q:Bool}{a:Ex}{o:Expr}{y:Str}{c:Nat}{j:_}{p c8 bb:Pos}
noncomputable def wkh:List V->Hp->VK->Prop:=λxs H Q=>(∃i:Int,xs=[.int i]/\i.natAbs.log2<1920/\Q (.str (Str.ofString (toString i))) H)\/∃z:Str,xs=[.str z]/\Q (.str z) H
theorem qxf:CallR X (.type "str") wkh:=by
 intro pins s σ H xs us Q I r h;rcases h with⟨i,rfl,hi,q⟩|⟨z,rfl,q⟩
 ·obtain⟨u,rfl,t,rfl⟩:=xx r;exact PySem.P.str_of_int hi ⟨.str _,H,I.tok _,⟨_,rfl⟩,q⟩
 ·obtain⟨u,rfl,t,rfl⟩:=xx r;exact PySem.P.str_of_str ⟨.str _,H,I,⟨_,rfl⟩,q⟩
theorem vxi:Ad1 K (λv H Q=>wkh [v] H Q) (pu1 vz2):=by
 intro H x s Q ok hf k;unfold pu1 vz2 at hf;dsimp only at hf;cases hx:x.d with
 | int i=>
  rw[hx]at hf;dsimp only at hf
  split at hf
  ·rename_i hz;cases oq9 hf;exact .inl ⟨i,by rw[qz ok hx],hz.1,k ⟨.dp,.str _,.str _,[]⟩ H rfl rfl (YX hz.2)⟩
  ·cases hf
 | str z=>
  rw[hx]at hf;dsimp only at hf
  split at hf
  ·rename_i hz;cases oq9 hf;exact .inr ⟨z,by rw[(zV ok hx).1],k ⟨.dp,.str _,.str _,[]⟩ H rfl rfl (YX hz)⟩
  ·cases hf
 |_=>rw[hx]at hf;cases hf
end
end Q
namespace Q
open PySem
noncomputable def XJ:Sd->Option Sd:=λx=>match x.2 with
 |.lst ds=>(match x9 ds with
  |some ss=>some (.rt,.lst (ss.reverse.map .str))
  |none=>none)
 |_=>none
end Q
namespace Q
open PySem PySem.Spec PyProof.Rows L2 L3
section
variable {X:Cx}{Z:Fx0}{K:PySem.W.Frag}{q:Bool}{a:Ex}{e:Expr}{p2 pos:Pos}
noncomputable def vqo(K:PySem.W.Frag):V->Hp->VK->Prop:=λx H Q=>∃a xs,x=.ref a/\V.int (-1)=.int (-1)/\SqL K H a xs/\∀p,H p=none->Q (.ref p) (upd H p (.lst xs.reverse))
theorem vkj:Ad1 K (vqo K) XJ:=by
 intro H x s Q ok hf k;unfold XJ at hf;dsimp only at hf;cases hx:x.d with
 | lst ds=>
  rw[hx]at hf;dsimp only at hf;obtain⟨l,xs,bs,ev,q3,r3,_⟩:=items ok (.inl hx);have q3:LsR K H l xs:=by rcases q3 with⟨_,z⟩|⟨z,_⟩;exact z;rw[hx]at z;cases z
  cases hs:x9 ds with
  |some ss=>
   rw[hs]at hf;dsimp only at hf;cases oq9 hf;obtain⟨e1,e2⟩:=kj0 hs r3;subst e1;refine⟨l,_,ev,rfl,zK q3,λp hp=>?_⟩;rw[<-List.map_reverse];exact k ⟨.rt,.lst _,.ref p,p::[]⟩ _ rfl rfl (JK hp (kj1 λz hz=>e2 z (List.mem_reverse.mp hz)) λb hb=>nomatch hb)
  |none=>rw[hs]at hf;cases hf
 |_=>rw[hx]at hf;cases hf
theorem vqy{j:_}{p3 p4:Pos}(ha:QV X Z q a e)(hK:autoParam (X.K=Z.K) Ŕ):QE X Z q (cF1 XJ a) (.Subscript e (.Slice none none (some (.UnaryOp .USub (.Constant (.int 1) j p3) p4)) p2) pos):=
 qV (vvn Z.K ha vzy hK) fun σ H Q h=>Qq (r:=vqo Z.K) vkj h
variable {pn:List Nat}{c:Ex}
end
end Q
namespace Q
open PySem
noncomputable def qwi(i j : Nat)(c : Ex): Sm:= λE=>ofE (c E) λE x=>match x with
  |(.dp, .tup [a, b])=>some (.nx ((E.set i (some (.no, a))).set j (some (.dp, b))))
  |_=>none
def z9(u:String):D->Option D:=λd=>match d with
 |.dct []=>some (.bl (wja "dict" u))
 |d=>k8 u d
def vxv(i:Nat)(E:En):En:=match E[i]? with
 |some (some (.dp,.lst ds))=>E.set i (some (.rt,.lst ds))
 |_=>E
def vxt(i:Nat)(s:Sm):Sm:=λE=>s (vxv i E)
def JY:En->Bool
 |[]=>true
 |none::E=>JY E
 |some (.no,_)::E=>JY E
 |some (_,.int _)::E=>JY E
 |_::_=>false
noncomputable def Vq(es:List D):D->Bool
 |.lst []=>decide (0<es.length)
 |.lst [.int _,d]=>d.pure&&(match es with
  |.non::_=>true
  |.tup _::_=>true
  |_=>false)
 |.tup [a,.lst []]=>a.pure&&decide (0<es.length)
 |.tup [a,.tup [.lst [],b]]=>a.pure&&b.pure&&decide (0<es.length)
 |d=>d.pure
noncomputable def sAl (i jc ik ir : Nat) (ct ck cb : Ex) (f : Fn) (cs : List Ex): Sm:= λE=>match E[i]?, E[ir]? with
  | some (some (.dp, .lst rs)), some (some (_, .int (.ofNat r)))=>(match ct E with
    | some (.ok _ (_, .int (.ofNat t)))=>(match rs[r]? with
      | some (.tup [d0, d1, .lst st])=>(match st[t]? with
        | some (.lst es)=>(match ck (((E.set jc none).set i none).set jc (some (.no, .lst es)))with
          | some (.ok _ (_, .int kn))=>(match cb ((E.set jc none).set ik (some (.dp, .int kn)))with
            | some (.ok _ (.dp, db))=>(match qY cs (((E.set jc none).set ik (some (.dp, .int kn))).set i (some (.dp, .lst (rs ++ [db]))))with
              | some (.ok _ ys)=>(match f ((.no, .lst (rs ++ [db]))::letAll ys)with
                | some (.ok _ (_, dv))=>(match ixN es.length kn with
                  | some n=>if(ys.all λy=>y.2.pure) = true /\ rs.length<big /\ JY (((E.set jc none).set ik (some (.dp, .int kn))).set i none) = true /\ Vq es dv = true /\ jc<E.length /\ ik<E.length then
                      some (.nx (((E.set jc none).set ik (some (.dp, .int kn))).set i (some (.no, .lst (rs.set r (.tup [d0, d1, .lst (st.set t (.lst (es.set n dv)))]) ++ [db])))))
                    else none
                  |none=>none)
                |_=>none)
              |_=>none)
            |_=>none)
          |_=>none)
        |_=>none)
      |_=>none)
    |_=>none)
  |_, _=>none
end Q
namespace Q
open PySem PySem.Spec PyProof.Rows L2 L3
section
variable {K:PySem.W.Frag}{H:Hp}
theorem RepA.part:∀{n:Nat} {ds:List D} {xs:List V} {as:List Addr} {dn:D},RepA K H false ds xs as->as.Nodup->ds[n]?=some dn->∃x bs,xs[n]?=some x/\RepL K H false dn x bs/\bs.Nodup/\(∀b∈bs,b∈as) /\
  ∀ (H':Hp) (on:D) (f8:List Addr),Kx H H' as bs->RepL K H' true on x f8->∃oq,RepA K H' true (ds.set n on) xs oq/\∀b∈oq,b∈as\/b∈f8:=by
 intro n ds
 induction ds generalizing n with
 | nil=>intro xs as dn h nd e;simp at e
 | cons d ds ih=>
  intro xs as dn h nd e;unfold RepA at h;obtain⟨x,r,bs,es,rfl,rfl,h1,h2⟩:=h;rw[Xa]at nd;cases n with
  | zero=>
   have e:d=dn:=by simpa using e
   subst e;refine⟨x,bs,rfl,h1,nd.1,λb hb=>ll9 _ hb,λH' on f8 kx r'=>⟨f8++es,?_,λb hb=>?_⟩⟩
   ·rw[List.set_cons_zero];unfold RepA;exact⟨x,r,f8,es,rfl,rfl,r',(h2.kp (kx.kp λb hb=>⟨lr9 _ hb,λz=>nd.2.2 b z b hb rfl⟩)).wk⟩
   ·rcases List.mem_append.mp hb with z|z
    ·exact .inr z
    ·exact .inl (lr9 _ z)
  | succ n=>
   obtain⟨y,fs,q1,q2,q3,q4,q5⟩:=ih (n:=n) h2 nd.2.1 (by simpa using e);refine⟨y,fs,by simpa using q1,q2,q3,λb hb=>lr9 _ (q4 b hb),λH' on f8 kx r'=>?_⟩;obtain⟨oq,a1,a2⟩:=q5 H' on f8 ⟨kx.tup,kx.frz,λb hb=>kx.out b (lr9 _ hb)⟩ r';refine⟨bs++oq,?_,λb hb=>?_⟩
   ·rw[List.set_cons_succ];unfold RepA;exact⟨x,r,bs,oq,rfl,rfl,(h1.kp (kx.kp λb hb=>⟨ll9 _ hb,λz=>nd.2.2 b hb b (q4 b z) rfl⟩)).wk,a1⟩
   ·rcases List.mem_append.mp hb with z|z
    ·exact .inl (ll9 _ z)
    ·exact(a2 b z).imp (λz=>lr9 _ z) id
theorem RepA.setW{d:D}{x:V}{cs:List Addr}(hx:RepL K H true d x cs){ds:List D}:∀{xs:List V} {bs:List Addr} (n:Nat),RepA K H true ds xs bs->∃es,RepA K H true (ds.set n d) (xs.set n x) es/\∀b∈es,b∈bs\/b∈cs:=by
 induction ds with
 | nil=>
  intro xs bs n h;have h0:=h;unfold RepA at h0;obtain⟨rfl,rfl⟩:=h0;exact⟨[],by simpa using h,λ_ z=>nomatch z⟩
 | cons e ds ih=>
  intro xs bs n h;unfold RepA at h;obtain⟨y,r,b1,b2,rfl,rfl,h1,h2⟩:=h;cases n with
  |zero=>
   refine⟨cs++b2,?_,λb hb=>(List.mem_append.mp hb).elim .inr λz=>.inl (lr9 _ z)⟩;rw[List.set_cons_zero,List.set_cons_zero];unfold RepA;exact⟨x,r,cs,b2,rfl,rfl,hx,h2⟩
  |succ n=>
   obtain⟨es,i1,i2⟩:=ih n h2;refine⟨b1++es,?_,λb hb=>(List.mem_append.mp hb).elim (λz=>.inl (ll9 _ z)) λz=>(i2 b z).imp (lr9 _) id⟩;rw[List.set_cons_succ,List.set_cons_succ];unfold RepA;exact⟨y,r.set n x,b1,es,rfl,rfl,h1,i1⟩
theorem qq4{ds:List D}{a l:Addr}{xs zs:List V}{as bs:List Addr}(ra:RepA K H true ds xs bs)(hb:bs=[])(hq:(H a=some (.lst xs)/\as=a::bs)\/(true=true/\vxn K H a xs/\as=bs))(hl:l∈as)(hH:H l=some (.lst zs)):zs=xs:=by
 subst hb;rcases hq with⟨q,rfl⟩|⟨_,_,rfl⟩
 ·rw[List.mem_singleton.mp hl,q]at hH;cases hH;rfl
 ·exact nomatch hl
theorem vvu{d:D}{xs:List V}{as:List Addr}(h:RepA K H true [d] xs as):∃x,xs=[x]/\RepL K H true d x as:=by
 unfold RepA at h;obtain⟨x,r,bs,cs,rfl,rfl,h1,h2⟩:=h;unfold RepA at h2;obtain⟨rfl,rfl⟩:=h2;exact⟨x,rfl,by rw[Y0];exact h1⟩
theorem kz6{d e:D}{xs:List V}{as:List Addr}(h:RepA K H true [d,e] xs as):∃x y bs cs,xs=[x,y]/\as=bs++cs/\RepL K H true d x bs/\RepL K H true e y cs:=by
 unfold RepA at h;obtain⟨x,r,bs,cs,rfl,rfl,h1,h2⟩:=h;obtain⟨y,rfl,h3⟩:=vvu h2;exact⟨x,y,bs,cs,rfl,rfl,h1,h3⟩
theorem vjo{v:V}{as:List Addr}{l:Addr}{zs:List V}(h:RepL K H true (.lst []) v as)(hl:l∈as)(hH:H l=some (.lst zs)):zs=[]:=by
 unfold RepL at h;obtain⟨a,xs,bs,rfl,ra,q⟩:=h;have ra0:=ra;unfold RepA at ra0;obtain⟨rfl,rfl⟩:=ra0;exact qq4 ra rfl q hl hH
theorem kzx{es:List D}{zs:List V}{fs:List Addr}{dv:D}{v:V}{as:List Addr}{l:Addr}(hu:Vq es dv=true)(r:RepL K H true dv v as)(hH:H l=some (.lst zs))(re:RepA K H false es zs fs):l∉as:=by
 intro hl;have len:=re.len;have pu:dv.pure=true->False:=λh=>by
  rw[(RepL.pu (g':=true) r h).1]at hl;exact nomatch hl
 have nl:∀{w:V} {cs:List Addr},RepL K H true (.lst []) w cs->l∈cs->0<es.length->False:=λh1 h2 h3=>by
  rw[vjo h1 h2 hH]at len;rw[len]at h3;exact absurd h3 (by decide)
 unfold Vq at hu
 split at hu
 ·exact nl r hl (of_decide_eq_true hu)
 ·rename_i i d;rw[Bool.and_eq_true]at hu;unfold RepL at r;obtain⟨a,xs,bs,rfl,ra,q⟩:=r;obtain⟨x,y,b1,b2,rfl,rfl,r1,r2⟩:=kz6 ra;unfold RepL at r1;obtain⟨rfl,rfl⟩:=r1;have hb:b2=[]:=(RepL.pu (g':=true) r2 hu.1).1;subst hb;have hz:=qq4 ra rfl q hl hH;subst hz;have h2:=hu.2
  split at h2
  ·unfold RepA at re;obtain⟨x,_,_,_,e,_,h,_⟩:=re;unfold RepL at h;rw[h.1]at e;cases e
  ·unfold RepA at re;obtain⟨x,_,_,_,e,_,h,_⟩:=re;unfold RepL at h;obtain⟨_,_,h,_⟩:=h;rw[h]at e;cases e
  ·cases h2
 ·rename_i a;rw[Bool.and_eq_true]at hu;unfold RepL at r;obtain⟨_,xs,rfl,_,ra⟩:=r;obtain⟨x,y,b1,b2,rfl,rfl,r1,r2⟩:=kz6 ra;have hb:b1=[]:=(RepL.pu (g':=true) r1 hu.1).1;subst hb;exact nl r2 hl (of_decide_eq_true hu.2)
 ·rename_i a b;rw[Bool.and_eq_true,Bool.and_eq_true]at hu;unfold RepL at r;obtain⟨_,xs,rfl,_,ra⟩:=r;obtain⟨x,y,b1,b2,rfl,rfl,r1,r2⟩:=kz6 ra;have hb:b1=[]:=(RepL.pu (g':=true) r1 hu.1.1).1;subst hb;unfold RepL at r2;obtain⟨_,xs,rfl,_,ra⟩:=r2;obtain⟨x,y,b1,b3,rfl,rfl,r1,r2⟩:=kz6 ra;have hb:b3=[]:=(RepL.pu (g':=true) r2 hu.1.2).1;subst hb;rw[List.nil_append,Y0]at hl;exact nl r1 hl (of_decide_eq_true hu.2)
 ·exact pu hu
theorem qxe{E:En}{σ:L2.St}{L:Ls}(m:Mt E σ L)(ok:∀x,some x∈L->x.ok K H)(h:JY E=true):j7 L=[]:=by
 induction m with
 | nil=>rfl
 | un m ih=>rw[kkq];exact ih (λx hx=>ok x (lc9 _ hx)) (by simpa [JY]using h)
 | @cons E σ L x m ih=>
  have mv:=ok x X3;have h2:JY E=true/\x.own=[]:=by
   have hi:∀i,x.d=.int i->x.own=[]:=λi hd=>by
    have:=RepO.wk mv;rw[hd]at this;unfold RepL at this;refine List.eq_nil_iff_forall_not_mem.mpr λa ha=>?_
    have:=Sl.own_as ha
    simp_all
   cases hxo:x.o with
   |no=>rw[hxo]at h;exact⟨by simpa [JY]using h,by unfold Sl.own;rw[hxo]⟩
   |_=>cases hxd:x.d with
    |int i=>rw[hxo,hxd]at h;exact⟨by simpa [JY]using h,hi i hxd⟩
    |_=>rw[hxo,hxd]at h;simp[JY]at h
  rw[jK,h2.2,ih (λx hx=>ok x (lc9 _ hx)) h2.1];rfl
end
section
variable {X:Cx}{Z:Fx0}{pn:List Nat}{q:Bool}{c:Ex}{ea tg:Expr}{pos:Pos}
theorem vqx{i j:Nat}(h:QE X Z q c ea)(hg:PG X tg (vz1 Z.K 2 (gNs [i,j])))(hi:autoParam (i∉pn) ŕ)(hj:autoParam (j∉pn) ŕ)(hs:autoParam (swapsWithSole [tg] ea pos.line X.env=pure false) Ŕ)(hw:autoParam (swappedStores [tg] ea X.env=pure none) Ŕ)(h1:autoParam ((assignEach [tg] X.env).map (·.2)=[assign tg X.env]) Ŕ):
  QS X Z pn (qwi i j c) (.Assign [tg] ea pos):=JZ (kz3 h hg hs hw h1) λD σ H av=>ex7 av λE L r m w hc k=>
 Vk m w (show ofE (c E) _=some r from hc) k λE1 s h1 x L1 H1 e1 e2 m1 w1 st _=>by
  split at h1
  rotate_left
  ·cases h1
  rename_i a b;cases oq9 h1;have ok:=w1.head;unfold Sl.ok at ok;rw [e1,e2]at ok;have ok:RepL Z.K H1 false (.tup [a,b]) x.v x.as:=ok;unfold RepL at ok;obtain⟨ad,xs,ev,sq,ra⟩:=ok;unfold RepA at ra;obtain⟨x1,r1,bs,cs0,rfl,eas,ra1,ra⟩:=ra;unfold RepA at ra;obtain⟨x2,r2,cs,ds,rfl,rfl,ra2,ra⟩:=ra;unfold RepA at ra;obtain⟨rfl,rfl⟩:=ra;rw [Y0]at eas;have xo:x.own=bs++cs:=by unfold Sl.own;rw[e1,eas]
  have xf:x.frz=[]:=by unfold Sl.frz;rw[e1]
  have nd:=w1.nd;rw [jK,xo,Xm]at nd;rw [Xa]at nd;have w2:World Z.K H1 (some ⟨.no,a,x1,bs⟩::some ⟨.dp,b,x2,cs⟩::L1):=by
   refine⟨λy hy=>?_,by simpa [Sl.own]using nd.2.1,λd hd hf=>?_⟩
   ·rcases List.mem_cons.mp hy with z|hy
    ·cases z;exact ra1.wk
    ·rcases List.mem_cons.mp hy with z|hy
     ·cases z;exact ra2
     ·exact w1.ok y (lc9 _ hy)
   ·have hd:d∈cs++j7 L1:=by simpa [Sl.own]using hd
    have hf:d∈bs\/d∈jW L1:=by simpa [Sl.frz]using hf
    rcases hf with hf|hf
    ·exact nd.2.2 d hf d hd rfl
    ·exact w1.ds d (by rw[jK,xo,Xm];exact lr9 _ hd) (by rw[qJ];exact lr9 _ hf)
  have s2:Step H1 (some x::L1) H1 (some ⟨.no,a,x1,bs⟩::some ⟨.dp,b,x2,cs⟩::L1):=by
   refine⟨λ_ _ h _=>h,λd hd=>.inl ?_,λd hd=>?_⟩
   ·have hd:d∈cs++j7 L1:=by simpa [Sl.own]using hd
    rw[jK,xo,Xm];exact lr9 _ hd
   ·have hf:d∈bs\/d∈jW L1:=by simpa [Sl.frz]using hd
    rcases hf with hf|hf
    ·exact .inr (.inl (by rw[jK,xo,Xm];exact ll9 _ hf))
    ·exact .inl (by rw[qJ];exact lr9 _ hf)
  refine⟨ad,_,ev,.inl sq,rfl,x1,_,rfl,x2,_,rfl,rfl,?_⟩;have w3:=w2.set (i:=i+1);have s3:=s2.trans (Step.set (i:=i+1));exact k _ _ H1 ((Pn.refl.set hi).set hj) (Jx (x:=⟨.dp,b,x2,cs⟩) (Jx (x:=⟨.no,a,x1,bs⟩) m1 rfl rfl) rfl rfl) w3.set (st.trans (s3.trans Step.set))
theorem vzo{i:Nat}{A:Sm}{st:Stmt}(h:QS X Z pn A st):QS X Z pn (vxt i A) st:=JZ h λD σ H av=>ex7 av λE L r m w hc k=>by
 have hc:A (vxv i E)=some r:=hc;unfold vxv at hc
 split at hc
 rotate_left
 ·exact⟨E,L,r,m,w,hc,k⟩
 rename_i ds hE;obtain⟨x,h1,h2,h3,h4⟩:=m.get hE;obtain⟨l,xs,bs,c1,c2,c3,c4,c5⟩:=qz6 (w.ok x (ww h1)) h3 h2;obtain⟨w0,s0⟩:=jzz w h1;have nd:=w0.nd;rw [jK,c4,Xa,List.nodup_cons]at nd;have w1:World Z.K H (some ⟨.rt,.lst ds,x.v,l::bs⟩::L.set i none):=by
  refine⟨λy hy=>?_,?_,λa ha hf=>?_⟩
  ·rcases List.mem_cons.mp hy with z|hy
   ·cases z;exact⟨l,xs,bs,c1,c5.wk,c2,rfl⟩
   ·exact w0.ok y (lc9 _ hy)
  ·rw[jK];exact List.nodup_cons.mpr ⟨λz=>nd.2.2 l X3 l z rfl,nd.2.1⟩
  ·have ha:a∈l::j7 (L.set i none):=ha;have hf:a∈bs++jW (L.set i none):=hf;rcases List.mem_append.mp hf with hf|hf
   ·rcases List.mem_cons.mp ha with z|ha
    ·exact nd.1.1 (z▸hf)
    ·exact nd.2.2 a (lc9 _ hf) a ha rfl
   ·refine w0.ds a ?_ (by rw[qJ];exact lr9 _ hf);rw[jK,c4];rcases List.mem_cons.mp ha with rfl|ha
    ·exact ll9 _ X3
    ·exact lr9 _ ha
 have s1:Step H (some x::L.set i none) H (some ⟨.rt,.lst ds,x.v,l::bs⟩::L.set i none):=by
  refine⟨λ_ _ h _=>h,λa ha=>.inl ?_,λa ha=>?_⟩
  ·have ha:a∈l::j7 (L.set i none):=ha;rw[jK,c4];rcases List.mem_cons.mp ha with rfl|ha
   ·exact ll9 _ X3
   ·exact lr9 _ ha
  ·have hf:a∈bs++jW (L.set i none):=ha;rcases List.mem_append.mp hf with hf|hf
   ·exact .inr (.inl (by rw[jK,c4];exact ll9 _ (lc9 _ hf)))
   ·exact .inl (by rw[qJ];exact lr9 _ hf)
 have m1:=Jx (i:=i) (x:=⟨.rt,.lst ds,x.v,l::bs⟩) (s:=(.rt,.lst ds)) m rfl rfl;rw[KQ h4]at m1;have w2:=w1.set (i:=i);have s2:=(s0.trans s1).trans (Step.set (i:=i));rw[List.set_set]at w2 s2;exact⟨_,_,r,m1,w2,hc,k.step s2 Pn.refl⟩
theorem qq0{L:Ls}{r:Nat}{a:Addr}(h:a∈j7 (L.set r none)):a∈j7 L:=by
 obtain⟨x,hx,ha⟩:=mem_owned.mp h;rcases Y4 hx with z|z
 ·exact mem_owned.mpr ⟨x,z,ha⟩
 ·cases z
theorem kku{L:Ls}{r:Nat}{a:Addr}(h:a∈jW (L.set r none)):a∈jW L:=by
 obtain⟨x,hx,ha⟩:=mem_frozen.mp h;rcases Y4 hx with z|z
 ·exact mem_frozen.mpr ⟨x,z,ha⟩
 ·cases z
theorem World.eqH{K:PySem.W.Frag}{H H':Hp}{L:Ls}(w:World K H L)(s:kj H H'):World K H' L:=⟨λy hy=>RepO.kp (w.ok y hy) (Kp.of_same s),w.nd,w.ds⟩
theorem q_al{i jc ik ir:Nat}{ct ck cb:Ex}{f:Fn}{cs:List Ex}{B:Sm}{ss:List Stmt}{x1 r1 et ek x3 eb x4 c4 k4:Expr}{es:List Expr}{yc yk xf:Str}{kf nf:Nat}{ps:List Str}{p0 p1 p2 p3 p4 p5 p6 p7 p8 p9 pa pb pc pd:Pos}(pz:autoParam (i≠jc) ŕ)(hik:autoParam (i≠ik) ŕ)(hjk:autoParam (jc≠ik) ŕ)
  (hN:X.N.Nodup) (hic:X.N[jc]?=some yc) (hxc:Loc X.env.scope yc) (hik2:X.N[ik]?=some yk) (hxk:Loc X.env.scope yk)
  (hx1:PE X x1 (xW i)) (hr1:PE X r1 (xW ir)) (hpr:W9 r1) {z0:Nat} (hpc:W9 (.Constant (.int 2) z0 p0)) (ht:QE X Z true ct et) (hpt:W9 et) (hk:QE X Z true ck ek)
  (hx3:PE X x3 (xW i)) (hb:QE X Z true cb eb) (hm:MtR X "list.append" kq9)
  (hx4:PE X x4 (xW i)) (ha:QAV X Z cs es) (D:qx X.prog X.w X.K X.mg X.base kf xf ps (spF Z.K Z.mg nf f)) (hr:Room kf X.A) (g:zQ X Z.EX) (hc4:PE X c4 (xW jc)) (hk4:PE X k4 (xW ik))
  (j8:QSs X Z pn B ss)
  (hn:autoParam (cs.length+1=nf) Ŕ) (hK:autoParam (X.K=Z.K) Ŕ) (hpj:autoParam (jc∉pn) ŕ) (hpk:autoParam (ik∉pn) ŕ)
  (hs1:autoParam (swapsWith (.Subscript (.Subscript (.Subscript x1 r1 p1) (.Constant (.int 2) z0 p0) p2) et p3) (some (.Name yc p4)) p5.line X.env=pure false) Ŕ)
  (hf1:autoParam (X.fn yc=true\/X.env.scope.names.lookup yc=some .local) Ř)
  (lf:autoParam (swapsWith ek (some (.Name yk p6)) p7.line X.env=pure false) Ŕ)
  (hf2:autoParam (X.fn yk=true\/X.env.scope.names.lookup yk=some .local) Ř)
  (dy:autoParam (attributeBase x3 "append" X.env (eval x3 X.env)=eval x3 X.env) Ŕ)
  (gy:autoParam (((backTo p9 (starEach [eb] X.env)).all (λx=>!x.1)&&(backToKw p9 (keywordEach [] X.env)).all (λx=>x.1.isSome)
   && decide ([eb].length+([]:List Keyword).length+(if([]:List Keyword).isEmpty then 0 else 1)<30))=true) Ŕ)
  (eh:autoParam ((p8.endLine==p9.line)=true) Ŕ) (hse:autoParam (starEach [eb] X.env=(false,eval eb X.env)::starEach [] X.env) Ŕ) (cw:autoParam ((backTo p9 (starEach [] X.env)).any (·.1)=false) Ŕ)
  (mi:autoParam (swapsWith (.Call (.Attribute x3 "append" p8) [eb] [] p9) none pa.line X.env=pure false) Ŕ)
  (hgl:autoParam (Gl X xf) Ŕ) (f9:autoParam ((xf==("__debug__":Str))=false) ŕ)
  (bo:autoParam (starEach (x4::es) X.env=(false,eval x4 X.env)::starEach es X.env) Ŕ) (bn:autoParam ((backTo pb (starEach es X.env)).any (·.1)=false) Ŕ)
  (hs4:autoParam (swapsWithSole [.Subscript c4 k4 pc] (.Call (.Name xf p) (x4::es) [] pb) pd.line X.env=pure false) Ŕ) (hw4:autoParam (swappedStores [.Subscript c4 k4 pc] (.Call (.Name xf p) (x4::es) [] pb) X.env=pure none) Ŕ)
  (h14:autoParam ((assignEach [.Subscript c4 k4 pc] X.env).map (·.2)=[assign (.Subscript c4 k4 pc) X.env]) Ŕ)
  (ha4:autoParam (∀v,assign (.Subscript c4 k4 pc) X.env v=(do
   let ov <-holding [v] (eval c4 X.env)
   let iv <-holding [v,ov] (eval k4 X.env)
   standAt pc
   holding [v,ov,iv] (setItem ov iv v)
   release [v,ov,iv] [])) Ŗ):
  QSs X Z pn (j6 (sAl i jc ik ir ct ck cb f cs) B) (.Assign [.Name yc p4] (.Subscript (.Subscript (.Subscript x1 r1 p1) (.Constant (.int 2) z0 p0) p2) et p3) p5 :: .Assign [.Name yk p6] ek p7 :: .Expr (.Call (.Attribute x3 "append" p8) [eb] [] p9) pa :: .Assign [.Subscript c4 k4 pc] (.Call (.Name xf p) (x4::es) [] pb) pd::ss):=
 kwu (jxl (qkn hN hic hxc (qwq (hK▸kzi) (qwq (hK▸kzi) (qwq (hK▸kzi) hx1 hr1 hpr) qku hpc) ht hpt) hs1 hf1)
  (jxl (qkn hN hik2 hxk hk lf hf2)
  (jxl (qko (qkx Z.K PySem.F.plainAttrs_list PySem.F.slot_list_append PySem.F.type_list_append hm hx3 (wj hb xj hse) dy gy eh hse cw hK) mi)
  (jxl (kz3 (qkv D hr g (wj hx4 ha bo) hgl f9 bo bn) (qxs hc4 hk4 kxr ha4) hs4 hw4 h14) j8)))) λDe σ H av=>ex7 av λE L r m w hc k=>by
 unfold j6 at hc;cases hA:sAl i jc ik ir ct ck cb f cs E with
 | none=>rw[hA]at hc;cases hc
 | some fl=>?_
 rw [hA]at hc;unfold sAl at hA
 split at hA
 rotate_left
 ·cases hA
 rename_i rs orr r0 hEi hEr
 split at hA
 rotate_left
 ·cases hA
 rename_i Et ot t hct
 split at hA
 rotate_left
 ·cases hA
 rename_i d0 d1 st hrs
 split at hA
 rotate_left
 ·cases hA
 rename_i es0 hst0
 split at hA
 rotate_left
 ·cases hA
 rename_i Ek ok kn hck
 split at hA
 rotate_left
 ·cases hA
 rename_i Eb db hcb
 split at hA
 rotate_left
 ·cases hA
 rename_i Ea ys hargs
 split at hA
 rotate_left
 ·cases hA
 rename_i Ef ov dv hfv
 split at hA
 rotate_left
 ·cases hA
 rename_i n hix
 split at hA
 rotate_left
 ·cases hA
 rename_i hcond;obtain⟨hpu,gw,qh,hun,hjc,hikl⟩:=hcond;cases oq9 hA;obtain⟨y,a1,a2,a3,a4⟩:=m.get hEi;obtain⟨yr,b1,b2,b3,b4⟩:=m.get hEr;have vr:yr.v=.int (.ofNat r0):=qz (w.ok yr (ww b1)) b3;obtain⟨l0,xs,bs,c1,c2,c3,c4,c5⟩:=qz6 (w.ok y (ww a1)) a3 a2;obtain⟨w0,s0⟩:=jzz w a1;have nd0:=w0.nd;rw [jK,c4,Xa,List.nodup_cons]at nd0;obtain⟨⟨n0,n1⟩,_,n3⟩:=nd0;have kg:∀b∈l0::bs,b∈j7 L:=λb hb=>mem_owned.mpr ⟨y,ww a1,by rw[c4];exact hb⟩
 obtain⟨xr,br,g1,g2,g3,g4,g5⟩:=RepA.part c5 n1 hrs;unfold RepL at g2;obtain⟨km,xs3,rfl,sq3,ra3⟩:=g2;obtain⟨x2,b20,q1,q2,q3,q4,q5⟩:=RepA.part (n:=2) ra3 g3 rfl;unfold RepL at q2;obtain⟨l2,sts,fs2,rfl,ra2,hq2⟩:=q2;rcases hq2 with⟨h2,rfl⟩|⟨z,_⟩
 rotate_left
 ·cases z
 obtain⟨x10,b10,t1,t2,t3,t4,t5⟩:=RepA.part ra2 (List.nodup_cons.mp q3).2 hst0;unfold RepL at t2;obtain⟨l,zs,fs,rfl,rae,hq3⟩:=t2;rcases hq3 with⟨hl,rfl⟩|⟨z,_⟩
 rotate_left
 ·cases z
 have md:∀b∈l::fs,b∈bs:=λb hb=>g4 b (q4 b (lc9 _ (t4 b hb)))
 have jr:∀b∈l2::fs2,b∈bs:=λb hb=>g4 b (q4 b hb)
 have ll0:l≠l0:=λz=>n0 (z▸md l X3)
 have l2l:l2≠l:=λz=>(List.nodup_cons.mp q3).1 (t4 l2 (by rw[z];exact X3))
 have l2l0:l2≠l0:=λz=>n0 (z▸jr l2 X3)
 refine⟨y.v,a4,yr.v,b4,.inl ⟨l0,xs,.ofNat r0,.ref km,c1,vr,.inl (.inl c2),kxf g1,.inr (.inl ⟨km,xs3,2,.ref l2,rfl,rfl,sq3,kxf (n:=2) q1,?_⟩)⟩⟩;refine⟨E,L,_,m,w,hct,(λ_ _ z=>by cases z),λE' s z x L' H1 e1 e2 m' w' mt gq=>?_⟩;injection z with z1 z2;subst z1 z2;have gq:=(gq rfl).1;refine .inl ⟨l2,sts,.ofNat t,.ref l,rfl,qz w'.head e2,.inl (.inl (gq _ _ h2)),kxf t1,?_⟩;have w1:World Z.K H1 L:=w.eqH gq;have m1:Mt (E.set jc none) (σ.set jc (some (.ref l))) (L.set jc none):=wj8 jc m;have m2v:Mt (((E.set jc none).set i none).set jc (some (.no,.lst es0))) (σ.set jc (some (.ref l))) (((L.set jc none).set i none).set jc (some ⟨.no,.lst es0,.ref l,l::fs⟩)):=by
  have:=Jx (i:=jc) (x:=⟨.no,.lst es0,.ref l,l::fs⟩) (s:=(.no,.lst es0)) (kx0 i m1) rfl rfl
  rwa [List.set_set]at this
 have w2v:World Z.K H1 (((L.set jc none).set i none).set jc (some ⟨.no,.lst es0,.ref l,l::fs⟩)):=by
  refine World.set (World.consNo (World.out1 i (World.out1 jc w1).1).1 (x:=⟨.no,.lst es0,.ref l,l::fs⟩) ?_ rfl λb hb ho=>?_)
  ·show RepL Z.K H1 true _ _ _;unfold RepL;exact⟨l,zs,fs,rfl,(rae.kp (Kp.of_same gq)).wk,.inl ⟨gq _ _ hl,rfl⟩⟩
  ·rw [List.set_comm _ _ (Z6 pz)]at ho;exact n3 b (lc9 _ (md b hb)) b (qq0 ho) rfl
 refine⟨_,_,_,m2v,w2v,hck,(λ_ _ z=>by cases z),λE' s z x L' H2 e1 e2 m' w' bm dh=>?_⟩;injection z with z1 z2;subst z1 z2;have dh:=(dh rfl).1;have vx:x.v=.int kn:=qz w'.head e2;rw [vx];have f7:kj H H2:=qk gq dh;have wz:World Z.K H2 (L.set jc none):=(World.out1 jc (w1.eqH dh)).1;have m2:Mt ((E.set jc none).set ik (some (.dp,.int kn))) ((σ.set jc (some (.ref l))).set ik (some (.int kn))) ((L.set jc none).set ik (some ⟨.dp,.int kn,.int kn,[]⟩)):=Jx (x:=⟨.dp,.int kn,.int kn,[]⟩) m1 rfl rfl;have w2:World Z.K H2 ((L.set jc none).set ik (some ⟨.dp,.int kn,.int kn,[]⟩)):=World.set (World.consPu (x:=⟨.dp,.int kn,.int kn,[]⟩) wz (by show RepL Z.K H2 false _ _ _;unfold RepL;exact⟨rfl,rfl⟩) rfl);have y2:((L.set jc none).set ik (some ⟨.dp,.int kn,.int kn,[]⟩))[i]?=some (some y):=by
  rw [Xz (Z6 hik),Xz (Z6 pz)];exact a1
 have si:((σ.set jc (some (.ref l))).set ik (some (.int kn)))[i]?=some (some y.v):=by
  rw [Xz (Z6 hik),Xz (Z6 pz)];exact a4
 have hσ:E.length=σ.length:=m.len.1;have sc:((σ.set jc (some (.ref l))).set ik (some (.int kn)))[jc]?=some (some (.ref l)):=by
  rw [Xz (Z6 hjk),Ye (by rw[<-hσ];exact hjc)]
 have sk:((σ.set jc (some (.ref l))).set ik (some (.int kn)))[ik]?=some (some (.int kn)):=by
  rw [Ye (by rw[Yx,<-hσ];exact hikl)]
 refine⟨y.v,si,by rw[c1];exact vky (f7 _ _ c2),?_⟩;refine⟨_,_,_,m2,w2,hcb,(λ_ _ z=>by cases z),λE' s z xb L' H3 e1 e2 m' w' d3 i5=>?_⟩;injection z with z1 z2;subst z1 z2;obtain⟨i5,fy⟩:=i5 rfl;have e1:xb.o=.dp:=e1;have e2:xb.d=db:=e2;have ig:kj H H3:=qk f7 i5;have js:xb.own=xb.as:=vvw e1;have qu:xb.frz=[]:=vwy e1;have xnd:xb.as.Nodup:=by
  have:=w'.nd;rw [jK,js,Xa]at this;exact this.1
 have fy:∀b∈xb.as,H2 b=none:=λb hb=>fy b (by rw[js];exact hb)
 have rxb:RepL Z.K H3 false db xb.v xb.as:=by
  have:=w'.head;unfold Sl.ok at this;rw [e1,e2]at this;exact this
 have w3:World Z.K H3 ((L.set jc none).set ik (some ⟨.dp,.int kn,.int kn,[]⟩)):=w2.eqH i5;have w3x:World Z.K H3 ([some xb]++(L.set jc none).set ik (some ⟨.dp,.int kn,.int kn,[]⟩)):=World.cons w3 w'.head (by rw[js];exact xnd) (λb hb hL=>w2.own_some hL (fy b (Sl.own_as hb))) (λb hb hL=>w2.frz_some hL (fy b (Sl.own_as hb))) (λb hb=>by rw[qu]at hb;cases hb) (λb hb hL=>by rw[qu]at hL;cases hL);have nl0:l0∉xb.as:=λz=>by have:=fy l0 z;rw[f7 _ _ c2]at this;cases this
 have nl:l∉xb.as:=λz=>by have:=fy l z;rw[f7 _ _ hl]at this;cases this
 have h3:=ig _ _ c2;have ok4:(⟨.dp,.lst (rs++[db]),y.v,l0::(bs++xb.as)⟩:Sl).ok Z.K (upd H3 l0 (.lst (xs++[xb.v]))):=by
  show RepL Z.K _ false _ _ _;unfold RepL;exact⟨l0,_,bs++xb.as,c1,RepA.snoc (rxb.kp (kzh h3 nl0)) ((c5.kp (Kp.of_same ig)).kp (kzh h3 n0)),.inl ⟨xq,rfl⟩⟩
 have bsH:∀b∈bs,H b≠none:=λb hb=>w.own_some (kg b (lc9 _ hb))
 obtain⟨w4,s4⟩:=World.writeAt (T:=[some xb]) (y':=⟨.dp,.lst (rs++[db]),y.v,l0::(bs++xb.as)⟩) w3x y2 (l:=l0) (by rw[c4];exact X3) ok4 (by
   show(l0::(bs++xb.as)).Nodup;rw [List.nodup_cons,Xa];exact⟨λz=>(List.mem_append.mp z).elim n0 nl0,n1,xnd,λa ha b hb jo=>bsH a ha (zj f7 (fy a (jo▸hb)))⟩) (λa ha=>by
   have ha:a∈l0::(bs++xb.as):=ha;rw [c4,jK,js];rcases List.mem_cons.mp ha with rfl|ha
   ·exact .inl X3
   ·exact(List.mem_append.mp ha).imp (lc9 _) (ll9 _)) (λa ha=>nomatch ha) (λa ha z=>nomatch z)
 refine⟨l0,xs,xb.v,c1,rfl,h3,by rw[<-c5.len];exact gw,?_⟩;have m4:=Jx (i:=i) (x:=⟨.dp,.lst (rs++[db]),y.v,l0::(bs++xb.as)⟩) (s:=(.dp,.lst (rs++[db]))) m2 rfl rfl;rw [KQ si]at m4;refine⟨y.v,si,_,_,_,m4,w4,hargs,(λ_ _ z=>by cases z),λE' ys' z mx L' H5 e3 m' w' ok5 il oi=>?_⟩;injection z with z1 z2;subst z1 z2;have ok4':=w4.ok _ (ww (x:=⟨.dp,.lst (rs++[db]),y.v,l0::(bs++xb.as)⟩) (i:=i) (Ye (List.getElem?_eq_some_iff.mp y2).1));have iy:∀(zz:List Sl),(∀u∈zz,u.o=.no)->j7 (zz.map some)=[]:=λzz hz=>List.eq_nil_iff_forall_not_mem.mpr λa ha=>by
  obtain⟨u,hu,lm⟩:=mem_owned.mp ha;obtain⟨u',hu',e⟩:=List.mem_map.mp hu;cases e;rw [kz8 (hz u hu')]at lm;cases lm
 have d9:∀u∈(⟨.no,.lst (rs++[db]),y.v,l0::(bs++xb.as)⟩:Sl)::mx.map (λu=>(⟨.no,u.d,u.v,[]⟩:Sl)),u.o=.no:=λu hu=>by
  rcases List.mem_cons.mp hu with rfl|hu
  ·rfl
  ·obtain⟨_,_,rfl⟩:=List.mem_map.mp hu;rfl
 have hpx:∀u∈mx,u.d.pure=true:=λu hu=>by
  have:=List.all_eq_true.mp hpu (u.o,u.d) (by rw[<-e3];exact Xh (f:=Sl.sd) hu);exact this
 have w5:World Z.K H5 (((⟨.no,.lst (rs++[db]),y.v,l0::(bs++xb.as)⟩:Sl)::mx.map (λu=>(⟨.no,u.d,u.v,[]⟩:Sl))).map some):=by
  refine⟨λu hu=>?_,by rw[iy _ d9];exact Y1,λa ha=>by rw[iy _ d9]at ha;cases ha⟩;obtain⟨u',hu',e⟩:=List.mem_map.mp hu;cases e;rcases List.mem_cons.mp hu' with rfl|hu'
  ·exact(RepL.kp (show RepL Z.K _ false _ _ _ from ok4') (Kp.of_same oi)).wk
  ·obtain⟨u,hu2,rfl⟩:=List.mem_map.mp hu';exact(RepL.pu (g':=true) (RepO.wk (ok5 u hu2)) (hpx u hu2)).2
 have ef:((⟨.no,.lst (rs++[db]),y.v,l0::(bs++xb.as)⟩:Sl)::mx.map (λu=>(⟨.no,u.d,u.v,[]⟩:Sl))).map Sl.sd=(.no,.lst (rs++[db]))::letAll ys:=by
  rw [List.map_cons,<-e3];unfold letAll;rw [Y3,Y3];rfl
 have aj:mx.length=cs.length:=by rw[<-jz2 hargs,<-e3,X5]
 rw [Y0];refine⟨(⟨.no,.lst (rs++[db]),y.v,l0::(bs++xb.as)⟩:Sl)::mx.map (λu=>(⟨.no,u.d,u.v,[]⟩:Sl)),_,by rw[List.map_cons,Y3];rfl,by rw[Ya,X5,aj];exact hn,w5,by rw[ef];exact hfv,(λ_ _ z=>by cases z),λE' a z x5 H6 e4 e5 w6 st6=>?_⟩;injection z with z1 z2;subst z1 z2;have og:kj H5 H6:=λb ob hb=>st6.keep b ob hb λz=>by rw[iy _ d9]at z;cases z
 have e5:x5.d=dv:=e5;have r5:RepL Z.K H6 true dv x5.v x5.as:=by rw[<-e5];exact RepO.wk w6.head
 have src5:∀b∈x5.as,b∈l0::(bs++xb.as)\/H5 b=none:=λb hb=>by
  rcases Sl.as_of hb with z|z
  ·rcases st6.own b (by rw[jK];exact ll9 _ z)with z|z
   ·rw[iy _ d9]at z;cases z
   ·exact .inr z
  ·rcases st6.frz b (by rw[qJ];exact ll9 _ z)with z|z|z
   ·obtain⟨u,hu,lm⟩:=mem_frozen.mp z;obtain⟨u',hu',e⟩:=List.mem_map.mp hu;cases e;rcases List.mem_cons.mp hu' with rfl|hu'
    ·exact .inl lm
    ·obtain⟨u,hu,rfl⟩:=List.mem_map.mp hu';cases lm
   ·rw[iy _ d9]at z;cases z
   ·exact .inr z
 have m8:∀b ob,H3 b=some ob->b≠l0->H6 b=some ob:=λb ob hb hn=>og _ _ (oi _ _ (by rw[kW hn];exact hb))
 have nz:∀b ob,H b=some ob->b≠l0->H6 b=some ob:=λb ob hb hn=>m8 b ob (ig _ _ hb) hn
 have hl6:H6 l=some (.lst zs):=nz l _ hl ll0;have h06:H6 l0=some (.lst (xs++[xb.v])):=og _ _ (oi _ _ xq);have lz:zs.length=es0.length:=rae.len.symm;refine⟨.ref l,sc,.int kn,sk,l,zs,kn,n,rfl,rfl,hl6,by rw[lz];exact hix,?_⟩;have r9:RepA Z.K H6 false es0 zs fs:=rae.kp ⟨λa xs e=>nz a _ e (λz=>by subst z;rw[c2]at e;cases e),λa o u e=>nz a _ e (λz=>by subst z;rw[c2]at e;cases e),λa ha ob e=>nz a _ e λz=>n0 (z▸md a (lc9 _ ha))⟩;have nl5:l∉x5.as:=kzx hun r5 hl6 r9;have keep:∀b ob,H b=some ob->b≠l0->b≠l->upd H6 l (.lst (zs.set n x5.v)) b=some ob:=λb ob hb h0 h1=>by rw[kW h1];exact nz b ob hb h0
 have kx:∀as cs:List Addr,l0∉as->l∈cs->Kx H (upd H6 l (.lst (zs.set n x5.v))) as cs:=λas cs h0 hc=>⟨λa xs e=>keep a _ e (λz=>by subst z;rw[c2]at e;cases e) (λz=>by subst z;rw[hl]at e;cases e),λa o u e=>keep a _ e (λz=>by subst z;rw[c2]at e;cases e) (λz=>by subst z;rw[hl]at e;cases e),λb hb hn ob e=>keep b ob e (λz=>h0 (z▸hb)) λz=>hn (z▸hc)⟩
 have re7:RepA Z.K (upd H6 l (.lst (zs.set n x5.v))) true es0 zs fs:=(r9.kp (kzh hl6 (List.nodup_cons.mp t3).1)).wk;obtain⟨es7,u1,u2⟩:=RepA.setW (r5.kp (kzh hl6 nl5)) n re7;obtain⟨as2,v1,v2⟩:=t5 (upd H6 l (.lst (zs.set n x5.v))) (.lst (es0.set n dv)) (l::es7) (kx _ _ (λz=>n0 (jr _ (lc9 _ z))) X3) (by
  unfold RepL;exact⟨l,_,es7,rfl,u1,.inl ⟨xq,rfl⟩⟩)
 obtain⟨as3,w1',w2'⟩:=q5 (upd H6 l (.lst (zs.set n x5.v))) (.lst (st.set t (.lst (es0.set n dv)))) (l2::as2) (kx _ _ (λz=>n0 (g4 _ z)) (lc9 _ (t4 l X3))) (by
  unfold RepL;exact⟨l2,_,as2,rfl,v1,.inl ⟨keep _ _ h2 l2l0 l2l,rfl⟩⟩)
 obtain⟨ml,y1',y2'⟩:=g5 (upd H6 l (.lst (zs.set n x5.v))) (.tup [d0,d1,.lst (st.set t (.lst (es0.set n dv)))]) as3 (kx _ _ n0 (q4 l (lc9 _ (t4 l X3)))) (by
  unfold RepL;exact⟨km,xs3,rfl,Kp.tupT (as:=[]) ⟨(kx [] [l] (λz=>nomatch z) X3).tup,(kx [] [l] (λz=>nomatch z) X3).frz,λ_ z=>nomatch z⟩ sq3,w1'⟩)
 have rx7:RepL Z.K (upd H6 l (.lst (zs.set n x5.v))) true db xb.v xb.as:=(rxb.kp ⟨λa xs e=>(by rw[kW (λz=>by subst z;rw[ig _ _ hl]at e;cases e)];exact m8 a _ e (λz=>by subst z;rw[h3]at e;cases e)),λa o u e=>(by rw[kW (λz=>by subst z;rw[ig _ _ hl]at e;cases e)];exact m8 a _ e (λz=>by subst z;rw[h3]at e;cases e)),λa ha ob e=>by rw[kW (show a≠l from λz=>nl (z▸ha))];exact m8 a _ e λz=>nl0 (z▸ha)⟩).wk;have ok7:(⟨.no,.lst (rs.set r0 (.tup [d0,d1,.lst (st.set t (.lst (es0.set n dv)))])++[db]),y.v,l0::(ml++xb.as)⟩:Sl).ok Z.K (upd H6 l (.lst (zs.set n x5.v))):=by
  show RepL Z.K _ true _ _ _;unfold RepL;exact⟨l0,_,ml++xb.as,c1,RepA.snoc rx7 y1',.inl ⟨by rw[kW (Z6 ll0)];exact h06,rfl⟩⟩
 have lr:j7 (((L.set jc none).set ik (some ⟨.dp,.int kn,.int kn,[]⟩)).set i none)=[]:=qxe (kx0 i m2) (World.out1 i w2).1.ok qh;obtain⟨w2t,_⟩:=jzz w2 y2;have ic:∀u,some u∈((L.set jc none).set ik (some ⟨.dp,.int kn,.int kn,[]⟩)).set i none->u.ok Z.K (upd H6 l (.lst (zs.set n x5.v))):=λu hu=>by
  have hn:∀b∈l0::bs,b∉u.as:=λb hb hbu=>by
   rcases Sl.as_of hbu with z|z
   ·have:b∈j7 (((L.set jc none).set ik (some ⟨.dp,.int kn,.int kn,[]⟩)).set i none):=mem_owned.mpr ⟨u,hu,z⟩;rw[lr]at this;cases this
   ·exact w2t.ds b (by rw[jK,c4];exact ll9 _ hb) (by rw[qJ];exact lr9 _ (mem_frozen.mpr ⟨u,hu,z⟩))
  refine RepO.kp (w2t.ok u (lc9 _ hu)) ⟨λa xs e=>?_,λa o uu e=>?_,λa ha ob e=>?_⟩
  ·rw [kW (λz=>by subst z;rw[f7 _ _ hl]at e;cases e)];exact m8 a _ (i5 _ _ e) λz=>by subst z;rw[f7 _ _ c2]at e;cases e
  ·rw [kW (λz=>by subst z;rw[f7 _ _ hl]at e;cases e)];exact m8 a _ (i5 _ _ e) λz=>by subst z;rw[f7 _ _ c2]at e;cases e
  ·rw [kW (show a≠l from λz=>hn l (lc9 _ (md l X3)) (z▸ha))];exact m8 a _ (i5 _ _ e) λz=>hn l0 X3 (z▸ha)
 have w7:World Z.K (upd H6 l (.lst (zs.set n x5.v))) (some (⟨.no,.lst (rs.set r0 (.tup [d0,d1,.lst (st.set t (.lst (es0.set n dv)))])++[db]),y.v,l0::(ml++xb.as)⟩:Sl)::((L.set jc none).set ik (some ⟨.dp,.int kn,.int kn,[]⟩)).set i none):=by
  have o7:j7 (some (⟨.no,.lst (rs.set r0 (.tup [d0,d1,.lst (st.set t (.lst (es0.set n dv)))])++[db]),y.v,l0::(ml++xb.as)⟩:Sl)::((L.set jc none).set ik (some ⟨.dp,.int kn,.int kn,[]⟩)).set i none)=[]:=by
   rw [jK,lr];rfl
  refine⟨λu hu=>?_,by rw[o7];exact Y1,λa ha=>by rw[o7]at ha;cases ha⟩;rcases List.mem_cons.mp hu with z|z
  ·cases z;exact ok7
  ·exact ic u z
 have s7:Step H L (upd H6 l (.lst (zs.set n x5.v))) (some (⟨.no,.lst (rs.set r0 (.tup [d0,d1,.lst (st.set t (.lst (es0.set n dv)))])++[db]),y.v,l0::(ml++xb.as)⟩:Sl)::((L.set jc none).set ik (some ⟨.dp,.int kn,.int kn,[]⟩)).set i none):=by
  have xH:∀b∈xb.as,H b=none:=λb hb=>zj f7 (fy b hb)
  have h5H:∀b,H5 b=none->H b=none:=λb hb=>by
   cases e:H b with
   | none=>rfl
   | some ob=>
    by_cases h0:b=l0
    ·subst h0;rw[oi _ _ xq]at hb;cases hb
    ·rw[oi _ _ (show upd H3 l0 (.lst (xs++[xb.v])) b=some ob by rw[kW h0];exact ig _ _ e)]at hb;cases hb
  refine⟨λa ob e hn=>keep a ob e (λz=>hn (z▸kg l0 X3)) λz=>hn (z▸kg l (lc9 _ (md l X3))),λa ha=>?_,λa ha=>?_⟩
  ·rw [jK,lr]at ha;cases ha
  ·rw [qJ]at ha;rcases List.mem_append.mp ha with ha|ha
   ·have ha:a∈l0::(ml++xb.as):=ha;have fin:a∈l0::bs\/H a=none:=by
     rcases List.mem_cons.mp ha with rfl|ha
     ·exact .inl X3
     rcases List.mem_append.mp ha with ha|ha
     rotate_left
     ·exact .inr (xH a ha)
     rcases y2' a ha with z|z
     ·exact .inl (lc9 _ z)
     rcases w2' a z with z|z
     ·exact .inl (lc9 _ (g4 a z))
     rcases List.mem_cons.mp z with rfl|z
     ·exact .inl (lc9 _ (jr _ X3))
     rcases v2 a z with z|z
     ·exact .inl (lc9 _ (jr _ (lc9 _ z)))
     rcases List.mem_cons.mp z with rfl|z
     ·exact .inl (lc9 _ (md _ X3))
     rcases u2 a z with z|z
     ·exact .inl (lc9 _ (md _ (lc9 _ z)))
     rcases src5 a z with z|z
     ·rcases List.mem_cons.mp z with rfl|z
      ·exact .inl X3
      ·exact(List.mem_append.mp z).imp (lc9 _) (xH a)
     ·exact .inr (h5H a z)
    exact .inr (fin.imp (kg a) id)
   ·have ha:=kku ha;obtain⟨u,hu,lm⟩:=mem_frozen.mp ha;rcases Y4 hu with z|z
    ·exact .inl (kku (mem_frozen.mpr ⟨u,z,lm⟩))
    ·cases z;cases lm
 have m7:=Jx (i:=i) (x:=⟨.no,.lst (rs.set r0 (.tup [d0,d1,.lst (st.set t (.lst (es0.set n dv)))])++[db]),y.v,l0::(ml++xb.as)⟩) (s:=(.no,.lst (rs.set r0 (.tup [d0,d1,.lst (st.set t (.lst (es0.set n dv)))])++[db]))) m2 rfl rfl;rw[KQ si]at m7;have w8:=w7.set (i:=i);have s8:=s7.trans (Step.set (i:=i));rw[List.set_set]at w8 s8;exact⟨_,_,r,m7,w8,hc,k.step s8 ((Pn.refl.set hpj).set hpk)⟩
end
section
variable {X:Cx}{Z:Fx0}{K:PySem.W.Frag}{q:Bool}{a:Ex}{ea:Expr}{pos p:Pos}
noncomputable def qzw(K:PySem.W.Frag):List V->Hp->VK->Prop:=λxs H Q=>qwj K xs H Q\/∃p es ep U,xs=[.ref p,.ty U]/\H p=some (XZ p es ep)/\U∈kinds.tail/\Q (.bl (WX "dict" U)) H
theorem qvp(hK:autoParam (X.K=K) Ŕ):CallR X (.builtin "isinstance") (qzw K):=by
 subst hK;intro pins s σ H xs us Q I r h;rcases h with h|⟨p,es,ep,U,rfl,hq,hU,q⟩
 ·exact kwb rfl pins s σ H xs us Q I r h
 ·obtain⟨u,w',rfl,r1,r2⟩:=qw8 r;cases(show w'=Value.type U from r2);cases r1;obtain⟨⟨o,ds,h1,h2,_⟩,_⟩:=I.hok p _ hq;exact Y5 PySem.W.kitx_dict I.kIn ⟨o,h1,h2.1⟩ (kqo (T:="dict") (by decide) hU) (λz=>nomatch z) λtk=>⟨.bl _,H,I.tok _,rfl,q⟩
theorem vkl{U:String}(hU:U∈kinds.tail):Ad1 K (λv H Q=>qzw K [v,.ty U] H Q) (pu1 (z9 U)):=by
 intro H x s Q ok hf k
 by_cases hd:x.d=.dct []
 ·have rp:=RepO.wk ok;rw[hd]at rp;unfold RepL at rp;obtain⟨a,xs,bs,e,_,hD,_⟩:=rp;rcases hD with⟨es,ep,h1,_⟩|⟨kv,m,_,z,_⟩
  ·have hf:(z9 U x.d).map (λd=>(Own.dp,d))=some s:=hf;rw[hd]at hf;cases oq9 hf;exact .inr ⟨a,es,ep,U,by rw[e],h1,hU,k ⟨.dp,.bl _,.bl _,[]⟩ H rfl rfl Jk⟩
  ·cases z
 ·refine .inl (qzg hU H x s Q ok ?_ k);have e:z9 U x.d=k8 U x.d:=by
   unfold z9
   split
   ·rename_i h;exact absurd h hd
   ·rfl
  have hf:(z9 U x.d).map (λd=>(Own.dp,d))=some s:=hf;rw[e]at hf;exact hf
theorem vv0{U:String}{y:Str}{p2:Pos}(ha:QV X Z q a ea)(hm:X.mg "isinstance"=none)(hmy:X.mg y=none)(hy:bootBuiltins y=some (.type U))(hK:X.K=Z.K)(hU:autoParam (U∈kinds.tail) ŕ)(hg:autoParam (Gl X "isinstance") Ŕ)(hgy:autoParam (Gl X y) Ŕ)(hny:autoParam (y≠"__name__") ŕ)(nk:autoParam ((y==("__debug__":Str))=false) ŕ)
  (he:autoParam (starEach [ea,.Name y p2] X.env=(false,eval ea X.env)::starEach [.Name y p2] X.env) Ŕ) (he2:autoParam (starEach [.Name y p2] X.env=(false,eval (.Name y p2) X.env)::starEach [] X.env) Ŕ) (bn:autoParam ((backTo pos (starEach [.Name y p2] X.env)).any (·.1)=false) Ŕ):
  QE X Z q (cF1 (pu1 (z9 U)) a) (.Call (.Name "isinstance" p) [ea,.Name y p2] [] pos):=
 qV (kqe (qvp hK) hg hm jz3 (wj ha (wj (qky (v:=.ty U) hgy hmy hy rfl hny nk) xj he2) he) (by decide) (by decide) he bn) fun σ H Q h=>Qq (r:=λv H Q=>qzw Z.K [v,.ty U] H Q) (vkl hU) h
end
end Q
namespace Q
open PySem PySem.Spec PyProof.Rows L2 L3
@[irreducible] noncomputable def ShE (X:Cx) (Z:Fx0) (q:Bool) (c:Ex) (e:Expr):Prop:=QE X Z q c e
@[irreducible] noncomputable def ShA (X:Cx) (Z:Fx0) (q:Bool) (cs:List Ex) (es:List Expr):Prop:=QA X Z q cs es
@[irreducible] noncomputable def ShS (X:Cx) (Z:Fx0) (pn:List Nat) (c:Sm) (st:Stmt):Prop:=QS X Z pn c st
@[irreducible] noncomputable def ShB (X:Cx) (Z:Fx0) (pn:List Nat) (c:Sm) (ss:List Stmt):Prop:=QSs X Z pn c ss
section
variable {X:Cx}{Z:Fx0}{pn:List Nat}{q:Bool}{a c:Ex}{A B:Sm}{e ea:Expr}{cs:List Ex}{es:List Expr}{st:Stmt}{ss:List Stmt}{pos:Pos}
theorem qX(h:QE X Z q c e):ShE X Z q c e:=by unfold ShE;exact h
theorem wkd(h:QS X Z pn A st):ShS X Z pn A st:=by unfold ShS;exact h
theorem qQ:ShA X Z true [] []:=by unfold ShA;exact j5
theorem jY(h:ShE X Z q c e)(hs:ShA X Z q cs es)(bo:autoParam (starEach (e::es) X.env=(false,eval e X.env)::starEach es X.env) Ŕ):ShA X Z q (c::cs) (e::es):=by unfold ShE at h;unfold ShA at hs ⊢;exact j3 h hs bo
theorem WK{o:Own}(h:ShA X Z q cs es)(hz:autoParam (cs.length<=1000) ŕ):ShE X Z q (jx o cs) (.List es pos):=by unfold ShA at h;unfold ShE;exact k5 h hz
theorem vw{o:Own}{x1}(h:ShA X Z q cs es)(hz:autoParam (cs.length<=1000) ŕ):ShE X Z q (jv o cs) (.Tuple es x1 pos):=by unfold ShA at h;unfold ShE;exact kz h hz
theorem qxn(h:ShS X Z pn A st):ShB X Z pn A [st]:=by unfold ShS at h;unfold ShB;exact jQ h
theorem kxq(h:ShS X Z pn A st)(hs:ShB X Z pn B ss):ShB X Z pn (j6 A B) (st::ss):=by unfold ShS at h;unfold ShB at hs ⊢;exact jq h hs
theorem qk6{i:Nat}{y:Str}{bj:Pos}(hN:X.N.Nodup)(h:ShE X Z q a ea)(hi:autoParam (X.N[i]?=some y) Ŕ)(hx:autoParam (Loc X.env.scope y) Ś)(hp:autoParam (i∉pn) ŕ)(hs:autoParam (swapsWith ea (some (.Name y bj)) pos.line X.env=pure false) Ŕ)(hf:autoParam (X.fn y=true\/X.env.scope.names.lookup y=some .local) Ř):
  ShS X Z pn (jk i a) (.Assign [.Name y bj] ea pos):=by unfold ShE at h;unfold ShS;exact vv8 hN hi hx h hp hs hf
theorem vqh{tg au:Expr}{t:Tg}(h:ShE X Z q c au)(hg:QG X Z pn t tg)(hb:ShB X Z pn B ss)(hK:autoParam (X.K=Z.K) Ŕ)(hp:PassesOwn (model X.prog X.w) X.A X.env X.xe:=by exact vvx ⟨_,_,rfl,rfl⟩)(hc:autoParam (X.calm=true) Ŕ)(hs:autoParam (∀x,foldedSetIterable au X.env x=pure x) Ŗ):ShS X Z pn (v8 (itS c) t B) (.For tg au ss [] pos):=by unfold ShE at h;unfold ShB at hb;unfold ShS;exact vv3 hp hc (wv h hK) hg hb hs
theorem vqg{K:PySem.W.Frag}{mg:Str->Option Value}{N:List Str}{n nn:Nat}{body:List Stmt}{H:Hp}{vs:List V}{Q:VK}{E:XK}(hN:N.length=nn)(t:ShB X ⟨K,mg,E⟩ [] B body)(h:spF K mg n (fn nn B) vs H Q E):
  ∃t,PSs X body t/\t { nx:=λ_ H'=>Q .non H',rt:=Q } (L2.start N vs) H:=by unfold ShB at t;exact v5 hN t h
end
end Q
namespace Srt
open PySem PySem.W PyProof.Rows
noncomputable def Ev(ia:Nat->Int)(n:Nat){α:Type}:KasT α->α->Prop
 |.ret a,b=>a=b
 |.ask i j k,b=>i<n/\j<n/\Ev ia n (k (decide (ia i<ia j))) b
section
variable {ia:Nat->Int}{n:Nat}
structure Ok (n:Nat)(p:Array Nat):Prop where
 sz:p.size=n
 pm:p.toList.Perm (List.range n)
def K(ia:Nat->Int)(p:Array Nat)(k:Nat):Int:=ia (p.getD k 0)
variable (jn:∀i j,i<n->j<n->ia i=ia j->i=j)
include jn
omit jn in
omit jn in
omit jn in
omit jn in
end
end Srt
namespace Q
open PySem PySem.Spec PyProof.Rows L2 L3
inductive F2 {α β:Type}(R:α->β->Prop):List α->List β->Prop
 |nil:F2 R [] []
 |cons {a:α} {b:β} {l:List α} {m:List β}:R a b->F2 R l m->F2 R (a::l) (b::m)
end Q
namespace Tb
open PySem PySem.SetTable
def it{α:Type}(f:α->α):Nat->α->α
 |0,a=>a
 |n+1,a=>it f n (f a)
def f5(cq:Nat)(i:Nat):Nat:=(i*5+1) % (cq+1)
noncomputable def adv(cq:Nat)(p:Probe):Probe:=
 if p.more>0 then { p with j:=p.j+1,more:=p.more - 1 }else { p with j:=(leap cq p.i p.perturb).1,more:=runEnd cq (leap cq p.i p.perturb).1 - (leap cq p.i p.perturb).1,i:=(leap cq p.i p.perturb).1,perturb:=(leap cq p.i p.perturb).2 }
def rs(cq:Nat)(q:Nat×Nat):Probe:=⟨q.1,runEnd cq q.1 - q.1,q.1,q.2,none⟩
def st0(cq:Nat)(h:Int):Nat×Nat:=(bits h % (cq+1),bits h)
abbrev Ent:=Int×Value
def Z(t:SetTable)(es:Array Ent):List (Nat×Ent):=t.place.toList.zip es.toList
def pr(cq:Nat)(h:Int)(m:Nat):Probe:=it (adv cq) m (rs cq (st0 cq h))
end Tb
namespace Tw
open PySem PyProof.Rows Tb Sw
section
variable {prog:Program}{w:World}{A:Around}{E:Value->Shared->Prop}{s:Shared}{K:Type}[DecidableEq K]{knd:HeapKind prog w K}
structure KX (knd:HeapKind prog w K):Prop where
 keep:∀{h h':Heap} {k:K} {a:Addr},knd.is h k a->(∀b ob,h.get? b=some ob->ob.cls=.type "tuple"->h'.get? b=some ob)->knd.is h' k a
 cls:∀{A:Around} {E:Value->Shared->Prop} {s:Shared} {k:K} {a:Addr} {Q:Bool->Shared->Prop},knd.is s.heap k a->Q false s->wpAny (model prog w) A (ofAClassStatement 8 (.ref a)) Q E s
end
section
variable {prog:Program}{w:World}{A:Around}{E:Value->Shared->Prop}{s:Shared}{K:Type}[DecidableEq K]{knd:HeapKind prog w K}
def vqc(ls:List K)(k:K):List K:=if k∈ls then ls else ls++[k]
end
end Tw
namespace Tl
open Q
mutual
noncomputable def ltD:D->D->Option Bool
 |.int i,.int j=>some (decide (i<j))
 |.str x,.str y=>some (decide (x.cps.toList<y.cps.toList))
 |.tup xs,.tup ys=>ltDs xs ys
 |_,_=>none
noncomputable def ltDs:List D->List D->Option Bool
 |[],[]=>some false
 |[],_::_=>some true
 |_::_,[]=>some false
 |a::x,b::y=>if a=b then ltDs x y else ltD a b
end
def fstI:D->Bool
 |.tup (.int _::_)=>true
 |_=>false
def okT(ds:List D):Bool:=ds.all (λd=>vxz 6 d&&fstI d)&&ds.all λa=>ds.all λb=>(ltD a b).isSome
end Tl
namespace Tl
open PySem PyProof.Rows SeqAt
noncomputable def LtAt(A:Around)(s:Shared)(y x:Value)(b:Bool):Prop:=
 ∀(prog:Program) (w:World) (E:Value->Shared->Prop) (Q:Value->Shared->Prop),Q (.bool b) s->wpAny (model prog w) A (richCompare .Lt y x) Q E s
inductive Lx (A:Around)(s:Shared):List Value->List Value->Bool->Prop
 |nn:Lx A s [] [] false
 |nc (y:Value) (ys:List Value):Lx A s [] (y::ys) true
 |cn (x:Value) (xs:List Value):Lx A s (x::xs) [] false
 |eq {x y:Value} {xs ys:List Value} {b:Bool}:EqAt A s x y true->Lx A s xs ys b->Lx A s (x::xs) (y::ys) b
 |lt {x y:Value} {xs ys:List Value} {b:Bool}:EqAt A s x y false->LtAt A s x y b->Lx A s (x::xs) (y::ys) b
open Q
end Tl
namespace Tl
open PySem PySem.W PyProof.Rows Srt Q
abbrev Ls(a b:D):Prop:=ltD a b=some true
def rk(ds:List D)(d:D):Int:=((ds.countP λe=>decide (Ls e d):Nat):Int)
structure TT (h:Heap)(vs:List Value)(ds:List D):Prop where
 len:vs.length=ds.length
 at':∀(i:Nat) v d,vs[i]?=some v->ds[i]?=some d->∃b x r,v=.ref b/\d=.tup (.int x::r)/\jV h d v/\vxz 6 d=true
end Tl
namespace Q
open PySem
noncomputable def out(f:Fn)(xs:List Sd):Option (Sd ⊕ Str):=match f xs with
 |some (.ok _ y)=>some (.inl y)
 |some (.exc _ c)=>some (.inr c)
 |none=>none
theorem qxw(n:Nat)(h:300<=n):(10:Nat) ^ 70<2 ^ n:=Xg (show(10:Nat) ^ 70<2 ^ 240 by decide) (Nat.pow_le_pow_right (by decide) (by lia))
theorem vwc:(10:Nat) ^ 70<2 ^ 4096:=qxw 4096 (by decide)
theorem mul_l{o1 o2:Own}{a b:Int}(h1:-18446744073709551616<a)(h2:a<18446744073709551616):xk (o1,.int a) (o2,.int b)=some (.dp,.int (a*b)):=by
 have:zX a b=true:=by
  have:V3 a=true:=by unfold V3;rw[X6 (show -(2 ^ 64)<a by lia),X6 (show a<2 ^ 64 by lia)];rfl
  unfold zX;rw[this];rfl
 show(if zX a b=true then _ else _)=_;rw[Xf this]
theorem mul_r{o1 o2:Own}{a b:Int}(h1:-18446744073709551616<b)(h2:b<18446744073709551616):xk (o1,.int a) (o2,.int b)=some (.dp,.int (a*b)):=by
 have:zX a b=true:=by
  have:V3 b=true:=by unfold V3;rw[X6 (show -(2 ^ 64)<b by lia),X6 (show b<2 ^ 64 by lia)];rfl
  unfold zX;rw[this,Bool.or_true];rfl
 show(if zX a b=true then _ else _)=_;rw[Xf this]
theorem wj7{o1 o2:Own}{a b:Int}(h1:-(10 ^ 70)<a)(h2:a<10 ^ 70)(h3:-(10 ^ 70)<b)(h4:b<10 ^ 70):xk (o1,.int a) (o2,.int b)=some (.dp,.int (a*b)):=by
 have lg:∀{c:Int},c.natAbs<10 ^ 70->c.natAbs.log2<2000000:=fun {c} h=>by
  rcases Nat.eq_zero_or_pos c.natAbs with h0|hp
  ·rw[h0];decide
  ·exact Nat.lt_trans ((Nat.log2_lt (Nat.ne_of_gt hp)).mpr (Nat.lt_trans h vwc)) (by decide)
 have ha:a.natAbs.log2<2000000:=lg (by lia);have hb:b.natAbs.log2<2000000:=lg (by lia);have:zX a b=true:=by unfold zX;rw[X6 ha,X6 hb];simp
 show(if zX a b=true then _ else _)=_;rw[Xf this]
theorem add_i{o1 o2:Own}{a b:Int}:j9 (o1,.int a) (o2,.int b)=some (.dp,.int (a+b)):=rfl
theorem sub_i{a b:Int}:K2 (.int a) (.int b)=some (.int (a - b)):=rfl
theorem div_i{a b:Int}(h:0<b)(h2:b<10 ^ 70):z8 (.int a) (.int b)=some (.int (a / b)):=by
 have hb:b.natAbs.log2<9000:=by
  exact(Nat.log2_lt (by lia)).mpr (Nat.lt_trans (show b.natAbs<10 ^ 70 by lia) (qxw 9000 (by decide)))
 show(if 0<b/\b.natAbs.log2<9000 then some (a / b)else none).map _=_;rw[Xf ⟨h,hb⟩];rfl
theorem mod_i{a b:Int}(h:0<b):kq (.int a) (.int b)=some (.int (a % b)):=by
 show(if 0<b then some (a % b)else none).map _=_;rw[Xf h];rfl
theorem pow_i{a b:Int}(h1:0<=b)(h2:b<=1000)(h3:-1000000<a)(h4:a<1000000):vz3 (.int a) (.int b)=some (.int (a ^ b.toNat)):=by
 show(if 0<=b/\b<=1000000/\a.natAbs<2 ^ 64 then some (a ^ b.toNat)else none).map _=_;rw[Xf ⟨h1,by lia,by lia⟩];rfl
theorem K1{a b:Int}:fEq (.int a) (.int b)=some (.bl (a==b)):=rfl
theorem lt_ii{a b:Int}:fLt (.int a) (.int b)=some (.bl (decide (a<b))):=rfl
theorem gt_ii{a b:Int}:fGt (.int a) (.int b)=some (.bl (decide (b<a))):=rfl
theorem le_ii{a b:Int}:fLe (.int a) (.int b)=some (.bl (decide (a<=b))):=rfl
theorem ge_ii{a b:Int}:fGe (.int a) (.int b)=some (.bl (decide (b<=a))):=rfl
theorem Q2{xs:List D}{i:Int}{d:D}(h0:0<=i)(h:xs[i.toNat]?=some d):kJ (.lst xs) (.int i)=some d:=by
 show((ixN xs.length i).bind λj=>xs[j]?)=some d;have hl:i.toNat<xs.length:=(List.getElem?_eq_some_iff.mp h).1;unfold ixN;rw[Xf h0,Xf (by lia)];exact h
theorem len_l{xs:List D}:kZ (.lst xs)=some (.int xs.length):=rfl
theorem len_t{xs:List D}:kZ (.tup xs)=some (.int xs.length):=rfl
theorem qqn(ns:List Int)(i:Int)(h0:0<=i)(h1:i<ns.length):kJ (.lst (ns.map D.int)) (.int i)=some (.int (ns.getD i.toNat 0)):=by
 have:i.toNat<ns.length:=by lia
 refine Q2 h0 ?_;simp[this]
theorem qx3(xs:List D)(i:Int)(h0:0<=i)(h1:i<xs.length):kJ (.lst xs) (.int i)=some (xs.getD i.toNat .non):=by
 have:i.toNat<xs.length:=by lia
 refine Q2 h0 ?_;simp[this]
theorem J4{o1 o2:Own}{a b:List D}(h1:o1≠.dp)(h2:o2≠.dp)(hl:a.length+b.length<10000):j9 (o1,.lst a) (o2,.lst b)=some (.rt,.lst (a++b)):=by
 show(if a.length+b.length<=big/\qW (o1,.lst a)/\qW (o2,.lst b)then _ else _)=_;rw[Xf ⟨by unfold big;lia,by cases o1<;>simp_all [qW],by cases o2<;>simp_all [qW]⟩]
theorem qq7{o1 o2:Own}{a:List D}{k:Int}(h1:o1≠.dp)(h0:0<=k)(hk:k<1000)(ha:a.length=1):xk (o1,.lst a) (o2,.int k)=some (.rt,.lst (List.replicate k.toNat a).flatten):=by
 show(if -(2 ^ 63)<=k/\k<2 ^ 63/\a.length*k.toNat<=big/\qW (o1,.lst a)then _ else _)=_;rw[Xf ⟨by lia,by lia,by rw[ha];unfold big;lia,by cases o1<;>simp_all [qW]⟩]
theorem Zx{o:Own}{xs:List D}(h:o≠.dp):J7 (o,.lst xs)=some (.no,.tup xs):=by
 show(if qW (o,.lst xs)then _ else _)=_;rw[Xf (by cases o<;>simp_all [qW])]
abbrev XP:=Str->Prop
theorem nd{α:Sort _}{a b:α}(h:a=b):a=b:=h
@[irreducible] noncomputable def Eo {α:Type} (m:Option (Res α)) (P:En->α->Prop) (X:XP):Prop:=match m with
 |some (.ok E a)=>P E a
 |some (.exc _ c)=>X c
 |none=>False
@[irreducible] noncomputable def Vo {α:Type} (m:Option α) (P:α->Prop):Prop:=match m with
 |some a=>P a
 |none=>False
@[irreducible] noncomputable def Oo (f:Fn) (xs:List Sd) (P:Sd->Prop) (X:XP):Prop:=match f xs with
 |some (.ok _ y)=>P y
 |some (.exc _ c)=>X c
 |none=>False
@[irreducible] noncomputable def Po (r:Option Fl) (N C:En->Prop) (R:Sd->Prop) (X:XP):Prop:=match r with
 |some (.nx E)=>N E
 |some (.ct E)=>C E
 |some (.rt _ x)=>R x
 |some (.xc _ c)=>X c
 |_=>False
abbrev noX:XP:=λ_=>False
section
variable {α β:Type}{P:En->α->Prop}{X:XP}{N C:En->Prop}{R:Sd->Prop}{E:En}
theorem WY{a:α}:Eo (some (.ok E a)) P X=P E a:=nd (by with_unfolding_all rfl)
theorem vx3{c:Str}:Eo (some (.exc E c):Option (Res α)) P X=X c:=nd (by with_unfolding_all rfl)
theorem qvc:Eo (none:Option (Res α)) P X=False:=nd (by with_unfolding_all rfl)
theorem kQ{m:Option (Res β)}{f:En->β->Option (Res α)}:Eo (bnd m f) P X=Eo m (λE a=>Eo (f E a) P X) X:=by
 cases m with
 |none=>with_unfolding_all rfl
 |some r=>cases r<;>with_unfolding_all rfl
theorem vo_some{a:α}{P:α->Prop}:Vo (some a) P=P a:=nd (by with_unfolding_all rfl)
theorem vo_map{x:Option β}{f:β->α}{P:α->Prop}:Vo (x.map f) P=Vo x (λa=>P (f a)):=by cases x<;>with_unfolding_all rfl
theorem Q1{x:Option α}:Eo (val E x) P X=Vo x (P E):=by cases x<;>with_unfolding_all rfl
theorem vj9{E:En}:Po (some (.nx E)) N C R X=N E:=nd (by with_unfolding_all rfl)
theorem Q6{m:Option (Res α)}{f:En->α->Option Fl}:Po (ofE m f) N C R X=Eo m (λE a=>Po (f E a) N C R X) X:=by
 cases m with
 |none=>with_unfolding_all rfl
 |some r=>cases r<;>with_unfolding_all rfl
theorem vvg{a b:Sm}:Po (j6 a b E) N C R X=Po (a E) (λE=>Po (b E) N C R X) C R X:=by
 unfold j6 Po;cases a E with
 |none=>with_unfolding_all rfl
 |some r=>cases r<;>with_unfolding_all rfl
theorem vvh{x:Option β}{f:β->Fl}:Po (x.map f) N C R X=Vo x (λa=>Po (some (f a)) N C R X):=by cases x<;>with_unfolding_all rfl
theorem Eo.mono{m:Option (Res α)}{P':En->α->Prop}(h:Eo m P X)(k:∀E a,P E a->P' E a):Eo m P' X:=by
 cases m with
 |none=>with_unfolding_all exact h
 |some r=>cases r with
  |ok E a=>with_unfolding_all exact k E a h
  |exc E c=>with_unfolding_all exact h
theorem Oo.mono{f:Fn}{xs:List Sd}{P P':Sd->Prop}(h:Oo f xs P X)(k:∀y,P y->P' y):Oo f xs P' X:=by
 unfold Oo at h ⊢;cases hf:f xs with
 |none=>rw[hf]at h;with_unfolding_all exact h
 |some r=>rw[hf]at h;cases r with
  |ok E a=>with_unfolding_all exact k a h
  |exc E c=>with_unfolding_all exact h
theorem Oo.out{f:Fn}{xs:List Sd}{P:Sd->Prop}(h:Oo f xs P noX):∃E y,f xs=some (.ok E y)/\P y:=by
 unfold Oo at h;cases hf:f xs with
 |none=>rw[hf]at h;with_unfolding_all exact(show False from h).elim
 |some r=>rw[hf]at h;cases r with
  |ok E a=>with_unfolding_all exact⟨E,a,rfl,h⟩
  |exc E c=>with_unfolding_all exact(show False from h).elim
theorem qK{n:Nat}{b:Sm}{xs:List Sd}{P:Sd->Prop}(h:Po (b (xs.map some++List.replicate (n - xs.length) none)) (λ_=>P (.dp,.non)) (λ_=>False) P X):Oo (fn n b) xs P X:=by
 unfold Oo fn;unfold Po at h;cases hb:b (xs.map some++List.replicate (n - xs.length) none)with
 |none=>rw[hb]at h;with_unfolding_all exact h
 |some r=>rw[hb]at h;cases r<;>with_unfolding_all exact h
theorem vk5{f:Fn}{cs:List Ex}{P:En->Sd->Prop}:Eo (jJ f cs E) P X=Eo (qY cs E) (λE xs=>Oo f (letAll xs) (P E) X) X:=by
 unfold jJ;rw[kQ]
 congr 1
 funext E xs;unfold Oo;cases f (letAll xs)with
 |none=>with_unfolding_all rfl
 |some r=>cases r<;>with_unfolding_all rfl
def wq9(d:D){α:Type}(a b:Option α):Option α:=match d with
 |.bl k=>if k=true then a else b
 |_=>none
theorem vkg(a b:Ex):wQ a b E=bnd (a E) λE x=>wq9 x.2 (b E) (some (.ok E (.dp,.bl false))):=by
 unfold wQ wq9
 congr 1
 funext E x;cases x.2 with
 |bl k=>cases k<;>with_unfolding_all rfl
 |_=>with_unfolding_all rfl
theorem kwv{tg:Tg}{b:Sm}(I:En->List D->Prop)(hs:∀E d ds,I E (d::ds)->Vo (tg.put d E) λE1=>Po (b E1) (λE2=>I E2 ds) (λE2=>I E2 ds) R X)(h1:∀E,I E []->N E):∀ds E,I E ds->Po (K7 tg b ds E) N C R X
 | [],E,h=>by with_unfolding_all exact h1 E h
 | d::ds,E,h=>by
  have h2:=hs E d ds h;unfold K7;cases hp:tg.put d E with
  | none=>rw[hp]at h2;with_unfolding_all exact(show False from h2).elim
  | some E1=>
   rw[hp]at h2;have h2:Po (b E1) (λE2=>I E2 ds) (λE2=>I E2 ds) R X:=by with_unfolding_all exact h2
   dsimp only;cases hb:b E1 with
   |none=>rw[hb]at h2;with_unfolding_all exact(show False from h2).elim
   |some r=>
    rw[hb]at h2;cases r with
    |nx E2=>with_unfolding_all exact kwv I hs h1 ds E2 h2
    |ct E2=>with_unfolding_all exact kwv I hs h1 ds E2 h2
    |rt E2 x=>with_unfolding_all exact h2
    |xc E2 c=>with_unfolding_all exact h2
    |bk E2=>with_unfolding_all exact(show False from h2).elim
theorem Jv{it:Ev (List D)}{tg:Tg}{b:Sm}(I:En->List D->Prop)(h0:Eo (it E) I X)(hs:∀E d ds,I E (d::ds)->Vo (tg.put d E) λE1=>Po (b E1) (λE2=>I E2 ds) (λE2=>I E2 ds) R X)(h1:∀E,I E []->N E):Po (v8 it tg b E) N C R X:=by
 show Po (ofE (it E) λE ds=>K7 tg b ds E) N C R X;rw[Q6]
 with_unfolding_all exact h0.mono λE ds h=>kwv I hs h1 ds E h
theorem qvd{tg:Tg}{t:Ts}{c:Ex}{P:En->List Sd->Prop}(J:En->List D->List Sd->Prop)(hs:∀B d ds ae,J B (d::ds) ae->Vo (tg.put d B) λB1=>Eo (t B1) (λB2 k=>if k=true then Eo (c B2) (λB3 y=>J B3 ds (ae++[y])) X else J B2 ds ae) X)(h1:∀B ae,J B [] ae->P B ae):∀ds B ae,J B ds ae->Eo (lcL tg t c ds B ae) P X
 | [],B,ae,h=>by with_unfolding_all exact h1 B ae h
 | d::ds,B,ae,h=>by
  have h2:=hs B d ds ae h;unfold lcL;cases hp:tg.put d B with
  | none=>rw[hp]at h2;with_unfolding_all exact(show False from h2).elim
  | some B1=>
   rw[hp]at h2;have h2:Eo (t B1) (λB2 k=>if k=true then Eo (c B2) (λB3 y=>J B3 ds (ae++[y])) X else J B2 ds ae) X:=by with_unfolding_all exact h2
   dsimp only;rw[kQ];refine h2.mono λB2 k h3=>?_
   cases k with
   |false=>with_unfolding_all exact qvd J hs h1 ds B2 ae h3
   |true=>
    show Eo (bnd (c B2) _) P X;rw[kQ]
    with_unfolding_all exact Eo.mono (P:=λB3 y=>J B3 ds (ae++[y])) h3 λB3 y h4=>qvd J hs h1 ds B3 _ h4
theorem vx2{o:Own}{k:Nat}{r:List Nat}{it:Ev (List D)}{tg:Tg}{t:Ts}{c:Ex}{P:En->Sd->Prop}(J:En->En->List D->List Sd->Prop)(h0:Eo (it E) (λE1 ds=>J E1 (V9 k r E1) ds []) X)
  (hs:∀E1 B d ds ae,J E1 B (d::ds) ae->Vo (tg.put d B) λB1=>Eo (t B1) (λB2 k=>if k=true then Eo (c B2) (λB3 y=>J E1 B3 ds (ae++[y])) X else J E1 B2 ds ae) X) (h1:∀E1 B ae,J E1 B [] ae->Eo (mkL o (VQ k r B E1) ae) P X):Eo (cLC o k r it tg t c E) P X:=by
 unfold cLC;rw[kQ];refine h0.mono λE1 ds hJ=>?_
 have:=qvd (P:=λB ae=>Eo (mkL o (VQ k r B E1) ae) P X) (J E1) (hs E1) (h1 E1) ds _ _ hJ;cases hl:lcL tg t c ds (V9 k r E1) []with
 |none=>rw[hl]at this;with_unfolding_all exact(show False from this).elim
 |some q=>rw[hl]at this;cases q<;>with_unfolding_all exact this
end
theorem mulT_i{o1:Own}{a:Int}{y:Sd}:qw (o1,.int a) y=xk (o1,.int a) y:=by
 unfold qw;with_unfolding_all rfl
theorem mulT_l{o1:Own}{a:List D}{y:Sd}:qw (o1,.lst a) y=xk (o1,.lst a) y:=by
 unfold qw;with_unfolding_all rfl
def sl(q:Option (Option Sd)):Option Sd:=match q with
 |some (some x)=>some x
 |_=>none
theorem sl_some{x:Sd}:sl (some (some x))=some x:=nd (by with_unfolding_all rfl)
def wk0(d:D)(a b:Prop):Prop:=match d with
 |.bl k=>if k=true then a else b
 |_=>False
theorem andP_bl{k:Bool}{a b:Prop}:wk0 (.bl k) a b=if k=true then a else b:=nd (by with_unfolding_all rfl)
def Wo{α:Type}(m:Option α)(E:En)(P:En->α->Prop):Prop:=Vo m (P E)
theorem wo_some{α:Type}{a:α}{E:En}{P:En->α->Prop}:Wo (some a) E P=P E a:=by unfold Wo;exact vo_some
theorem wo_map{α β:Type}{x:Option β}{f:β->α}{E:En}{P:En->α->Prop}:Wo (x.map f) E P=Wo x E (λE a=>P E (f a)):=by unfold Wo;exact vo_map
def Oe(f:Fn)(xs:List Sd)(E:En)(P:En->Sd->Prop)(X:XP):Prop:=Oo f xs (P E) X
def intP(d:D)(P:Int->Prop):Prop:=match d with
 |.int i=>P i
 |_=>False
def Ie(d:D)(E:En)(P:En->Int->Prop):Prop:=intP d (P E)
theorem ie_i{i:Int}{E:En}{P:En->Int->Prop}:Ie (.int i) E P=P E i:=nd (by with_unfolding_all rfl)
section
variable {P:En->Sd->Prop}{T:En->Bool->Prop}{X:XP}{N C:En->Prop}{R:Sd->Prop}{E:En}{e:Option Sd}{a b c:Ex}{t u:Ts}{i:Nat}
theorem w_seq{a b:Sm}:Po (j6 a b (e::E)) N C R X=Po (a (e::E)) (λE=>Po (b E) N C R X) C R X:=vvg
theorem w_asg:Po (jk i c (e::E)) N C R X=Eo (c (e::E)) (λE x=>N (E.set i (some x))) X:=by unfold jk;rw[Q6];with_unfolding_all rfl
theorem w_ret:Po (jX c (e::E)) N C R X=Eo (c (e::E)) (λ_ x=>R x) X:=by unfold jX;rw[Q6];with_unfolding_all rfl
theorem w_pass:Po (vj (e::E)) N C R X=N (e::E):=nd (by with_unfolding_all rfl)
theorem w_if{a b:Sm}:Po (sIf t a b (e::E)) N C R X=Eo (t (e::E)) (λE k=>if k=true then Po (a E) N C R X else Po (b E) N C R X) X:=by
 unfold sIf;rw[Q6];congr 1;funext E k;cases k<;>with_unfolding_all rfl
theorem w_tup{is:List Nat}:Po (W0 is c (e::E)) N C R X=Eo (c (e::E)) (λE x=>Vo (Tg.put (.t is) x.2 E) N) X:=by
 unfold W0;rw[Q6];congr 1;funext E x;rw[vvh];with_unfolding_all rfl
theorem w_vV:Eo (vV i (e::E)) P X=Wo (sl (e::E)[i]?) (e::E) P:=by
 unfold vV Wo;cases(e::E)[i]? with
 |none=>with_unfolding_all rfl
 |some q=>cases q<;>with_unfolding_all rfl
theorem w_cV:Eo (cV i (e::E)) P X=Wo (sl (e::E)[i]?) (e::E) (λE x=>P (E.set i (some (.no,x.2))) (.no,x.2)):=by
 unfold cV Wo;cases(e::E)[i]? with
 |none=>with_unfolding_all rfl
 |some q=>cases q<;>with_unfolding_all rfl
theorem w_cMv:Eo (cMv i (e::E)) P X=Wo (sl (e::E)[i]?) (e::E) (λE x=>P (E.set i none) x):=by
 unfold cMv Wo;cases(e::E)[i]? with
 |none=>with_unfolding_all rfl
 |some q=>cases q<;>with_unfolding_all rfl
theorem w_cC{d:D}:Eo (cC d (e::E)) P X=P (e::E) (.dp,d):=nd (by with_unfolding_all rfl)
theorem w_vE:Eo (vE c (e::E)) P X=Eo (c (e::E)) (λE x=>P E (.no,x.2)) X:=by unfold vE;rw[kQ];with_unfolding_all rfl
theorem w_cH:Eo (cH c (e::E)) P X=Eo (c (e::E)) (λE x=>if x.1=.no then P E (.no,x.2)else if x.2.pure=true then P E (.dp,x.2)else False) X:=by
 unfold cH;rw[kQ]
 congr 1
 funext E x
 by_cases h:x.1=.no
 ·rw[Xf h,Xf h];with_unfolding_all rfl
 ·rw[Xj h,Xj h]
  by_cases h2:x.2.pure=true
  ·rw[Xf h2,Xf h2];with_unfolding_all rfl
  ·rw[Xj h2,Xj h2];with_unfolding_all rfl
theorem w_f1{f:Sd->Option Sd}:Eo (cF1 f a (e::E)) P X=Eo (a (e::E)) (λE x=>Wo (f x) E P) X:=by
 unfold cF1;rw[kQ];congr 1;funext E x;exact Q1
theorem w_f2{f:Sd->Sd->Option Sd}:Eo (cF2 f a b (e::E)) P X=Eo (a (e::E)) (λE x=>Eo (b E) (λE y=>Wo (f x y) E P) X) X:=by
 unfold cF2;rw[kQ];congr 1;funext E x;rw[kQ];congr 1;funext E y;exact Q1
theorem w_ix:Eo (jw a b (e::E)) P X=Eo (a (e::E)) (λE x=>Eo (b E) (λE y=>Wo (kJ x.2 y.2) E (λE d=>P E (sub x.1,d))) X) X:=by
 unfold jw;rw[kQ];congr 1;funext E x;rw[kQ];congr 1;funext E y;rw[Q1];exact vo_map
theorem w_tE:Eo (tE c (e::E)) T X=Eo (c (e::E)) (λE x=>Wo (truth x.2) E T) X:=by
 unfold tE;rw[kQ];congr 1;funext E x;exact Q1
theorem w_tEQ:Eo (tEQ c (e::E)) T X=Eo (c (e::E)) (λE x=>Wo (truthQ x.2) E T) X:=by
 unfold tEQ;rw[kQ];congr 1;funext E x;exact Q1
theorem w_tNot:Eo (tNot t (e::E)) T X=Eo (t (e::E)) (λE k=>T E (!k)) X:=by unfold tNot;rw[kQ];with_unfolding_all rfl
theorem w_tOr:Eo (tOr t u (e::E)) T X=Eo (t (e::E)) (λE k=>if k=true then T E true else Eo (u E) T X) X:=by
 unfold tOr;rw[kQ];congr 1;funext E k;cases k<;>with_unfolding_all rfl
theorem w_tYes:Eo (tYes (e::E)) T X=T (e::E) true:=nd (by with_unfolding_all rfl)
theorem w_cAnd:Eo (wQ a b (e::E)) P X=Eo (a (e::E)) (λE x=>wk0 x.2 (Eo (b E) P X) (P E (.dp,.bl false))) X:=by
 rw[vkg,kQ];congr 1;funext E x;cases x.2 with
 |bl k=>cases k<;>with_unfolding_all rfl
 |_=>with_unfolding_all rfl
theorem w_cNotQ:Eo (qxj c (e::E)) P X=Eo (c (e::E)) (λE x=>Wo (truthQ x.2) E (λE k=>P E (.dp,.bl (!k)))) X:=by
 unfold qxj;rw[kQ];congr 1;funext E x;rw[Q1];exact vo_map
theorem w_call{f:Fn}{cs:List Ex}:Eo (jJ f cs (e::E)) P X=Eo (qY cs (e::E)) (λE xs=>Oe f (letAll xs) E P X) X:=by with_unfolding_all exact vk5
theorem w_partN{P:En->Option Int->Prop}:Eo (V6 none (e::E)) P X=P (e::E) none:=nd (by with_unfolding_all rfl)
theorem w_partS{P:En->Option Int->Prop}:Eo (V6 (some c) (e::E)) P X=Eo (c (e::E)) (λE x=>Ie x.2 E (λE i=>P E (some i))) X:=by
 show Eo (bnd (c (e::E)) _) P X=_;rw[kQ];congr 1;funext E x;unfold Ie;cases x.2<;>with_unfolding_all rfl
theorem w_sl{lo hi:Option Ex}:Eo (cSl a lo hi (e::E)) P X=Eo (a (e::E)) (λE x=>Eo (V6 lo E) (λE l=>Eo (V6 hi E) (λE h=>Wo (fSl x l h) E P) X) X) X:=by
 unfold cSl;rw[kQ];congr 1;funext E x;rw[kQ];congr 1;funext E l;rw[kQ];congr 1;funext E h;exact Q1
theorem w_itS{P:En->List D->Prop}:Eo (itS c (e::E)) P X=Eo (c (e::E)) (λE x=>Wo (seqOf x.2) E P) X:=by
 unfold itS;rw[kQ]
 congr 1
 funext E x;exact Q1
end
theorem args_nil{e:Option Sd}{E:En}{P:En->List Sd->Prop}{X:XP}:Eo (qY [] (e::E)) P X=P (e::E) []:=nd (by with_unfolding_all rfl)
theorem args_cons{e:Option Sd}{E:En}{c:Ex}{cs:List Ex}{P:En->List Sd->Prop}{X:XP}:Eo (qY (c::cs) (e::E)) P X=Eo (c (e::E)) (λE x=>Eo (qY cs E) (λE xs=>P E (x::xs)) X) X:=by
 show Eo (bnd (c (e::E)) λE x=>bnd (qY cs E) λE xs=>some (.ok E (x::xs))) P X=_;rw[kQ]
 congr 1
 funext E x;rw[kQ]
 with_unfolding_all rfl
theorem eo_tup{e:Option Sd}{E:En}{cs:List Ex}{P:En->Sd->Prop}{X:XP}:Eo (jv .no cs (e::E)) P X=Eo (qY cs (e::E)) (λE xs=>P E (.no,.tup (xs.map (·.2)))) X:=by
 unfold jv;rw[kQ]
 with_unfolding_all rfl
theorem eo_lst{e:Option Sd}{E:En}{cs:List Ex}{P:En->Sd->Prop}{X:XP}:Eo (jx .rt cs (e::E)) P X=Eo (qY cs (e::E)) (λE xs=>P E (.rt,.lst (xs.map (·.2)))) X:=by
 unfold jx;rw[kQ]
 with_unfolding_all rfl
theorem qqp{c:Ex}{E:En}{P:En->List D->Prop}{X:XP}(h:Eo (c E) (λE x=>∃n:Int,x.2=.int n/\n<=1000/\-1000<=n/\P E (k9 0 n)) X):Eo (wx c E) P X:=by
 unfold wx;rw[kQ];refine h.mono ?_;rintro E ⟨o,d⟩ ⟨n,rfl,h1,h2,h3⟩;have:v7 n=true:=by unfold v7;rw[X6 (by lia),X6 (by lia)];with_unfolding_all rfl
 show Eo (if v7 n=true/\n.toNat<=big then _ else _) P X;rw[Xf ⟨this,by unfold big;lia⟩]
 with_unfolding_all exact h3
theorem qvz{i:Nat}{c:Ex}{E:En}{o:Own}{xs:List D}{N C:En->Prop}{R:Sd->Prop}{X:XP}(h0:E[i]?=some (some (o,.lst xs)))
  (h:Eo (c E) (λE1 x=>∃o ys,E1[i]?=some (some (o,.lst ys))/\o≠.no/\ys.length<10000/\N (E1.set i (some (if o=.dp/\vk x then .dp else .rt,.lst (ys++[x.2]))))) X):Po (qZ v4 i c E) N C R X:=by
 unfold qZ;rw[h0,Xf (show Jj (some (some (o,.lst xs)))=true from rfl),Q6];refine h.mono ?_;rintro E1 x ⟨o,ys,h1,h2,h3,h4⟩;rw[h1];dsimp only;have hg:v4 ys x.2=some (ys++[x.2]):=by unfold v4;rw[Xf (by unfold big;lia)]
 rw[Xj h2,hg]
 with_unfolding_all exact h4
theorem VX{i:Nat}{c:Ex}{E:En}{xs:List D}{N C:En->Prop}{R:Sd->Prop}{X:XP}(h0:E[i]?=some (some (.rt,.lst xs)))
  (h:Eo (c E) (λE1 x=>∃ys,E1[i]?=some (some (.rt,.lst ys))/\ys.length<10000/\N (E1.set i (some (.rt,.lst (ys++[x.2]))))) X):Po (qZ v4 i c E) N C R X:=
 qvz h0 (h.mono λE1 x ⟨ys,h1,h2,h3⟩=>⟨.rt,ys,h1,by decide,h2,by rw[Xj (by rintro ⟨z,_⟩;cases z)];with_unfolding_all exact h3⟩)
theorem rng_ok{n:Int}(h1:-1000<=n)(h2:n<=1000):(v7 n=true/\n.toNat<=big)=True:=by
 have:v7 n=true:=by unfold v7;rw[X6 (by lia),X6 (by lia)];with_unfolding_all rfl
 with_unfolding_all exact eq_true ⟨this,by unfold big;lia⟩
theorem rng2_ok{m n:Int}(h1:-1000<=n)(h2:n<=1000)(h3:-1000<=m)(h4:m<=1000):(v7 m=true/\v7 n=true/\(n - m).toNat<=big)=True:=by
 have a1:v7 n=true:=by unfold v7;rw[X6 (by lia),X6 (by lia)];with_unfolding_all rfl
 have a2:v7 m=true:=by unfold v7;rw[X6 (by lia),X6 (by lia)];with_unfolding_all rfl
 with_unfolding_all exact eq_true ⟨a2,a1,by unfold big;lia⟩
theorem YK{α:Type}{p:Prop}[Decidable p]{a:Option (Res α)}{P:En->α->Prop}{X:XP}:Eo (if p then a else none) P X=(p/\Eo a P X):=by
 by_cases h:p
 ·rw[Xf h];with_unfolding_all exact propext ⟨λz=>⟨h,z⟩,λz=>z.2⟩
 ·rw[Xj h];with_unfolding_all exact propext ⟨λz=>z.elim,λz=>h z.1⟩
theorem w_R1{c:Ex}{e:Option Sd}{E:En}{P:En->List D->Prop}{X:XP}:Eo (wx c (e::E)) P X=Eo (c (e::E)) (λE x=>Ie x.2 E λE n=>(v7 n=true/\n.toNat<=big)/\P E (k9 0 n)) X:=by
 unfold wx;rw[kQ];congr 1;funext E x;cases x.2 with
 |int n=>with_unfolding_all exact YK
 |_=>with_unfolding_all rfl
theorem w_LR1{c:Ex}{e:Option Sd}{E:En}{P:En->Sd->Prop}{X:XP}:Eo (W7 c (e::E)) P X=Eo (c (e::E)) (λE x=>Ie x.2 E λE n=>(v7 n=true/\n.toNat<=big)/\P E (.rt,.lst (k9 0 n))) X:=by
 unfold W7;rw[kQ];congr 1;funext E x;cases x.2 with
 |int n=>with_unfolding_all exact YK
 |_=>with_unfolding_all rfl
theorem w_R2{c c':Ex}{e:Option Sd}{E:En}{P:En->List D->Prop}{X:XP}:Eo (vz0 c c' (e::E)) P X=Eo (c (e::E)) (λE x=>Eo (c' E) (λE y=>Ie x.2 E λE m=>Ie y.2 E λE n=>(v7 m=true/\v7 n=true/\(n - m).toNat<=big)/\P E (k9 m n)) X) X:=by
 unfold vz0;rw[kQ];congr 1;funext E x;rw[kQ];congr 1;funext E y;cases x.2 with
 |int m=>cases y.2 with
  |int n=>with_unfolding_all exact YK
  |_=>with_unfolding_all rfl
 |_=>with_unfolding_all rfl
theorem vwb{E:En}{ys:List Sd}{P:En->Sd->Prop}{X:XP}(h:ys.all vk=true):Eo (mkL .dp E ys) P X=P E (.dp,.lst (ys.map (·.2))):=by
 unfold mkL;rw[Xf rfl,Xf h];with_unfolding_all rfl
theorem K3{o:Own}{xs:List D}{lo hi:Option Int}(h:o≠.dp):fSl (o,.lst xs) lo hi=some (.rt,.lst (zZ xs lo hi)):=by
 show(if qW (o,.lst xs)then _ else _)=_;rw[Xf (by cases o<;>simp_all [qW])]
theorem sub_no:sub .no=.no:=nd (by with_unfolding_all rfl)
theorem sub_rt:sub .rt=.no:=nd (by with_unfolding_all rfl)
theorem sub_dp:sub .dp=.dp:=nd (by with_unfolding_all rfl)
theorem Oo.use{ι:Sort _}{f:Fn}{xs:List Sd}{g:ι->Sd}{S:ι->Prop}{E:En}{P:En->Sd->Prop}{X:XP}(h:Oo f xs (λy=>∃i,y=g i/\S i) X)(k:∀i,S i->P E (g i)):Oe f xs E P X:=h.mono λy ⟨i,e,s⟩=>e▸k i s
theorem Oo.via{f:Fn}{xs:List Sd}{S:Sd->Prop}{E:En}{P:En->Sd->Prop}{X:XP}(h:Oo f xs S X)(k:∀y,S y->P E y):Oe f xs E P X:=h.mono k
theorem J0{E:En}{ys:List Sd}{P:En->Sd->Prop}{X:XP}:Eo (mkL .rt E ys) P X=P E (.rt,.lst (ys.map (·.2))):=nd (by with_unfolding_all rfl)
theorem vvf{i:Nat}{c:Ex}{E:En}{o:Own}{xs:List D}{P:En->Sd->Prop}{X:XP}(h0:E[i]?=some (some (o,.lst xs)))
  (h:Eo (c E) (λE1 x=>∃(o:Own) (ys:List D) (k:Int) (d:D),E1[i]?=some (some (o,.lst ys))/\o≠.no/\x.2=.int k/\0<=k/\k<=1000/\ys[k.toNat]?=some d/\d.pure=true/\P (E1.set i (some (o,.lst (ys.eraseIdx k.toNat)))) (.dp,d)) X):Eo (Wx i c E) P X:=by
 unfold Wx;rw[h0,Xf (show Jj (some (some (o,D.lst xs)))=true from rfl),kQ];refine h.mono ?_;rintro E1 ⟨o',d'⟩ ⟨o,ys,k,d,h1,h2,e,k0,k1,h3,h4,h5⟩;have e:d'=.int k:=e;subst e;have hl:k.toNat<ys.length:=(List.getElem?_eq_some_iff.mp h3).1;have hx:ixN ys.length k=some k.toNat:=by unfold ixN;rw[Xf k0,Xf (by lia)]
 have hs:v7 k=true:=by unfold v7;rw[X6 (by lia),X6 (by lia)];with_unfolding_all rfl
 rw[h1];dsimp only;rw[Xj h2,hx];dsimp only;rw[h3];dsimp only;rw[h4,hs,Xf (by decide),WY];exact h5
theorem w_chain{f g:D->D->Option D}{a b c:Ex}{e:Option Sd}{E:En}{P:En->Sd->Prop}{X:XP}:Eo (JW f g a b c (e::E)) P X=Eo (a (e::E)) (λE x=>Eo (b E) (λE y=>Wo (f x.2 y.2) E λE d=>wk0 d (Eo (c E) (λE z=>Wo (g y.2 z.2) E λE d=>P E (.dp,d)) X) (P E (.dp,.bl false))) X) X:=by
 unfold JW;rw [kQ]
 congr 1
 funext E x;rw [kQ]
 congr 1
 funext E y;cases f x.2 y.2 with
 | none=>with_unfolding_all rfl
 | some d=>
  rw[wo_some];cases d with
  | bl k=>
   rw[andP_bl];cases k with
   |false=>with_unfolding_all rfl
   |true=>
    rw[Xf rfl];dsimp only;rw[kQ]
    congr 1
    funext E z;rw[Q1];exact vo_map
  |_=>with_unfolding_all rfl
section
variable {c kc vc:Ex}{e:Option Sd}{E:En}{X:XP}{N C:En->Prop}{R:Sd->Prop}
theorem vkx{P:En->Sd->Prop}:Eo (vkf (e::E)) P X=P (e::E) (.rt,.dct []):=nd (by with_unfolding_all rfl)
end
section
variable {a b c kc vc:Ex}{e:Option Sd}{E:En}{X:XP}{N C:En->Prop}{R:Sd->Prop}{P:En->Sd->Prop}
theorem vvb{i:Nat}(h:Eo (vc E) (λE1 v=>Jj E1[i]?=true/\Eo (kc E1) (λE2 k=>∃(o:Own) (xs:List D) (j:Int) (n:Nat),E2[i]?=some (some (o,.lst xs))/\o≠.no/\k.2=.int j/\ixN xs.length j=some n/\N (E2.set i (some (.rt,.lst (xs.set n v.2))))) X) X):Po (vxu i kc vc E) N C R X:=by
 unfold vxu;rw[Q6];refine h.mono ?_;rintro E1 v ⟨e1,h1⟩;rw[Xf e1,Q6];refine h1.mono ?_;rintro E2 k ⟨o,xs,j,n,e2,ho,hk,hn,h4⟩;rw[e2,hk];dsimp only;rw[Xj ho,hn];dsimp only;rw[vj9];exact h4
end
section
variable {a b c:Ex}{cs:List Ex}{e:Option Sd}{E:En}{X:XP}{N C:En->Prop}{R:Sd->Prop}{P:En->Sd->Prop}{i r:Nat}{p:List Nat}{d:D}{ds:List D}
theorem qw7:Eo (VW c (e::E)) P X=Eo (c (e::E)) (λE x=>XV x=true/\P E (.dp,x.2)) X:=by
 unfold VW;rw[kQ];congr 1;funext E x;rw[YK,WY]
theorem qjs:Eo (jv .dp cs (e::E)) P X=Eo (qY cs (e::E)) (λE xs=>xs.all vk=true/\P E (.dp,.tup (xs.map (·.2)))) X:=by
 unfold jv;rw[kQ];congr 1;funext E x;rw[Xf rfl,YK,WY]
end
end Q
namespace C
open PySem Q
noncomputable def m__law_draw:Fn:=fn 4
  (j6 (jk 2 (cF2 qw (C9 1000) (vE (cF2 (pu2 vz3) (C9 10) (C9 64)))))
  (j6 (jk 3 (cF2 j9 (vE (cF2 qw (vE (cF2 qw (vV 1) (vV 1))) (vV 1))) (C9 7)))
  (j6 (sIf (tE (cF2 (pu2 fLt) (vV 1) (vE (cF1 (pu1 kZ) (vV 0))))) (jk 3 (cH (jw (vV 0) (vV 1)))) (sIf (tE (cF2 (pu2 fGt) (vE (cF1 (pu1 kZ) (vV 0))) (C9 0))) (jk 3 (cF2 qw (vE (cF2 j9 (vE (cF2 (pu2 kq) (jw (vV 0) (vE (cF2 (pu2 kq) (vV 1) (vE (cF1 (pu1 kZ) (vV 0)))))) (C9 1000003))) (C9 1))) (vV 3))) vj))
  (jX (cF2 (pu2 kq) (vE (cF2 qw (vE (cF2 (pu2 kq) (vV 3) (vV 2))) (vE (cF2 (pu2 vz3) (C9 7919) (C9 15))))) (vV 2))))))
noncomputable def m__law_digits:Fn:=fn 4
  (j6 (jk 2 (jx .rt []))
  (j6 (v8 (itS (cV 1)) (.n 3) (j6 (qZ v4 2 (cF2 (pu2 kq) (vV 0) (vV 3)))
  (jk 0 (cF2 (pu2 z8) (vV 0) (vV 3)))))
  (jX (cMv 2))))
noncomputable def m__law_signs:Fn:=fn 11
  (j6 (jk 2 (cC (.str "abcdefghijklmnopqrstuvwxyz")))
  (j6 (W0 [3,4,5] (jJ m__law_digits [(cV 0),(jx .rt [(cC (.int 8)),(cC (.int 840)),(cC (.int 8))])]))
  (j6 (jk 4 (cF2 (pu2 kq) (vV 4) (vE (cF2 j9 (vV 3) (C9 1)))))
  (j6 (jk 6 (jx .rt []))
  (j6 (v8 (wx (vV 1)) (.n 7) (j6 (jk 8 (cC (.str "")))
  (j6 (v8 (wx (vE (cF2 j9 (vV 3) (C9 1)))) (.n 9) (j6 (jk 10 (cF2 j9 (vE (cF2 (pu2 z8) (vV 0) (vE (cF2 j9 (C9 53761) (vE (cF2 qw (vE (cF2 qw (C9 26) (vV 9))) (vV 9))))))) (vE (cF2 qw (vE (cF2 qw (vV 7) (vE (cF2 j9 (vV 5) (C9 1))))) (vE (cF1 (pu1 xJ) (vE (cF2 (pu2 fEq) (vV 9) (vV 4)))))))))
  (jk 8 (cF2 j9 (vV 8) (jw (vV 2) (vE (cF2 (pu2 kq) (vV 10) (C9 26))))))))
  (qZ v4 6 (cV 8)))))
  (jX (cF1 kjr (vV 6))))))))
noncomputable def m__law_case:Fn:=fn 8
  (j6 (jk 4 (cF2 (pu2 kq) (jw (vV 0) (C9 1)) (vE (cF1 (pu1 kZ) (vV 1)))))
  (j6 (jk 5 (W7 (vE (cF2 j9 (jw (vV 1) (vV 2)) (vE (cF1 (pu1 xJ) (vE (cF2 (pu2 fEq) (vV 3) (jw (vV 1) (vV 2))))))))))
  (j6 (sIf (tOr (tE (cF2 (pu2 fEq) (jw (vV 0) (C9 0)) (C9 0))) (tE (cF2 (pu2 fLt) (vE (cF1 (pu1 kZ) (vV 5))) (jw (vV 1) (vV 4))))) (jX (cC .non)) vj)
  (j6 (jk 6 (jx .rt []))
  (j6 (v8 (itS (cSl (vV 0) (some (C9 2)) (some (vE (cF2 j9 (C9 2) (jw (vV 1) (vV 4))))))) (.n 7) (qZ v4 6 (Wx 5 (vE (cF2 (pu2 kq) (vV 7) (vE (cF1 (pu1 kZ) (vV 5))))))))
  (jX (jv .no [(cV 4),(cF1 J7 (vV 6))])))))))
noncomputable def m__law_plain(dr:Fn):Fn:=fn 14
  (j6 (jk 3 (jJ m__law_digits [(jJ dr [(cV 0),(cV 1)]),(cF2 j9 (vE (cF2 j9 (vE (jx .rt [(cC (.int 24)),(cC (.int 8)),(cC (.int 8))])) (vE (cF2 qw (vE (jx .rt [(cC (.int 12))])) (C9 6))))) (vE (cF2 qw (vE (jx .rt [(cC (.int 2))])) (C9 6))))]))
  (j6 (jk 4 (cH (jw (vE (jx .rt [(cF2 j9 (C9 1) (vE (cF2 (pu2 kq) (jw (vV 3) (C9 0)) (C9 4)))),(cC (.int 5)),(cC (.int 6))])) (vE (cF2 qw (vE (cF1 (pu1 xJ) (vE (cF2 (pu2 fEq) (jw (vV 3) (C9 1)) (C9 3))))) (vE (cF2 j9 (C9 1) (vE (cF2 (pu2 kq) (jw (vV 3) (C9 2)) (C9 2))))))))))
  (j6 (jk 5 (cF2 j9 (vE (jx .rt [(cC (.int 0))])) (vE (cLC .rt 1 [3,4] (vz0 (C9 1) (vV 4)) (.n 0) tYes (cF2 (pu2 kq) (jw (vV 1) (vE (cF2 j9 (C9 3) (vV 0)))) (vE (cF2 j9 (C9 3) (vE (cF1 (pu1 xJ) (vE (wQ (vE (cF2 (pu2 fEq) (jw (vV 1) (C9 2)) (C9 5))) (cF2 (pu2 fLt) (vV 2) (C9 4)))))))))))))
  (j6 (jk 6 (jx .rt []))
  (j6 (jk 7 (cF2 j9 (vV 1) (C9 1)))
  (j6 (v8 (wx (vV 4)) (.n 8) (j6 (jk 9 (jx .rt []))
  (j6 (v8 (wx (vE (cF1 (pu1 kZ) (vV 2)))) (.n 10) (j6 (jk 11 (jx .rt []))
  (j6 (v8 (wx (vE (cF2 j9 (jw (vV 5) (vV 8)) (C9 1)))) (.n 12) (j6 (jk 13 (jJ m__law_digits [(jJ dr [(cV 0),(cV 7)]),(jx .rt [(cC (.int 6)),(cC (.int 60)),(cC (.int 60)),(cC (.int 60)),(cC (.int 60))])]))
  (j6 (jk 7 (cF2 j9 (vV 7) (C9 1)))
  (qZ v4 11 (jJ m__law_case [(cV 13),(cV 5),(cV 8),(cV 12)])))))
  (qZ v4 9 (cV 11)))))
  (qZ v4 6 (jv .no [(cH (jw (vV 5) (vV 8))),(cF2 (pu2 fEq) (jw (vV 3) (vE (cF2 j9 (C9 9) (vV 8)))) (C9 1)),(cV 9)])))))
  (jX (jv .no [(jv .no [(cF1 K4 (vV 2)),(cV 6)]),(cV 7)]))))))))
noncomputable def Qx:Fn:=fn 5
  (j6 (jk 1 (jx .rt []))
  (j6 (v8 (itS (cH (jw (vV 0) (C9 1)))) (.t [2,3,4]) (qZ v4 1 (jv .no [(cV 2),(cV 3),(cLC .rt 1 [] (itS (cV 4)) (.n 0) tYes (cF1 K4 (vV 0)))])))
  (jX (jv .no [(cF1 K4 (jw (vV 0) (C9 0))),(cV 1)]))))
end C
local macro_rules
 | `(tactic| simp![$ts,*])=>`(tactic| simp(config:={ maxSteps:=1000000,failIfUnchanged:=false,implicitDefEqProofs:=true }) (disch:=lia) only[↓Q.w_seq,↓Q.w_asg,↓Q.w_ret,↓Q.w_pass,↓Q.w_if,↓Q.w_tup,↓Q.w_vV,↓Q.w_cV,↓Q.w_cMv,↓Q.w_cC,↓Q.w_vE,↓Q.w_cH,↓Q.w_f1,↓Q.w_f2,↓Q.w_ix,↓Q.w_tE,↓Q.w_tEQ,↓Q.w_tNot,↓Q.w_tOr,↓Q.w_tYes,↓Q.w_cAnd,↓Q.w_cNotQ,↓Q.w_call,↓Q.w_partN,↓Q.w_partS,↓Q.w_sl,↓Q.w_itS,↓Q.w_chain,↓Q.w_R1,↓Q.w_R2,↓Q.w_LR1,Q.rng_ok,Q.rng2_ok,true_and,↓Q.ie_i,Q.isSq,Q.sl_some,↓Q.andP_bl,↓Q.vo_some,↓Q.vo_map,↓Q.wo_some,↓Q.wo_map,↓Q.args_nil,↓Q.args_cons,↓Q.eo_tup,↓Q.eo_lst,Q.letAll,Q.pu2,Q.pu1,Q.f2First,Q.fIsNon,Q.fNotNon,Q.isNon,List.map_cons,List.map_nil,List.cons_append,List.nil_append,Ya,List.length_nil,X5,Nat.reduceAdd,Nat.reduceSub,List.replicate,List.set_cons_zero,List.set_cons_succ,List.getElem?_cons_zero,List.getElem?_cons_succ,Q.len_l,Q.len_t,Q.lt_ii,Q.gt_ii,Q.le_ii,Q.ge_ii,Q.add_i,Q.sub_i,Q.div_i,Q.mod_i,Q.pow_i,Q.mulT_i,Q.mulT_l,Q.mul_l,Q.mul_r,Option.map_some,Q.truth,Q.truthQ,Q.D.pure,↓reduceIte,if_true,if_false,ite_true,ite_false,Q.sub_no,Q.sub_rt,Q.sub_dp,Bool.false_eq_true,reduceCtorEq,Bool.not_true,Bool.not_false,Q.Tg.put,Q.setAll,Q.seqOf,Q.lstOf,$ts,*])
namespace C
open Q PySem
abbrev most:Int:=1000*10 ^ 64
abbrev iL(ns:List Int):D:=.lst (ns.map D.int)
noncomputable def Dr(dr:Fn):Prop:=∀(ns:List Int) (k:Int),0<=k->k<=1000->Oo dr [(.no,iL ns),(.no,.int k)] (λy=>∃i,y=(.dp,.int i)/\0<=i/\i<most) noX
theorem kjs(ns:List Int)(k:Int)(h0:0<=k)(h1:k<=1000):Oo m__law_draw [(.no,iL ns),(.no,.int k)] (λy=>∃i,y=(.dp,.int i)/\0<=i/\i<most) noX:=by
 have hkk:k*k<=1000*1000:=Int.mul_le_mul h1 h1 h0 (by decide);have hkk0:0<=k*k:=Int.mul_nonneg h0 h0;have hc:k*k*k<=1000*1000*1000:=Int.mul_le_mul hkk h1 h0 (by decide);have hc0:0<=k*k*k:=Int.mul_nonneg hkk0 h0;have hp:((7919:Int) ^ (Int.toNat 15))=7919 ^ 15:=rfl;have hm:(1000*(10:Int) ^ (Int.toNat 64))=most:=rfl;have qo:(0:Int)<most:=by decide
 have hb:∀x:Int,xk (.no,.int (x % most)) (.no,.int (7919 ^ 15))=some (.dp,.int (x % most*7919 ^ 15)):=λx=>by
  have:=Xq x (show most≠0 by decide);have:=Xl x qo;unfold most at *;exact wj7 (by lia) (by lia) (by decide) (by decide)
 have fin:∀x:Int,∃i,((Own.dp,D.int (x % most)):Sd)=(.dp,.int i)/\0<=i/\i<most:=λx=>⟨_,rfl,Xq _ (by decide),Xl _ qo⟩
 unfold m__law_draw;refine qK ?_
 by_cases c1:k<ns.length
 ·have hi:=qqn ns k h0 c1;simp![X6 c1,hi,hm,hp,mod_i qo,hb];exact fin _
 ·by_cases c2:(0:Int)<ns.length
  ·have hq0:=Xq k (show(ns.length:Int)≠0 by lia);have hq1:=Xl k c2;have hi:=qqn ns (k % ns.length) hq0 hq1;simp![Xb c1,X6 c2,hi,hm,hp,mod_i qo,mod_i c2,hb];exact fin _
  ·simp![Xb c1,Xb c2,hm,hp,mod_i qo,hb];exact fin _
def Digs:List Int->List Int->Prop
 |[],[]=>True
 |b::bs,d::ds=>0<=d/\d<b/\Digs bs ds
 |_,_=>False
theorem vvv:∀j:Nat,j<3->∀i:Nat,i<j->((i=0/\j=1)\/(i=0/\j=2)\/(i=1/\j=2)):=by decide
theorem jz1(x:Int):∀(bs:List Int) (hb:∀b∈bs,0<b/\b<1000000000000) (hl:bs.length<1000),Oo m__law_digits [(.no,.int x),(.no,iL bs)] (λy=>∃ds,y=(.rt,iL ds)/\Digs bs ds) noX:=by
 intro bs hb hl;unfold m__law_digits;refine qK ?_;simp![];refine Jv (λE j8=>∃x o ys l d0 bs1 bs2,E=[some (o,.int x),some (.no,d0),some (.rt,iL ys),l]/\j8=bs2.map D.int/\bs=bs1++bs2/\Digs bs1 ys/\ys.length=bs1.length) ?_ ?_ ?_
 ·simp![];exact⟨x,.no,[],none,_,[],bs,rfl,rfl,rfl,trivial,rfl⟩
 ·rintro E d ds ⟨x,o,ys,l,d0,bs1,bs2,rfl,hr,he,hd,hy⟩;cases bs2 with
  | nil=>cases hr
  | cons b bs2=>
   rw[List.map_cons]at hr;injection hr with e1 e2;subst e1 e2;have ny:=hb b (by rw[he];simp);simp![];refine qvz rfl ?_;simp![mod_i ny.1];refine⟨.rt,_,rfl,by decide,?_,?_⟩
   ·rw[X5];have:=congrArg List.length he;rw[Xi]at this;lia
   ·simp![div_i ny.1];refine⟨_,_,ys++[x % b],_,_,bs1++[b],bs2,by simp[iL,vk];exact⟨⟨rfl,rfl⟩,rfl,rfl⟩,rfl,by rw[he];simp,?_,by simp[hy]⟩;have h1:=Xq x (show b≠0 by lia);have h2:=Xl x ny.1;clear he hb
    induction bs1 generalizing ys with
    |nil=>cases ys with
     |nil=>exact⟨h1,h2,trivial⟩
     |cons y ys=>exact hd.elim
    |cons c bs1 ih=>cases ys with
     |nil=>exact hd.elim
     |cons y ys=>exact⟨hd.1,hd.2.1,ih ys hd.2.2 (by simpa using hy)⟩
 ·rintro E ⟨x,o,ys,l,d0,bs1,bs2,rfl,hr,he,hd,hy⟩;cases bs2 with
  |cons b bs2=>cases hr
  |nil=>
   rw[Y0]at he;subst he;simp![];exact⟨ys,rfl,hd⟩
def Each(G:D->Sd->Prop):List D->List Sd->Prop
 |[],[]=>True
 |d::ds,y::ys=>G d y/\Each G ds ys
 |_,_=>False
theorem Each.snoc{G:D->Sd->Prop}{d:D}{y:Sd}(h:G d y):∀{ds:List D} {ys:List Sd},Each G ds ys->Each G (ds++[d]) (ys++[y])
 |[],[],_=>⟨h,trivial⟩
 |_::_,_::_,r=>⟨r.1,Each.snoc h r.2⟩
theorem zq{X:XP}{E:En}{o:Own}{r:List Nat}{it:Ev (List D)}{c:Ex}{P:En->Sd->Prop}(j8:En)(G:D->Sd->Prop)(h0:Eo (it E) (λE1 ds=>r.map (at' E1)=j8/\(∀d∈ds,Eo (c (some (.no,d)::j8)) (λB y=>(∃q,B=q::j8)/\G d y) X)/\∀ys,Each G ds ys->Eo (mkL o (back r j8 (clr r E1)) ys) P X) X):Eo (cLC o 1 r it (.n 0) tYes c E) P X:=by
 refine vx2 (λE1 B ds2 ae=>∃ds ds1 q,ds=ds1++ds2/\B=q::j8/\Each G ds1 ae/\(∀d∈ds,Eo (c (some (.no,d)::j8)) (λB y=>(∃q,B=q::j8)/\G d y) X)/\∀ys,Each G ds ys->Eo (mkL o (back r j8 (clr r E1)) ys) P X) ?_ ?_ ?_
 ·refine h0.mono λE1 ds ⟨h1,h2,h3⟩=>⟨ds,[],none,rfl,by rw[<-h1];rfl,trivial,h2,h3⟩
 ·rintro E1 B d ds2 ae ⟨ds,ds1,q,e,rfl,hE,h2,h3⟩;have hp:(Tg.n 0).put d (q::j8)=some (some (.no,d)::j8):=rfl;rw[hp,vo_some,show tYes (some (Own.no,d)::j8)=some (.ok (some (Own.no,d)::j8) true)from rfl,WY,Xf rfl];refine(h2 d (by rw[e];simp)).mono ?_;rintro B y ⟨⟨q',rfl⟩,hG⟩;exact⟨ds,ds1++[d],q',by rw[e];simp,rfl,hE.snoc hG,h2,h3⟩
 ·rintro E1 B ae ⟨ds,ds1,q,e,rfl,hE,h2,h3⟩;rw[Y0]at e;subst e;exact h3 ae hE
theorem kw7{G:D->Sd->Prop}{S:Int->Prop}(hG:∀d y,G d y->∃i,y.2=.int i/\S i):∀{ds:List D} {ys:List Sd},Each G ds ys->∃ps:List Int,ys.map (·.2)=ps.map D.int/\ps.length=ds.length/\∀p∈ps,S p
 |[],[],_=>⟨[],rfl,rfl,λ_ h=>nomatch h⟩
 |d::ds,y::ys,r=>by
  obtain⟨i,e,s⟩:=hG d y r.1;obtain⟨ps,h1,h2,h3⟩:=kw7 hG r.2;exact⟨i::ps,by simp[e,h1],by simp[h2],λp hp=>(List.mem_cons.mp hp).elim (λz=>z▸s) (h3 p)⟩
theorem qkd{n:Int}:k9 n n=[]:=by unfold k9;rw[Int.sub_self];rfl
theorem kko{k n:Int}(h:k<n):k9 k n=.int k::k9 (k+1) n:=by
 unfold k9;have:(n - k).toNat=(n - (k+1)).toNat+1:=by
  obtain⟨m,hm⟩:=Int.eq_ofNat_of_zero_le (show 0<=n - (k+1)by lia);rw[hm,show n - k=(m+1:Nat)by lia];rfl
 rw[this,List.range_succ_eq_map,List.map_cons,Y3]
 congr 1
 ·simp
 ·apply List.map_congr_left;intro i _;simp only[Function.comp]
  congr 1
  lia
theorem jw1{k n:Int}{d:D}{ds:List D}(hk:k<=n)(h:d::ds=k9 k n):k<n/\d=.int k/\ds=k9 (k+1) n:=by
 by_cases hl:k<n
 ·rw[kko hl]at h;injection h with h1 h2;exact⟨hl,h1,h2⟩
 ·have:k=n:=by lia
  subst this;rw[qkd]at h;cases h
theorem Zk{k n:Int}(hk:k<=n)(h:[]=k9 k n):k=n:=by
 by_cases hl:k<n
 ·rw[kko hl]at h;cases h
 ·lia
theorem vjp{k n:Int}{d:D}(h:d∈k9 k n):∃i:Int,k<=i/\i<n/\d=.int i:=by
 unfold k9 at h;obtain⟨j,hj,rfl⟩:=List.mem_map.mp h;have:=List.mem_range.mp hj;exact⟨k+j,by lia,by lia,rfl⟩
theorem qqd{k n:Int}(h:k<=n):((k9 k n).length:Int)=n - k:=by
 unfold k9;rw[X5,Yu];lia
theorem vxh{o1 o2:Own}{a b:Str}(h:a.cps.size+b.cps.size<=10000):j9 (o1,.str a) (o2,.str b)=some (.dp,.str (a++b)):=by
 show(if a.cps.size+b.cps.size<=big then _ else _)=_;rw[Xf (by unfold big;lia)]
theorem qwf(a b:Str):(a++b).cps.size=a.cps.size+b.cps.size:=by
 show(a.cps++b.cps).size=_;exact Array.size_append
theorem kwm:∀(ss:List Str),x9 (ss.map D.str)=some ss
 |[]=>rfl
 |s::ss=>by rw[List.map_cons,x9,kwm ss];rfl
theorem qwc{o:Own}{ss:List Str}(h:ss.length<64):kjr (o,.lst (ss.map D.str))=some (.rt,.lst ((kX ss).map D.str)):=by
 unfold kjr;dsimp only;rw[kwm];dsimp only;rw[Xf h]
theorem kzl(a:Str):∀r,(Kz a r).length=r.length+1
 |[]=>rfl
 |b::r=>by unfold Kz;split<;>simp[kzl a r]
theorem kva:∀r,(kX r).length=r.length
 |[]=>rfl
 |a::r=>by rw[kX,kzl,kva r];rfl
theorem wjq{a b c:Int}{ds:List Int}(h:Digs [a,b,c] ds):∃x y z,ds=[x,y,z]/\0<=x/\x<a/\0<=y/\y<b/\0<=z/\z<c:=by
 match ds,h with
 |[x,y,z],⟨h1,h2,h3,h4,h5,h6,_⟩=>exact⟨x,y,z,rfl,h1,h2,h3,h4,h5,h6⟩
theorem wjp{a b c d:Int}{ds:List Int}(h:Digs [a,b,c,d] ds):∃x y z w,ds=[x,y,z,w]/\0<=x/\x<a/\0<=y/\y<b/\0<=z/\z<c/\0<=w/\w<d:=by
 match ds,h with
 |[x,y,z,w],⟨h1,h2,h3,h4,h5,h6,h7,h8,_⟩=>exact⟨x,y,z,w,rfl,h1,h2,h3,h4,h5,h6,h7,h8⟩
theorem Digs.get:∀{bs ds:List Int} (h:Digs bs ds) (i:Nat) (b:Int),bs[i]?=some b->∃d,ds[i]?=some d/\0<=d/\d<b
 |b::bs,d::ds,h,0,c,e=>by
  have e:b=c:=by simpa using e
  subst e;exact⟨d,rfl,h.1,h.2.1⟩
 |b::bs,d::ds,h,i+1,c,e=>by
  obtain⟨x,h1,h2⟩:=Digs.get h.2.2 i c (by simpa using e);exact⟨x,by simpa using h1,h2⟩
 |[],_,_,i,c,e=>by simp at e
theorem Digs.len:∀{bs ds:List Int} (h:Digs bs ds),ds.length=bs.length
 |[],[],_=>rfl
 |b::bs,d::ds,h=>by rw[Ya,Ya,Digs.len h.2.2]
abbrev sL(ss:List Str):D:=.lst (ss.map D.str)
theorem dg{bs hs:List Int}(h:Digs bs hs)(i:Int)(h0:0<=i)(h1:i<bs.length):∃v,kJ (iL hs) (.int i)=some (.int v)/\0<=v/\v<bs.getD i.toNat 0:=by
 have hl:i.toNat<bs.length:=by lia
 obtain⟨d,e,d0,d1⟩:=h.get i.toNat bs[i.toNat] (X1 hl);refine⟨d,Q2 h0 (by rw[Xu,e];rfl),d0,?_⟩;rw[X7,X1 hl];exact d1
theorem Digs.nn:∀{bs ds:List Int} (h:Digs bs ds),∀d∈ds,0<=d
 |[],[],_,_,h=>nomatch h
 |b::bs,d::ds,h,x,hx=>by
  rcases List.mem_cons.mp hx with rfl|hx
  ·exact h.1
  ·exact Digs.nn h.2.2 x hx
theorem ixI(ks:List Int)(S:Int->Prop)(hS:∀k∈ks,S k)(i:Int)(h0:0<=i)(h1:i<ks.length):∃v,kJ (iL ks) (.int i)=some (.int v)/\S v/\ks[i.toNat]?=some v:=by
 have hl:i.toNat<ks.length:=by lia
 refine⟨ks[i.toNat],Q2 h0 (by rw[Xu,X1 hl];rfl),hS _ (Y6 hl),X1 hl⟩
theorem fint(b:Bool):∃w:Int,xJ (.bl b)=some (.int w)/\0<=w/\w<=1:=by
 cases b
 ·exact⟨0,rfl,by decide,by decide⟩
 ·exact⟨1,rfl,by decide,by decide⟩
def Gd(n:Int)(g:D):Prop:=g=.str "fresh"\/g=.str "any"\/∃i:Int,0<=i/\i<n/\g=.int i
def Fd(n:Int)(g:D):Prop:=g=.str "new"\/g=.non\/∃i:Int,0<=i/\i<n/\g=.int i
noncomputable def St(own:Int)(d:D):Prop:=∃(z:Str) (g:D) (to:Int) (fs:List D),d=.tup [.str z,g,.int to,.tup fs]/\Gd own g/\(∀f∈fs,Fd own f)/\fs.length<=3
noncomputable def Rm(d:D):Prop:=∃(kp:Int) (gd:Bool) (ss:List D),d=.tup [.int kp,.bl gd,.lst ss]/\0<=kp/\kp<=3/\(∀s∈ss,St kp s)/\ss.length<=14
def Rms(rs:List D):Prop:=1<=rs.length/\rs.length<=4/\∀r∈rs,Rm r
def Rmw(rs:List D):Prop:=1<=rs.length/\rs.length<=12/\∀r∈rs,Rm r
instance {rs:List D}:Coe (Rms rs) (Rmw rs):=⟨λh=>⟨h.1,by have:=h.2.1;lia,h.2.2⟩⟩
noncomputable def Sx(sgs:List Str)(ac:List Int)(d:D):Prop:=∃(z:Str) (g:D) (to:Int) (fs:List D),d=.tup [.str z,g,.int to,.tup fs]/\z∈sgs/\0<=to/\to<ac.length/\(fs.length:Int)=ac.getD to.toNat 0
def At(d:D):Prop:=d=.non\/∃i,d=.int i
theorem q9{n:Nat}:∀{ks:List D},(∀k∈ks,k.flat n=true)->D.flats n ks=true
 |[],_=>by cases n<;>simp[D.flats]
 |k::ks,h=>by rw[D.flats,h k X3,q9 λe he=>h e (lc9 _ he)];rfl
mutual
theorem ZX:∀{n:Nat} (d:D),d.flat n=true->peq d d=true
 |n,.non,_=>by simp[peq]
 |n,.bl b,_=>by simp[peq]
 |n,.int b,_=>by simp[peq]
 |n,.str b,_=>by simp[peq]
 |0,.tup xs,h=>by simp[D.flat]at h
 |0,.lst xs,h=>by simp[D.flat]at h
 |n+1,.tup xs,h=>by rw[peq];exact peqs_refl xs (by simpa [D.flat]using h)
 |n+1,.lst xs,h=>by rw[peq];exact peqs_refl xs (by simpa [D.flat]using h)
 |n,.dct _,h=>by cases n<;>simp[D.flat]at h
 |n,.obj _ _,h=>by cases n<;>simp[D.flat]at h
theorem peqs_refl:∀{n:Nat} (ds:List D),D.flats n ds=true->peqs ds ds=true
 |_,[],_=>by simp[peqs]
 |n,d::ds,h=>by
  rw[D.flats,Bool.and_eq_true]at h;rw[peqs,ZX d h.1,peqs_refl ds h.2];rfl
end
theorem eq_self{d:D}(h:d.flat 40=true):fEq d d=some (.bl true):=by unfold fEq;rw[h,ZX d h];rfl
noncomputable def fitB(ks:List D)(d g:D):Bool:=match g with
 |.int i=>peq (ks.getD i.toNat .non) d
 |.str s=>if s="fresh" then !ks.any λz=>peq z d else true
 |_=>true
theorem ix2(c g r f:D):kJ (.tup [c,g,r,f]) (.int 2)=some r:=rfl
theorem p0(a b:D):kJ (.tup [a,b]) (.int 0)=some a:=rfl
theorem p1(a b:D):kJ (.tup [a,b]) (.int 1)=some b:=rfl
theorem t0(a b c:D):kJ (.tup [a,b,c]) (.int 0)=some a:=rfl
theorem t1(a b c:D):kJ (.tup [a,b,c]) (.int 1)=some b:=rfl
theorem t2(a b c:D):kJ (.tup [a,b,c]) (.int 2)=some c:=rfl
def vwu(ks:List D)(d f:D):D:=match f with
 |.int i=>ks.getD i.toNat .non
 |.str _=>d
 |_=>.non
theorem Jz{G:D->Sd->Prop}{h:D->D}(hG:∀d y,G d y->y.2=h d):∀{ds:List D} {ys:List Sd},Each G ds ys->ys.map (·.2)=ds.map h
 |[],[],_=>rfl
 |d::ds,y::ys,r=>by rw[List.map_cons,List.map_cons,hG d y r.1,Jz hG r.2]
abbrev v9(ss:List Str)(rs:List D):D:=.tup [sL ss,.lst rs]
def wjs(z:Str)(ks:List D)(d s:D):Bool:=match s with
 |.tup [.str w,g,_,_]=>(w==z)&&fitB ks d g
 |_=>false
noncomputable def qv6(p:D->Bool):Nat->List D->List D
 |_,[]=>[]
 |k,s::r=>if p s=true then .int k::qv6 p (k+1) r else qv6 p (k+1) r
def qvw(ks:List D)(d s:D):D:=match s with
 |.tup [_,_,to,.tup fs]=>.tup [to,.tup (fs.map (vwu ks d))]
 |_=>.non
theorem kze{o:Own}{xs:List D}(h:o≠.dp):K4 (o,.lst xs)=some (.rt,.lst xs):=by
 show(if qW (o,.lst xs)then _ else _)=_;rw[Xf (by cases o<;>simp_all [qW])]
def wr(x:Int):Int:=if x<=0 then x else x - 10 ^ 60
def vW(own k:Int):Int:=own+(if k=own then 1 else 0)
noncomputable def Cs(ac:List Int)(b:Int)(c:D):Prop:=c=.non\/∃(to:Int) (fs:List Int),c=.tup [.int to,.tup (fs.map D.int)]/\0<=to/\to<ac.length/\(∀f∈fs,0<=f/\f<b)/\fs.Nodup/\(fs.length:Int)=ac.getD to.toNat 0
theorem XQ{α:Type}:∀{l:List α} {i:Nat} (h:i<l.length),(l[i]::l.eraseIdx i).Perm l
 |a::l,0,h=>List.Perm.refl _
 |a::l,i+1,h=>by
  have:=XQ (l:=l) (i:=i) (by simpa using h);rw[List.getElem_cons_succ,Yv];exact(List.Perm.swap ..).trans (this.cons a)
theorem kw5{α β:Type}(f:α->β):∀(l:List α) (i:Nat),(l.map f).eraseIdx i=(l.eraseIdx i).map f
 |[],_=>rfl
 |a::l,0=>rfl
 |a::l,i+1=>by rw[List.map_cons,Yv,Yv,List.map_cons,kw5 f l i]
theorem qv7(a b:Int):xJ (.bl (a==b))=some (.int (if a=b then 1 else 0)):=by
 by_cases h:a=b
 ·rw[Xf h,show(a==b)=true by simpa using h];rfl
 ·rw[Xj h,show(a==b)=false by simpa using h];rfl
theorem vkb{ys ac:List Int}{r k own:Int}(hd:Digs [6,60,60,60,60] ys)(hk:∀p∈ac,0<=p/\p<=3)(hr0:0<=r)(hr1:r<ac.length)(ho:ac[r.toNat]?=some own)(hk0:0<=k)(hk1:k<=own)(aj:ac.length<=6):
  Oo m__law_case [(.no,iL ys),(.no,iL ac),(.no,.int r),(.no,.int k)] (λy=>Cs ac (vW own k) y.2) noX:=by
 obtain⟨y0,e0,a0,_⟩:=dg hd 0 (by decide) (by decide);obtain⟨y1,e1,a1,_⟩:=dg hd 1 (by decide) (by decide);have hyl:ys.length=5:=hd.len;have t0:=Xq y1 (show(ac.length:Int)≠0 by lia);have t1:=Xl y1 (show(0:Int)<ac.length by lia);obtain⟨kt,et,⟨kt0,kt1⟩,hkt⟩:=ixI ac _ hk (y1 % ac.length) t0 t1;have er:kJ (iL ac) (.int r)=some (.int own):=Q2 hr0 (by rw[Xu,ho];rfl);have kr:=hk own (List.mem_of_getElem? ho);unfold m__law_case;refine qK ?_;have hB0:0<=vW own k/\vW own k<=4:=by unfold vW;split<;>lia
 have df:own+(if k=own then(1:Int)else 0)=vW own k:=rfl;simp![e1,mod_i (a:=y1) (b:=(ac.length:Int)) (by lia),er,K1,qv7,df,e0]
 by_cases hy0:y0=0
 ·rw[show(y0==0)=true by simpa using hy0];simp![];exact .inl rfl
 rw [show(y0==0)=false by simpa using hy0];have hrl:=qqd (k:=0) (n:=vW own k) hB0.1;simp![et,df]
 by_cases dm:((k9 0 (vW own k)).length:Int)<kt
 ·simp![X6 dm];exact .inl rfl
 simp![Xb dm];refine Jv (λE j8=>∃(sm fl ds:List Int) (l7:Option Sd),E=[some (.no,iL ys),some (.no,iL ac),some (.no,.int r),some (.no,.int k),some (.dp,.int (y1 % ac.length)),some (.rt,iL sm),some (.rt,iL fl),l7]/\j8=ds.map D.int/\(∀d∈ds,0<=d)/\(sm.length:Int)+fl.length=vW own k/\(fl.length:Int)+ds.length=kt/\(fl++sm).Nodup/\∀f∈fl++sm,0<=f/\f<vW own k) ?_ ?_ ?_
 ·simp![et,K3 (o:=.no) (xs:=ys.map D.int) (lo:=some 2) (hi:=some (2+kt)) (by decide)];have hrg:k9 0 (vW own k)=((List.range (vW own k).toNat).map (λ(j:Nat)=>(j:Int))).map D.int:=by
   unfold k9;rw[Int.sub_zero,Y3];apply List.map_congr_left;intro j _;simp
  rw[hrg];refine⟨(List.range (vW own k).toNat).map (λ(j:Nat)=>(j:Int)),[],(ys.drop 2).take kt.toNat,none,rfl,?_,λd i'=>hd.nn d (List.mem_of_mem_drop (Yr i')),?_,?_,?_,?_⟩
  ·unfold zZ zw;dsimp only;rw[Xj (by lia),Xj (by lia),List.map_take,List.map_drop,X5,hyl];have h1:min (Int.toNat 2) 5=2:=rfl;have h2:min (2+kt).toNat 5 - 2=kt.toNat:=by lia
   rw[h1,h2]
  ·simp;lia
  ·rw[Y9,Ym,hyl];simp;lia
  ·rw[List.nil_append];exact List.Pairwise.map (λ(j:Nat)=>(j:Int)) (λa b h e=>h (by have:(a:Int)=(b:Int):=e;lia)) List.nodup_range
  ·intro f hf;rw[List.nil_append]at hf;obtain⟨j,hj,rfl⟩:=List.mem_map.mp hf;have:=List.mem_range.mp hj;lia
 ·rintro E d j8 ⟨sm,fl,ds,l7,rfl,hr,hnn,h1,h2,h3,h4⟩;cases ds with
  | nil=>cases hr
  | cons v ds=>
   rw[List.map_cons]at hr;injection hr with z1 z2;subst z1 z2;rw[Ya]at h2;have hsm:0<sm.length:=by lia
   have v0:=hnn v X3;have u0:=Xq v (show(sm.length:Int)≠0 by lia);have u1:=Xl v (show(0:Int)<sm.length by lia);have hj:(v % sm.length).toNat<sm.length:=by lia
   simp![];refine VX rfl ?_;refine vvf rfl ?_;simp![mod_i (a:=v) (b:=(sm.length:Int)) (by lia)];refine⟨.rt,_,_,.int (sm[(v % sm.length).toNat]),rfl,by decide,rfl,u0,by lia,by rw[Xu,X1 hj];rfl,rfl,?_⟩;simp![];refine⟨_,rfl,by rw[X5];lia,?_⟩;have pm:(fl++[sm[(v % sm.length).toNat]]++sm.eraseIdx (v % sm.length).toNat).Perm (fl++sm):=by
    rw[Xm];exact List.Perm.append_left fl (XQ hj)
   refine⟨sm.eraseIdx (v % sm.length).toNat,fl++[sm[(v % sm.length).toNat]],ds,some (.no,.int v),?_,rfl,λd i'=>hnn d (lc9 _ i'),?_,?_,pm.nodup_iff.mpr h3,λf hf=>h4 f (pm.mem_iff.mp hf)⟩
   ·simp only[iL,Yd,List.map_cons,List.map_nil,kw5]
   ·rw[List.length_eraseIdx_of_lt hj,Xi];simp;lia
   ·rw[Xi];simp;lia
 ·rintro E ⟨sm,fl,ds,l7,rfl,hr,hnn,h1,h2,h3,h4⟩;have:ds=[]:=by cases ds with
   |nil=>rfl
   |cons=>cases hr
  subst this;simp![Zx (o:=.rt) (xs:=fl.map D.int) (by decide)];refine .inr ⟨y1 % ac.length,fl,rfl,t0,t1,λf hf=>h4 f (ll9 _ hf),(List.nodup_append.mp h3).1,?_⟩;rw[X7,hkt]
  simpa using h2
noncomputable def Pr(ac:List Int)(n:Nat)(own:Int)(d:D):Prop:=∃(gd:Bool) (st:List D),d=.tup [.int own,.bl gd,.lst st]/\st.length=n/\∀c∈st,∃cs:List D,c=.lst cs/\(cs.length:Int)=own+1/\∀k:Nat,k<cs.length->∃z,cs[k]?=some z/\Cs ac (vW own k) z
noncomputable def Prs(ac:List Int)(n:Nat)(rs:List D):Prop:=rs.length=ac.length/\∀i:Nat,i<ac.length->∃r,rs[i]?=some r/\Pr ac n (ac.getD i 0) r
theorem qwn{dr:Fn}(ld:Dr dr)(ns:List Int)(a:Int)(ss:List Str)(ha:0<=a)(ou:a<=200)(hs:1<=ss.length)(lf:ss.length<=3):Oo (m__law_plain dr) [(.no,iL ns),(.no,.int a),(.no,sL ss)] (λy=>∃rs bf,y=(.no,.tup [v9 ss rs,.int bf])/\∃ac:List Int,1<=ac.length/\ac.length<=6/\ac[0]?=some 0/\(∀p∈ac,0<=p/\p<=3)/\Prs ac ss.length rs/\a<=bf/\bf<=a+80) noX:=by
 have m1:xk (.no,.lst [.int 12]) (.no,.int 6)=some (.rt,.lst [.int 12,.int 12,.int 12,.int 12,.int 12,.int 12]):=rfl;have m2:xk (.no,.lst [.int 2]) (.no,.int 6)=some (.rt,.lst [.int 2,.int 2,.int 2,.int 2,.int 2,.int 2]):=rfl;have p1:j9 (.no,.lst [.int 24,.int 8,.int 8]) (.no,.lst [.int 12,.int 12,.int 12,.int 12,.int 12,.int 12])=some (.rt,.lst [.int 24,.int 8,.int 8,.int 12,.int 12,.int 12,.int 12,.int 12,.int 12]):=rfl;have p2:j9 (.no,.lst [.int 24,.int 8,.int 8,.int 12,.int 12,.int 12,.int 12,.int 12,.int 12]) (.no,.lst [.int 2,.int 2,.int 2,.int 2,.int 2,.int 2])=some (.rt,.lst [.int 24,.int 8,.int 8,.int 12,.int 12,.int 12,.int 12,.int 12,.int 12,.int 2,.int 2,.int 2,.int 2,.int 2,.int 2]):=rfl;unfold m__law_plain;refine qK ?_;simp![];refine(ld ns a ha (by lia)).use ?_;intro x _;simp![m1,m2,p1,p2];refine(jz1 x [24,8,8,12,12,12,12,12,12,2,2,2,2,2,2] (by decide) (by decide)).use ?_;intro gs hd;obtain⟨v0,e0,a0,b0⟩:=dg hd 0 (by decide) (by decide);obtain⟨v1,e1,a1,b1⟩:=dg hd 1 (by decide) (by decide);obtain⟨v2,e2,a2,b2⟩:=dg hd 2 (by decide) (by decide);have q0:=Xq v0 (show(4:Int)≠0 by decide);have q1:=Xl v0 (show(0:Int)<4 by decide);have r0:=Xq v2 (show(2:Int)≠0 by decide);have r1:=Xl v2 (show(0:Int)<2 by decide);simp![e0,e1,e2,K1,qv7];obtain⟨size,esz,sz0,sz1⟩:∃sz:Int,kJ (.lst [.int (1+v0 % 4),.int 5,.int 6]) (.int ((if v1=3 then 1 else 0)*(1+v2 % 2)))=some (.int sz)/\1<=sz/\sz<=6:=by
  by_cases h3:v1=3
  ·rw[Xf h3,Int.one_mul]
   by_cases h2:v2 % 2=0
   ·rw[h2];exact⟨5,rfl,by decide,by decide⟩
   ·have:v2 % 2=1:=by lia
    rw[this];exact⟨6,rfl,by decide,by decide⟩
  ·rw[Xj h3,Int.zero_mul];exact⟨1+v0 % 4,rfl,by lia,by lia⟩
 have hmul:xk (.no,.int (if v1=3 then 1 else 0)) (.no,.int (1+v2 % 2))=some (.dp,.int ((if v1=3 then 1 else 0)*(1+v2 % 2))):=mul_r (by lia) (by lia);simp![hmul,esz];refine zq [some (.rt,iL gs),some (.no,.int size)] (λ_ y=>∃i,y=(.dp,.int i)/\0<=i/\i<=3) ?_;simp![];refine⟨rfl,λd i'=>?_,λys hy=>?_⟩
 ·obtain⟨i,i0,i1,rfl⟩:=vjp i';obtain⟨w,ew,aw,bw⟩:=dg hd (3+i) (by lia) (by simp;lia);have fin:∀c:Int,0<=c->c<=1->(∃q,[some (Own.no,D.int i),some (Own.rt,iL gs),some (Own.no,D.int size)]=q::[some (Own.rt,iL gs),some (Own.no,D.int size)])/\∃j:Int,((Own.dp,D.int (w % (3+c))):Sd)=(.dp,.int j)/\0<=j/\j<=3:=λc c0 c1=>by
   have:=Xq w (show 3+c≠0 by lia);have:=Xl w (show 0<3+c by lia);exact⟨⟨_,rfl⟩,_,rfl,by lia,by lia⟩
  simp![ew,e2,K1];cases(v2==5)with
  | false=>
   have hf:xJ (.bl false)=some (.int 0):=rfl;simp![hf];exact fin 0 (by decide) (by decide)
  | true=>
   obtain⟨c,ec,c0,c1⟩:=fint (decide (size<4));simp![ec];exact fin c c0 c1
 obtain⟨ks,h1,h2,h3⟩:=kw7 (S:=λi=>0<=i/\i<=3) (λd y ⟨i,h,s⟩=>⟨i,by rw[h],s⟩) hy;rw [J0,h1];simp only[back,clr,at',List.map_cons,List.map_nil,List.set_cons_zero,List.set_cons_succ];have hkl:((0::ks).length:Int)=size:=by rw[Ya];have:=qqd (k:=1) (n:=size) (by lia);lia
 have hk3:∀p∈(0::ks:List Int),0<=p/\p<=3:=λp hp=>by
  rcases List.mem_cons.mp hp with rfl|hp
  ·exact⟨by decide,by decide⟩
  ·exact h3 p hp
 have nu:j9 (.no,.lst [.int 0]) (.no,.lst (ks.map D.int))=some (.rt,iL (0::ks)):=J4 (by decide) (by decide) (by rw[X5];simp at hkl ⊢;lia);have hk0:(0::ks:List Int)[0]?=some 0:=rfl;simp![nu];generalize (0::ks:List Int)=ac at hkl hk3 nu hk0;refine Jv (λE j8=>∃r:Int,∃bf rs l8 l9 dz gb ei gf o5 o7,E=[some (.no,iL ns),some (.no,.int a),some (.no,sL ss),some (.rt,iL gs),some (.no,.int size),some (o5,iL ac),some (.rt,.lst rs),some (o7,.int bf),l8,l9,dz,gb,ei,gf]/\sub o5=.no/\0<=r/\r<=size/\j8=k9 r size/\(rs.length:Int)=r/\a+1<=bf/\bf<=a+1+12*r/\∀i:Nat,i<rs.length->∃d,rs[i]?=some d/\Pr ac ss.length (ac.getD i 0) d) ?_ ?_ ?_
 ·simp![];exact⟨0,a+1,[],_,_,_,_,_,_,_,_,rfl,rfl,by lia,by lia,rfl,rfl,by lia,by lia,λi hi=>nomatch hi⟩
 ·rintro E d ds ⟨r,bf,rs,l8,l9,dz,gb,ei,gf,o5,o7,rfl,hs5,r0,r1,hr,hrl,km,at1,hrs⟩;obtain⟨hrk,rfl,rfl⟩:=jw1 r1 hr;obtain⟨own,eo,⟨ow0,ow1⟩,how⟩:=ixI ac _ hk3 r r0 (by lia);simp![];refine Jv (λE j8=>∃s:Int,∃bf st o5 o7 dz gb ei gf,E=[some (.no,iL ns),some (.no,.int a),some (.no,sL ss),some (.rt,iL gs),some (.no,.int size),some (o5,iL ac),some (.rt,.lst rs),some (o7,.int bf),some (.no,.int r),some (.rt,.lst st),dz,gb,ei,gf]/\sub o5=.no/\0<=s/\s<=ss.length/\j8=k9 s ss.length/\(st.length:Int)=s/\a+1<=bf/\bf<=a+1+12*r+4*s/\∀c∈st,∃cs:List D,c=.lst cs/\(cs.length:Int)=own+1/\∀k:Nat,k<cs.length->∃z,cs[k]?=some z/\Cs ac (vW own k) z) ?_ ?_ ?_
  ·simp![];exact⟨0,bf,[],_,_,_,_,_,_,rfl,hs5,by lia,by lia,rfl,rfl,by lia,by lia,λc hc=>nomatch hc⟩
  ·rintro E d ds ⟨s,bf,st,o5,o7,dz,gb,ei,gf,rfl,hs5,s0,s1,hr,hsl,km,at1,bo⟩;obtain⟨hsk,rfl,rfl⟩:=jw1 s1 hr;simp![];refine Jv (λE j8=>∃k:Int,∃bf cs o5 o7 ei gf,E=[some (.no,iL ns),some (.no,.int a),some (.no,sL ss),some (.rt,iL gs),some (.no,.int size),some (o5,iL ac),some (.rt,.lst rs),some (o7,.int bf),some (.no,.int r),some (.rt,.lst st),some (.no,.int s),some (.rt,.lst cs),ei,gf]/\sub o5=.no/\0<=k/\k<=own+1/\j8=k9 k (own+1)/\(cs.length:Int)=k/\a+1<=bf/\bf<=a+1+12*r+4*s+k/\∀k:Nat,k<cs.length->∃z,cs[k]?=some z/\Cs ac (vW own k) z) ?_ ?_ ?_
   ·simp![eo,hs5];exact⟨0,bf,[],_,_,_,_,rfl,hs5,by lia,by lia,rfl,rfl,by lia,by lia,λc hc=>nomatch hc⟩
   ·rintro E d ds ⟨k,bf,cs,o5,o7,ei,gf,rfl,hs5,k0,k1,hr,de,km,at1,fv⟩;obtain⟨hkk,rfl,rfl⟩:=jw1 k1 hr;simp![];refine(ld ns bf (by lia) (by lia)).use ?_;intro x2 _;simp![];refine(jz1 x2 [6,60,60,60,60] (by decide) (by decide)).use ?_;intro ys nk;simp![];refine VX rfl ?_;simp![];refine(vkb nk hk3 r0 (by lia) how k0 (by lia) (by lia)).via ?_;intro y hy;simp![];refine⟨_,rfl,by lia,k+1,bf+1,cs++[y.2],_,_,_,_,rfl,rfl,by lia,by lia,rfl,by simp;lia,by lia,by lia,?_⟩;intro j hj;rw[Xi,Xs]at hj
    by_cases hj2:j<cs.length
    ·obtain⟨z,z1,z2⟩:=fv j hj2;exact⟨z,by rw[Xw hj2];exact z1,z2⟩
    ·have:j=cs.length:=by lia
     subst this;exact⟨y.2,by simp,by rw[de];exact hy⟩
   ·rintro E ⟨k,bf,cs,o5,o7,ei,gf,rfl,hs5,k0,k1,hr,de,km,at1,fv⟩;have:=Zk k1 hr;subst this;refine VX rfl ?_;simp![];refine⟨_,rfl,by lia,s+1,bf,st++[.lst cs],_,_,_,_,_,_,rfl,hs5,by lia,by lia,rfl,by simp;lia,by lia,by lia,λc hc=>?_⟩;rcases List.mem_append.mp hc with z|z
    ·exact bo c z
    ·rw[List.mem_singleton.mp z];exact⟨cs,rfl,de,fv⟩
  ·rintro E ⟨s,bf,st,o5,o7,dz,gb,ei,gf,rfl,hs5,s0,s1,hr,hsl,km,at1,bo⟩;have:=Zk s1 hr;subst this;obtain⟨w,ew,_,_⟩:=dg hd (9+r) (by lia) (by simp;lia);refine VX rfl ?_;simp![eo,ew,K1,hs5];refine⟨_,rfl,by lia,r+1,bf,rs++[.tup [.int own,.bl (w==1),.lst st]],_,_,_,_,_,_,_,_,rfl,hs5,by lia,by lia,rfl,by simp;lia,by lia,by lia,?_⟩;intro j hj;rw[Xi,Xs]at hj
   by_cases hj2:j<rs.length
   ·obtain⟨z,z1,z2⟩:=hrs j hj2;exact⟨z,by rw[Xw hj2];exact z1,z2⟩
   ·have:j=rs.length:=by lia
    subst this;refine⟨_,by simp;rfl,?_⟩;have hg:ac.getD rs.length 0=own:=by rw[X7,show rs.length=r.toNat by lia,how];rfl
    rw[hg];exact⟨_,st,rfl,by lia,bo⟩
 ·rintro E ⟨r,bf,rs,l8,l9,dz,gb,ei,gf,o5,o7,rfl,hs5,r0,r1,hr,hrl,km,at1,hrs⟩;have:=Zk r1 hr;subst this;simp![kze (o:=.no) (xs:=ss.map D.str) (by decide)];exact⟨rs,bf,rfl,ac,by lia,by lia,hk0,hk3,⟨by lia,λi hi=>hrs i (by lia)⟩,by lia,by lia⟩
noncomputable def Ps(r:D):Prop:=∃(own:Int) (gd:Bool) (st:List D),r=.tup [.int own,.bl gd,.lst st]/\∀c∈st,∃cs:List D,c=.lst cs/\∀z∈cs,z=.non\/∃(to:Int) (fs:List Int),z=.tup [.int to,.tup (fs.map D.int)]
theorem Prs.ps{ac:List Int}{n:Nat}{rs:List D}(h:Prs ac n rs):∀r∈rs,Ps r:=λr hr=>by
 obtain⟨i,hi,e⟩:=Yo hr;obtain⟨r',e',gd,st,h1,h2,h3⟩:=h.2 i (by rw[<-h.1];exact hi);rw[X1 hi,e]at e';cases e';refine⟨_,gd,st,h1,λc hc=>?_⟩;obtain⟨cs,g1,g2,g3⟩:=h3 c hc;refine⟨cs,g1,λz hz=>?_⟩;obtain⟨k,hk,ek⟩:=Yo hz;obtain⟨z',e2,lc⟩:=g3 k hk;rw[X1 hk,ek]at e2;cases e2;rcases lc with rfl|⟨to,fs,rfl,_⟩
 ·exact .inl rfl
 ·exact .inr ⟨to,fs,rfl⟩
theorem Vj{r:D}(h:Ps r):r.flat 38=true:=by
 obtain⟨own,gd,st,rfl,h⟩:=h;show D.flats 37 [.int own,.bl gd,.lst st]=true;refine q9 λd hd=>?_
 simp only[Xr,Xk,or_false]at hd;rcases hd with rfl|rfl|rfl
 ·rfl
 ·rfl
 ·show D.flats 36 st=true;refine q9 λc hc=>?_
  obtain⟨cs,rfl,h2⟩:=h c hc;show D.flats 35 cs=true;refine q9 λz hz=>?_
  rcases h2 z hz with rfl|⟨to,fs,rfl⟩
  ·rfl
  ·show D.flats 34 [.int to,.tup (fs.map D.int)]=true;refine q9 λd hd=>?_
   simp only[Xr,Xk,or_false]at hd;rcases hd with rfl|rfl
   ·rfl
   ·show D.flats 33 (fs.map D.int)=true;exact q9 λk hk=>by obtain⟨w,_,rfl⟩:=List.mem_map.mp hk;rfl
theorem jzh{ss:List Str}{rs:List D}(h:∀r∈rs,Ps r):(v9 ss rs).flat 40=true:=by
 show D.flats 39 [sL ss,.lst rs]=true;refine q9 λd hd=>?_
 simp only[Xr,Xk,or_false]at hd;rcases hd with rfl|rfl
 ·show D.flats 38 (ss.map D.str)=true;exact q9 λk hk=>by obtain⟨w,_,rfl⟩:=List.mem_map.mp hk;rfl
 ·show D.flats 38 rs=true;exact q9 λr hr=>Vj (h r hr)
abbrev iT(ks:List Int):D:=.tup (ks.map D.int)
def vw9(ks:List Int)(p:Int)(f:Int):Int:=(ks++[p]).getD f.toNat 0
noncomputable def wju(ks:List Int)(p:Int)(c:D):D:=match c with
 |.tup [to,.tup fs]=>.tup [to,.tup (fs.map λf=>match f with|.int i=>.int (vw9 ks p i)|_=>.non)]
 |_=>.non
noncomputable def vxc(ss:List Str)(st:List D)(ks:List Int)(z:Str)(p:Int):D:=match st[ss.findIdx λw=>w==z]? with
 |some (.lst cs)=>cs.getD (ks.findIdx λw=>w==p) .non
 |_=>.non
noncomputable def vqm(ss:List Str)(st:List D)(ks:List Int)(z:Str)(p:Int):D:=if(ss.any λw=>w==z)=true then wju ks p (vxc ss st ks z p)else .non
noncomputable def Cas(ac:List Int)(n:Nat)(own:Int)(st:List D):Prop:=st.length=n/\∀c∈st,∃cs:List D,c=.lst cs/\(cs.length:Int)=own+1/\∀k:Nat,k<cs.length->∃z,cs[k]?=some z/\Cs ac (vW own k) z
inductive DR1 (ns:List Int)(k:Int):En->List D->Prop
 |mk (x:Int) (f:Int) (j:Int) {o3:Own} {o4:Own} {l5:Option Sd} {j8:List D} (h0:0<=x) (h1:x<10000000000) (h2:0<=j) (h3:j<=8) (h4:j8=k9 j 8):DR1 ns k [some (.no,iL ns),some (.no,.int k),some (.dp,.int most),some (o3,.int x),some (o4,.int f),l5] j8
noncomputable def Go(rs:List D)(s:D)(w:Str×Int)(k:Nat)(s':D):Prop:=∃(ay:Int) (ks st:List D) (gd:D),s=.tup [.int ay,.tup ks]/\0<=ay/\rs[ay.toNat]?=some (.tup [.int ks.length,gd,.lst st])/\(∀s∈st,St ks.length s)/\(∀k∈ks,At k)/\∃h:k<st.length,D.int k∈qv6 (wjs w.1 ks (.int w.2)) 0 st/\s'=qvw ks (.int w.2) st[k]
abbrev Lg:=List ((Str×Int)×Nat)
def vxo(rs:List D):D->Lg->D->Prop
 |s,[],s'=>s=s'
 |s,x::r,s'=>∃m,Go rs s x.1 x.2 m/\vxo rs m r s'
abbrev wk9(L:Lg):List D:=L.map λx=>.int x.2
theorem XW{xs:List D}{c:Int}(h0:0<=c)(h1:c<=xs.length):zZ xs none (some c)=xs.take c.toNat:=by
 unfold zZ zw;dsimp only;rw[Xj (by lia),List.drop_zero,Nat.sub_zero,Nat.min_eq_left (Int.toNat_le.mpr h1)]
end C
namespace C
open Q PySem
noncomputable def Rd(ac:List Int)(ss:List Str)(rs:List D)(s:D)(w:Str×Int)(s':D):Prop:=(s=.non/\s'=.non)\/∃(ay:Int) (ks:List Int) (st:List D) (kp gd:D),s=.tup [.int ay,iT ks]/\0<=ay/\rs[ay.toNat]?=some (.tup [kp,gd,.lst st])/\Cas ac ss.length ks.length st/\ks.length<=3/\s'=vqm ss st ks w.1 w.2
abbrev Lw:=List (Str×Int)
abbrev st0:D:=.tup [.int 0,iT []]
noncomputable def vww(rs:List D)(s:D):Bool:=match s with
 |.tup [.int ay,_]=>(match rs[ay.toNat]? with
  |some (.tup [_,.bl b,_])=>b
  |_=>false)
 |_=>false
end C
namespace C
open Q PySem
noncomputable section
def Q9(K:List D)(d:D):List D:=if d∈K then K else K++[d]
def Wj:D->List D
 |.tup [_,.tup ks]=>ks
 |_=>[]
noncomputable def wkc(rs:List D):D->List D
 |.tup [.int r,_]=>(match rs.getD r.toNat .non with
  |.tup [_,_,.lst st]=>st
  |_=>[])
 |_=>[]
noncomputable def wjg(rs:List D):D->Bool
 |.tup [.int r,_]=>(match rs.getD r.toNat .non with
  |.tup [_,.bl b,_]=>b
  |_=>false)
 |_=>false
def bh(ks st:List D)(p:Int):D->D
 |.int k=>qvw ks (.int p) (st.getD k.toNat .non)
 |_=>.non
noncomputable def qwx(rs:List D)(w:Str×Int)(s:D):List D:=(qv6 (wjs w.1 (Wj s) (.int w.2)) 0 (wkc rs s)).map (bh (Wj s) (wkc rs s) w.2)
def vqc(rs:List D)(w:Str×Int)(K:List D):List D:=(K.flatMap (qwx rs w)).foldl Q9 []
def wke(rs:List D):List (Str×Int)->List D->List D
 |[],K=>K
 |w::ws,K=>wke rs ws (vqc rs w K)
end
noncomputable def SokV(ac:List Int)(V:List D)(s:D):Prop:=∃(ay:Int) (ks:List D),s=.tup [.int ay,.tup ks]/\0<=ay/\ay<ac.length/\(ks.length:Int)=ac.getD ay.toNat 0/\(∀k∈ks,At k)/\∀k∈ks,k∈V
def Kin(ac:List Int)(V K:List D):Prop:=K.Nodup/\∀s∈K,SokV ac V s
abbrev Kvs:=List (D×D)
abbrev Lws:=List (Str×Int)
noncomputable def Wd(rs:List D)(s0:D)(pre:List (Str×Int))(ak:List (D×D)):Prop:=∀e∈ak,∃L:Lg,e.2=.lst (wk9 L)/\L.map (·.1)=pre/\vxo rs s0 L e.1
inductive WO1 (ss:List Str)(rs V:List D)(ac:List Int)(s0:D)(pre:Lws)(ak:Kvs)(z:Str)(p:Int):En->List D->Prop
 |mk (li:Kvs) (qg:Kvs) (kv:Kvs) {l5:Option Sd} {l6:Option Sd} {l7:Option Sd} {l8:Option Sd} {j8:List D} (h0:j8=qg.map (λe=>D.tup [e.1,e.2])) (h1:ak=li++qg) (h2:kv.map (·.1)=((li.map (·.1)).flatMap (qwx rs (z,p))).foldl Q9 []) (h3:Kin ac V (kv.map (·.1))) (h4:Wd rs s0 (pre++[(z,p)]) kv):WO1 ss rs V ac s0 pre ak z p [some (.no,v9 ss rs),some (.no,.dct ak),some (.no,.str z),some (.no,.int p),some (.rt,.dct kv),l5,l6,l7,l8] j8
inductive WO2 (ss:List Str)(rs V:List D)(ac:List Int)(s0:D)(pre:Lws)(ak:Kvs)(z:Str)(p:Int)(ay:Int)(ks st:List D)(L:Lg)(li:Kvs):En->List D->Prop
 |mk (f1:List D) (kv:Kvs) {l7:Option Sd} {l8:Option Sd} {j8:List D} (h0:qv6 (wjs z ks (.int p)) 0 st=f1++j8) (h1:kv.map (·.1)=(f1.map (bh ks st p)).foldl Q9 (((li.map (·.1)).flatMap (qwx rs (z,p))).foldl Q9 [])) (h2:Kin ac V (kv.map (·.1))) (h3:Wd rs s0 (pre++[(z,p)]) kv):WO2 ss rs V ac s0 pre ak z p ay ks st L li [some (.no,v9 ss rs),some (.no,.dct ak),some (.no,.str z),some (.no,.int p),some (.rt,.dct kv),some (.no,.tup [.int ay,.tup ks]),some (.no,.lst (wk9 L)),l7,l8] j8
abbrev rwD(ws:List (Str×Int)):List D:=ws.map λw=>.tup [.str w.1,.int w.2]
inductive WB1 (ss:List Str)(rs:List D)(s0:D)(ws:Lws):En->List D->Prop
 |mk (w1:Lws) (w2:Lws) (kv:Kvs) {l3:Option Sd} {l4:Option Sd} {j8:List D} (h0:j8=rwD w2) (h1:ws=w1++w2) (h2:kv.map (·.1)=wke rs w1 [s0]) (h3:Wd rs s0 w1 kv):WB1 ss rs s0 ws [some (.no,v9 ss rs),some (.no,.lst (rwD ws)),some (.rt,.dct kv),l3,l4,none,none] j8
inductive WB2 (ss:List Str)(rs:List D)(ws:Lws)(kv:Kvs):En->List D->Prop
 |mk (li:Kvs) (qg:Kvs) {o2:Own} {l3:Option Sd} {l4:Option Sd} {l5:Option Sd} {l6:Option Sd} {j8:List D} (h0:j8=qg.map (λe=>D.tup [e.1,e.2])) (h1:kv=li++qg) (h2:(li.map (·.1)).any (wjg rs)=false):WB2 ss rs ws kv [some (.no,v9 ss rs),some (.no,.lst (rwD ws)),some (o2,.dct kv),l3,l4,l5,l6] j8
noncomputable section
end
end C
namespace B
open Q PySem C
abbrev Sn:=Option (Int×List Int)
def stn:Sn->D
 |none=>.non
 |some p=>.tup [.int p.1,iT p.2]
def nms:Sn->List Int
 |none=>[]
 |some p=>p.2
def rmO:Sn->Int
 |none=>-1
 |some p=>p.1
def wjf(o t:List Int):List Int:=o++t.filter λn=>!(o.any λw=>w==n)
noncomputable def vzf(t:List Int):Nat->List Int->List (Int×Int)
 |_,[]=>[]
 |k,n::o=>if(t.any λw=>w==n)=true then((k:Int),((t.findIdx λw=>w==n:Nat):Int))::vzf t (k+1) o else vzf t (k+1) o
abbrev prs(l:List (Int×Int)):List D:=l.map λp=>.tup [.int p.1,.int p.2]
def qws(a b:Sn):D:=.tup [.int (rmO a),.int (rmO b),.tup (prs (vzf (nms b) 0 (nms a)))]
def vq8(ay:Int)(ks:List Int):Sn:=if ay=-1 then none else some (ay,ks)
noncomputable def nmF(own:Int)(kv:List (Int×Int)):Nat->List Int
 |0=>[]
 |n+1=>nmF own kv n++[match valI kv n with
  |some i=>i
  |none=>own+((nmF own kv n).filter λx=>decide (own<=x)).length]
def kvS(sh:List (Int×Int)):List (Int×Int):=(sh.map λp=>(p.2,p.1)).foldl (λkv p=>putI kv p.1 p.2) []
abbrev wkg(k:Int):List Int:=(List.range k.toNat).map λ(i:Nat)=>(i:Int)
def fst1(p k:Int):Sn:=vq8 p (wkg k)
def fst2(q k k':Int)(sh:List (Int×Int)):Sn:=vq8 q (nmF k (kvS sh) k'.toNat)
def wkv(f:Int->Int):Sn->Sn:=Option.map λp=>(p.1,p.2.map f)
section
variable {f:Int->Int}
noncomputable def wqa(ac:List Int)(s:Sn):Prop:=∀ay ks,s=some (ay,ks)->0<=ay/\ay<ac.length/\(ks.length:Int)=ac.getD ay.toNat 0
end
end B
namespace B
open PySem Q
noncomputable def jxx:Fn:=fn 5
  (j6 (jk 2 (jx .rt []))
  (j6 (sIf (tE (cF2 (pu2 fEq) (vE (cF2 (pu2 kq) (vV 0) (C9 2))) (C9 1))) (j6 (jk 0 (cF2 (pu2 z8) (vV 0) (C9 2)))
  (j6 (v8 (wx (vV 1)) (.n 3) (j6 (qZ v4 2 (cF2 (pu2 kq) (vV 0) (C9 2147483647)))
  (jk 0 (cF2 (pu2 z8) (vV 0) (C9 2147483647)))))
  (jX (cMv 2)))) vj)
  (j6 (jk 4 (cF2 j9 (vE (cF2 (pu2 kq) (vE (cF2 (pu2 z8) (vV 0) (C9 2))) (C9 2147483647))) (C9 48271)))
  (j6 (v8 (wx (vE (cF2 j9 (vV 1) (C9 1)))) (.n 3) (j6 (jk 4 (cF2 (pu2 kq) (vE (cF2 j9 (vE (cF2 j9 (vE (cF2 qw (vV 4) (vV 4))) (vE (cF2 qw (C9 48271) (vV 4))))) (vV 3))) (C9 2147483647)))
  (qZ v4 2 (cF2 (pu2 kq) (vE (cF2 j9 (vE (cF2 qw (vV 4) (C9 40692))) (vE (cF2 qw (C9 7) (vV 3))))) (C9 2147483399)))))
  (jX (cSl (vV 2) (some (C9 1)) none))))))
noncomputable def m__law_signs:Fn:=fn 7
  (j6 (jk 1 (cC (.str "abcdefghijklmnopqrstuvwxyz")))
  (j6 (jk 2 (jJ jxx [(cV 0),(cC (.int 9))]))
  (j6 (jk 3 (wjv "" (vE (cLC .rt 1 [1] (itS (cSl (vV 2) none (some (vE (cF2 j9 (C9 1) (vE (cF2 (pu2 kq) (vV 0) (C9 8)))))))) (.n 0) tYes (cH (jw (vV 1) (vE (cF2 (pu2 kq) (vV 0) (C9 26)))))))))
  (j6 (jk 4 (cF2 (pu2 kq) (vE (cF2 (pu2 z8) (vV 0) (C9 8))) (vE (cF1 (pu1 kZ) (vV 3)))))
  (j6 (jk 5 (jx .rt []))
  (j6 (v8 (wx (jw (vE (jx .rt [(cC (.int 1)),(cC (.int 2)),(cC (.int 1)),(cC (.int 2)),(cC (.int 2)),(cC (.int 1)),(cC (.int 2)),(cC (.int 3))])) (vE (cF2 (pu2 kq) (vE (cF2 (pu2 z8) (vV 0) (C9 64))) (C9 8))))) (.n 6) (qZ v4 5 (cF2 j9 (vE (cF2 j9 (vE (cSl (vV 3) none (some (vV 4)))) (jw (vV 1) (vE (cF2 j9 (vE (cF2 (pu2 kq) (jw (vV 2) (C9 8)) (C9 24))) (vV 6)))))) (vE (cSl (vV 3) (some (vE (cF2 j9 (vV 4) (C9 1)))) none)))))
  (jX (cMv 5))))))))
noncomputable def jzp:Fn:=fn 6
  (j6 (jk 3 (W7 (vV 2)))
  (j6 (jk 4 (jx .rt []))
  (j6 (v8 (wx (vV 1)) (.n 5) (j6 (qZ v4 4 (Wx 3 (vE (cF2 (pu2 kq) (vV 0) (vE (cF1 (pu1 kZ) (vV 3)))))))
  (jk 0 (cF2 j9 (vE (cF2 (pu2 z8) (vV 0) (C9 7))) (vE (cF2 qw (C9 5) (vV 5)))))))
  (jX (cF1 J7 (vV 4))))))
noncomputable def m__law_case:Fn:=fn 5
  (j6 (sIf (tE (cF2 (pu2 fEq) (vE (cF2 (pu2 kq) (vV 0) (C9 5))) (C9 4))) (jX (cC .non)) vj)
  (j6 (jk 3 (cLC .rt 1 [1,2] (wx (vE (cF1 (pu1 kZ) (vV 1)))) (.n 0) (tE (cF2 (pu2 fLe) (jw (vV 1) (vV 0)) (vV 2))) (cV 0)))
  (j6 (jk 4 (cH (jw (vV 3) (vE (cF2 (pu2 kq) (vE (cF2 (pu2 z8) (vV 0) (C9 5))) (vE (cF1 (pu1 kZ) (vV 3))))))))
  (jX (jv .no [(cV 4),(jJ jzp [(cF2 (pu2 z8) (vV 0) (C9 35)),(cH (jw (vV 1) (vV 4))),(cV 2)])])))))
noncomputable def m__law_plain:Fn:=fn 13
  (j6 (jk 2 (jJ jxx [(cV 0),(cC (.int 90))]))
  (j6 (jk 3 (cH (jw (vE (jx .rt [(cC (.int 1)),(cC (.int 2)),(cC (.int 3)),(cC (.int 4)),(cC (.int 5)),(cC (.int 2)),(cC (.int 4)),(cC (.int 6))])) (vE (cF2 (pu2 kq) (jw (vV 2) (C9 0)) (C9 8))))))
  (j6 (jk 4 (cC (.int 2)))
  (j6 (sIf (Z8 (tE (cF2 (pu2 fEq) (vV 3) (C9 3))) (tE (cF2 (pu2 fEq) (vE (cF2 (pu2 kq) (jw (vV 2) (C9 1)) (C9 3))) (C9 0)))) (jk 4 (cC (.int 3))) vj)
  (j6 (jk 5 (cF2 j9 (vE (jx .rt [(cC (.int 0))])) (vE (cLC .rt 1 [2,4] (wx (vE (cF2 (pu2 K2) (vV 3) (C9 1)))) (.n 0) tYes (cF2 (pu2 kq) (vE (cF2 (pu2 z8) (jw (vV 1) (vE (cF2 j9 (C9 1) (vV 0)))) (C9 3))) (vE (cF2 j9 (vV 2) (C9 1))))))))
  (j6 (jk 6 (jx .rt []))
  (j6 (jk 7 (cC (.int 8)))
  (j6 (v8 (wx (vV 3)) (.n 8) (j6 (jk 9 (jx .rt []))
  (j6 (v8 (wx (vE (cF1 (pu1 kZ) (vV 1)))) (.n 10) (j6 (jk 11 (jx .rt []))
  (j6 (v8 (wx (vE (cF2 j9 (jw (vV 5) (vV 8)) (C9 1)))) (.n 12) (j6 (qZ v4 11 (jJ m__law_case [(cH (jw (vV 2) (vV 7))),(cV 5),(cF2 j9 (jw (vV 5) (vV 8)) (vE (cF1 (pu1 xJ) (vE (cF2 (pu2 fEq) (vV 12) (jw (vV 5) (vV 8)))))))]))
  (jk 7 (cF2 j9 (vV 7) (C9 1)))))
  (qZ v4 9 (cV 11)))))
  (j6 (qZ v4 6 (jv .no [(cH (jw (vV 5) (vV 8))),(cF2 (pu2 fEq) (vE (cF2 (pu2 kq) (jw (vV 2) (vV 7)) (C9 2))) (C9 0)),(cV 9)]))
  (jk 7 (cF2 j9 (vV 7) (C9 1)))))))
  (jX (jv .no [(cF1 K4 (vV 1)),(cV 6)]))))))))))
end B
namespace B
open Q PySem C
def St(n:Int)(xs:List Int):Prop:=(xs.length:Int)=n/\∀x∈xs,0<=x/\x<2147483647
inductive PlC (c:Int)(ss:List Str)(xs:List Int)(size m:Int)(ac:List Int)(rs:List D)(r own:Int)(st:List D)(s:Int):En->List D->Prop
 |mk (k:Int) (bf:Int) (cs:List D) {o5:Own} {o7:Own} {ei:Option Sd} {j8:List D} (h0:sub o5=.no) (h1:0<=k) (h2:k<=own+1) (h3:j8=k9 k (own+1)) (h4:(cs.length:Int)=k) (h5:8<=bf) (h6:bf<=8+(3*(m+1)+1)*r+(m+1)*s+k) (h7:∀k:Nat,k<cs.length->∃z,cs[k]?=some z/\Cs ac (vW own k) z):PlC c ss xs size m ac rs r own st s [some (.no,.int c),some (.no,sL ss),some (.rt,iL xs),some (.no,.int size),some (.dp,.int m),some (o5,iL ac),some (.rt,.lst rs),some (o7,.int bf),some (.no,.int r),some (.rt,.lst st),some (.no,.int s),some (.rt,.lst cs),ei] j8
inductive PlB (c:Int)(ss:List Str)(xs:List Int)(size m:Int)(ac:List Int)(rs:List D)(r own:Int):En->List D->Prop
 |mk (s:Int) (bf:Int) (st:List D) {o5:Own} {o7:Own} {dz:Option Sd} {gb:Option Sd} {ei:Option Sd} {j8:List D} (h0:sub o5=.no) (h1:0<=s) (h2:s<=ss.length) (h3:j8=k9 s ss.length) (h4:(st.length:Int)=s) (h5:8<=bf) (h6:bf<=8+(3*(m+1)+1)*r+(m+1)*s) (h7:∀c∈st,∃cs:List D,c=.lst cs/\(cs.length:Int)=own+1/\∀k:Nat,k<cs.length->∃z,cs[k]?=some z/\Cs ac (vW own k) z):PlB c ss xs size m ac rs r own [some (.no,.int c),some (.no,sL ss),some (.rt,iL xs),some (.no,.int size),some (.dp,.int m),some (o5,iL ac),some (.rt,.lst rs),some (o7,.int bf),some (.no,.int r),some (.rt,.lst st),dz,gb,ei] j8
inductive PlA (c:Int)(ss:List Str)(xs:List Int)(size m:Int)(ac:List Int):En->List D->Prop
 |mk (r:Int) (bf:Int) (rs:List D) {l8:Option Sd} {l9:Option Sd} {dz:Option Sd} {gb:Option Sd} {ei:Option Sd} {o5:Own} {o7:Own} {j8:List D} (h0:sub o5=.no) (h1:0<=r) (h2:r<=size) (h3:j8=k9 r size) (h4:(rs.length:Int)=r) (h5:8<=bf) (h6:bf<=8+(3*(m+1)+1)*r) (h7:∀i:Nat,i<rs.length->∃d,rs[i]?=some d/\Pr ac ss.length (ac.getD i 0) d):PlA c ss xs size m ac [some (.no,.int c),some (.no,sL ss),some (.rt,iL xs),some (.no,.int size),some (.dp,.int m),some (o5,iL ac),some (.rt,.lst rs),some (o7,.int bf),l8,l9,dz,gb,ei] j8
def vwu(S:Sn)(c:Int):D:=if c∈nms S then .int ((nms S).findIdx λw=>w==c:Nat)else .non
end B
namespace A
open Q PySem C B
abbrev AZ:Str:="abcdefghijklmnopqrstuvwxyz"
end A
namespace F
open Q PySem C
def Kj(ae:List Int):D->List Int
 |.int i=>if i∈ae then ae else ae++[i]
 |_=>ae
def V7(ks:List D):List Int:=ks.foldl Kj []
def plc(ns:List Int):D->D
 |.int i=>.int (ns.findIdx λw=>w==i:Nat)
 |d=>d
def pr(ks:List D):List D:=ks.map (plc (V7 ks))
noncomputable def vz(K:List D)(s:D):List D×D:=match s with
 |.tup [ay,.tup ks]=>(Q9 K (.tup [ay,.tup (pr ks)]),.tup [.int ((Q9 K (.tup [ay,.tup (pr ks)])).idxOf (.tup [ay,.tup (pr ks)]):Nat),iT (V7 ks)])
 |_=>(K,.non)
end F
namespace F
open Q PySem C
def obD(rs:List D)(s:D)(z:Str)(p:Int):Option D:=match qwx rs (z,p) s with
 |[]=>some .non
 |[d]=>some d
 |_=>none
noncomputable def qza(rs:List D)(s:D)(z:Str):List D->List D->Option (List D×List D)
 |[],K=>some (K,[])
 |.int p::ps,K=>match obD rs s z p with
  |none=>none
  |some d=>(qza rs s z ps (vz K d).1).map λr=>(r.1,(vz K d).2::r.2)
 |_::_,_=>none
end F
namespace F
open Q PySem C
def vxa(rs:List D)(s:D)(z:Str)(K:List D):Option (List D×List D):=qza rs s z (k9 0 ((V7 (Wj s)).length+1)) K
noncomputable def qxm(rs:List D)(s:D):List Str->List D->Option (List D×List D)
 |[],K=>some (K,[])
 |z::zs,K=>match vxa rs s z K with
  |none=>none
  |some r=>(qxm rs s zs r.1).map λq=>(q.1,.lst r.2::q.2)
noncomputable def vww(rs:List D)(s:D):D:=match s with
 |.tup [.int ay,_]=>(match rs[ay.toNat]? with
  |some (.tup [_,g,_])=>g
  |_=>.non)
 |_=>.non
def vql(rs:List D)(s:D)(st:List D):D:=.tup [.int (V7 (Wj s)).length,vww rs s,.lst st]
noncomputable def vqb(ss:List Str)(rs K ah:List D):Option (List D×List D):=(qxm rs (K.getD ah.length .non) ss K).map λr=>(r.1,ah++[vql rs (K.getD ah.length .non) r.2])
inductive Run (ss:List Str)(rs:List D):List D->List D->Option (List D×List D)->Prop
 |stop {K ah:List D}:¬ah.length<K.length->Run ss rs K ah (some (K,ah))
 |fail {K ah:List D}:ah.length<K.length->vqb ss rs K ah=none->Run ss rs K ah none
 |go {K ah K' jd:List D} {r:Option (List D×List D)}:ah.length<K.length->vqb ss rs K ah=some (K',jd)->Run ss rs K' jd r->Run ss rs K ah r
end F
namespace F
open Q PySem C
def ltr:List Nat:=("abcdefghijklmnopqrstuvwxyz":Str).cps.toList
end F
namespace F
open Q PySem C
noncomputable def FA(g:D)(fs:List D):Prop:=(∀(i j:Nat) (f:D),f≠.non->fs[i]?=some f->fs[j]?=some f->i=j)/\(D.str "new"∈fs->g≠.str "any"/\g∉fs)
end F
namespace F
open Q PySem C
noncomputable def Cpt(ap:Bool)(g g':D):Prop:=(g=.str "fresh"/\∃i,g'=.int i)\/(g'=.str "fresh"/\∃i,g=.int i)\/(ap=true/\∃i j:Int,g=.int i/\g'=.int j/\i≠j)
noncomputable def wqb(ap:Bool)(st:List D):Prop:=(∀(i j:Nat) (z:Str) (g g' t t' f f':D),i<j->st[i]?=some (.tup [.str z,g,t,f])->st[j]?=some (.tup [.str z,g',t',f'])->Cpt ap g g')/\(ap=true->∀(z:Str) (g t:D) (fs:List D),D.tup [.str z,g,t,.tup fs]∈st->FA g fs)
end F
namespace F
open Q PySem C
def Asks(ap:Bool)(dj:Int)(as:List D):Prop:=as.Pairwise (Cpt ap)/\(∀a∈as,Gd dj a)/\as.length<=4
end F
namespace F
open Q PySem C
noncomputable def jzp:Fn:=fn 9
  (j6 (jk 5 (cF2 j9 (vE (jx .rt [(cC (.str "new")),(cC .non)])) (vE (W7 (vV 2)))))
  (j6 (jk 6 (jx .rt []))
  (j6 (v8 (itS (cSl (vV 0) none (some (vV 3)))) (.n 7) (j6 (jk 8 (cH (jw (vV 5) (vE (cF2 (pu2 kq) (vV 7) (vE (cF1 (pu1 kZ) (vV 5))))))))
  (j6 (sIf (Z8 (tEQ (vV 4)) (tE (cF2 (f2First fNotNon) (vV 8) (vE (cC .non))))) (sIf (tOr (tE (cF2 (pu2 VY) (vV 8) (vV 6))) (tOr (Z8 (tE (cF2 (pu2 fEq) (vV 8) (vE (cC (.str "new"))))) (tOr (tE (cF2 (pu2 fEq) (vV 1) (vE (cC (.str "any"))))) (tE (cF2 (pu2 VY) (vV 1) (vV 6))))) (Z8 (tE (cF2 (pu2 fEq) (vV 8) (vV 1))) (tE (cF2 (pu2 VY) (vE (cC (.str "new"))) (vV 6)))))) (jk 8 (cC .non)) vj) vj)
  (qZ v4 6 (cV 8)))))
  (jX (cF1 J7 (vV 6))))))
def FAb(ap:Bool)(g:D)(fs:List D):Prop:=ap=true->FA g fs
inductive FJ1 (zs:List Int)(g:D)(dj there:Int)(ap:Bool)(LL:List D):En->List D->Prop
 |mk (fs:List D) (ws:List Int) {l7:Option Sd} {l8:Option Sd} {j8:List D} (h0:j8=ws.map D.int) (h1:(fs.length+ws.length:Int)=there) (h2:(∀f∈fs,Fd dj f)) (h3:FAb ap g fs):FJ1 zs g dj there ap LL [some (.no,iL zs),some (.no,g),some (.no,.int dj),some (.no,.int there),some (.no,.bl ap),some (.rt,.lst LL),some (.rt,.lst fs),l7,l8] j8
theorem vjz(i:Int)(h0:0<=i)(h1:i<26):kJ (.str "abcdefghijklmnopqrstuvwxyz") (.int i)=some (.str ⟨#[ltr.getD i.toNat 0]⟩):=by
 obtain⟨n,rfl⟩:=Int.eq_ofNat_of_zero_le h0;have h26:ltr.length=26:=by decide +kernel
 have hn:n<ltr.length:=by lia
 have hs:(("abcdefghijklmnopqrstuvwxyz":Str).cps.size:Int)=26:=by decide +kernel
 show((Q.ixN ("abcdefghijklmnopqrstuvwxyz":Str).cps.size n).bind λj=>(ltr[j]?).map λc=>D.str ⟨#[c]⟩)=_;unfold Q.ixN;rw[Xf h0,Xf (by lia)];show((ltr[n]?).map λc=>D.str ⟨#[c]⟩)=_;rw[X1 hn,X7,Xv,X1 hn];rfl
theorem vjr:∀i<26,∀j<26,ltr.getD i 0=ltr.getD j 0->i=j:=by decide +kernel
def Ltr(b st:Int)(bf:Nat)(i:Nat)(z:Str):Prop:=z.cps.toList[bf]?=some (ltr.getD ((b+i*(st+1)) % 26).toNat 0)
inductive FJ2 (x n sz am st b:Int):En->List D->Prop
 |mk (k:Int) (ss:List Str) {l7:Option Sd} {l8:Option Sd} {l9:Option Sd} {dz:Option Sd} {j8:List D} (h0:0<=k) (h1:k<=n) (h2:j8=k9 k n) (h3:(ss.length:Int)=k) (h4:∀i:Nat,i<ss.length->Ltr b st am.toNat i (ss.getD i "")):FJ2 x n sz am st b [some (.no,.int x),some (.no,.int n),some (.dp,.str "abcdefghijklmnopqrstuvwxyz"),some (.no,.int sz),some (.dp,.int am),some (.no,.int st),some (.rt,sL ss),l7,l8,l9,dz] j8
inductive FJ3 (x n sz am st b k:Int)(ss:List Str):En->List D->Prop
 |mk (j:Int) (z:Str) {l9:Option Sd} {dz:Option Sd} {o8:Own} {j8:List D} (h0:0<=j) (h1:j<=sz+1) (h2:j8=k9 j (sz+1)) (h3:(z.cps.size:Int)=j) (h4:(am<j->Ltr b st am.toNat ss.length z)):FJ3 x n sz am st b k ss [some (.no,.int x),some (.no,.int n),some (.dp,.str "abcdefghijklmnopqrstuvwxyz"),some (.no,.int sz),some (.dp,.int am),some (.no,.int st),some (.rt,sL ss),some (.no,.int k),some (o8,.str z),l9,dz] j8
theorem qq8{a d:Int}(h0:0<d)(h1:d<26)(h:(a+d) % 26=a % 26):False:=by lia
end F
namespace F
open Q PySem C
inductive SJ1 (ns:List Int)(a:Int)(ss:List Str)(hs ks:List Int)(v0:Int)(ap:Bool):En->List D->Prop
 |mk (r:Nat) (rs:List D) {l7 l8 l9 dz gb ei gf n8:Option Sd} {j8:List D} (h1:j8=k9 r (1+v0)) (h2:(r:Int)<=1+v0) (h3:rs.length=r) (h4:∀i:Nat,i<r->∃(gd:Bool) (st:List D),rs[i]?=some (.tup [.int (ks.getD i 0),.bl gd,.lst st])/\(∀s∈st,St (ks.getD i 0) s/\Sx ss ks s)/\st.length<=12/\wqb ap st):SJ1 ns a ss hs ks v0 ap [some (.no,iL ns),some (.no,.int a),some (.no,sL ss),some (.rt,iL hs),some (.dp,.int (1+v0)),some (.rt,iL ks),some (.rt,.lst rs),l7,l8,l9,dz,gb,ei,gf,n8] j8
noncomputable def Sgn(ss:List Str)(j:Nat)(st:List D):Prop:=∀s∈st,∃i,i<j/\∃(hi:i<ss.length) (g t f:D),s=.tup [.str ss[i],g,t,f]
inductive SJ2 (ns:List Int)(a:Int)(ss:List Str)(hs ks:List Int)(v0:Int)(ap:Bool)(rs:List D)(r:Nat)(dj:Int):En->List D->Prop
 |mk (j:Nat) (st:List D) {l9 dz gb ei gf n8:Option Sd} {j8:List D} (h1:j8=k9 j ss.length) (h2:j<=ss.length) (h3:∀s∈st,St dj s/\Sx ss ks s) (h4:st.length<=4*j) (h5:wqb ap st) (h6:Sgn ss j st):SJ2 ns a ss hs ks v0 ap rs r dj [some (.no,iL ns),some (.no,.int a),some (.no,sL ss),some (.rt,iL hs),some (.dp,.int (1+v0)),some (.rt,iL ks),some (.rt,.lst rs),some (.no,.int r),some (.rt,.lst st),l9,dz,gb,ei,gf,n8] j8
noncomputable def Ads(ss:List Str)(j:Nat)(hj:j<ss.length)(ap:Bool)(as add:List D):Prop:=∀(i:Nat) (d:D),add[i]?=some d->∃(g t:D) (fs:List D),as[i]?=some g/\d=.tup [.str ss[j],g,t,.tup fs]/\(ap=true->FA g fs)
inductive SJ3 (ns:List Int)(a:Int)(ss:List Str)(hs ks:List Int)(v0:Int)(ap:Bool)(rs:List D)(r:Nat)(dj:Int)(st:List D)(j:Nat)(hj:j<ss.length)(ys:List Int):En->List D->Prop
 |mk (k:Nat) (as add bm:List D) {gb ei gf n8:Option Sd} {j8:List D} (h0:bm=st++add) (h1:Asks ap dj as) (h2:k<=as.length) (h3:j8=vx4 k (as.drop k)) (h4:add.length=k) (h5:∀s∈add,St dj s/\Sx ss ks s) (h6:Ads ss j hj ap as add):SJ3 ns a ss hs ks v0 ap rs r dj st j hj ys [some (.no,iL ns),some (.no,.int a),some (.no,sL ss),some (.rt,iL hs),some (.dp,.int (1+v0)),some (.rt,iL ks),some (.rt,.lst rs),some (.no,.int r),some (.rt,.lst bm),some (.no,.int j),some (.no,iL ys),gb,ei,gf,n8] j8
end F
namespace F
open Q PySem C
noncomputable def vxb(K:List D)(d:D):D:=match d with
 |.tup [ay,.tup ks]=>.tup [.int (K.idxOf (.tup [ay,.tup (pr ks)]):Nat),iT (V7 ks)]
 |_=>.non
noncomputable def wjt(rs:List D)(s:D)(z:Str)(L:List D)(d:D):D:=match d with
 |.int p=>(match obD rs s z p with
  |some d=>vxb L d
  |none=>.non)
 |_=>.non
def wkf(s:D):List D:=k9 0 ((V7 (Wj s)).length+1)
def vqa(ss:List Str)(rs L:List D)(s:D):List D:=ss.map λz=>.lst ((wkf s).map (wjt rs s z L))
def wk7(L:List D)(e:D):Prop:=∀ay ks,e=.tup [ay,.tup ks]->D.tup [ay,.tup (pr ks)]∈L
def Clo(zs:List Str)(rs L:List D)(s:D):Prop:=∀z∈zs,∀p:Int,D.int p∈wkf s->∃e,obD rs s z p=some e/\wk7 L e
def Nrm(t:D):Prop:=∃ay ks,t=.tup [ay,.tup (pr ks)]
noncomputable def Inv(ss:List Str)(rs K ah:List D):Prop:=ah.length<=K.length/\(∀i,i<ah.length->Clo ss rs K (K.getD i .non)/\∀L,K <+: L->ah[i]?=some (vql rs (K.getD i .non) (vqa ss rs L (K.getD i .non))))/\∀t∈K,Nrm t
end F
namespace G
open Q PySem C F
def fl(own:Int):D->D
 |.int f=>if f=own then .str "new" else .int f
 |d=>d
end G
namespace G
open Q PySem C F
def nN(t:D):Nat:=(V7 (Wj t)).length
end G
namespace J
open Q PySem C B F
def wjb:D->Int
 |.int i=>i
 |_=>0
def snOf:D->Sn
 |.tup [.int r,.tup ks]=>some (r,ks.map wjb)
 |_=>none
noncomputable def rdF(ss:List Str)(rs:List D)(S:Sn)(z:Str)(c:Int):Sn:=match S with
 |none=>none
 |some (ay,ks)=>(match rs[ay.toNat]? with
  |some (.tup [_,_,.lst st])=>snOf (vqm ss st ks z c)
  |_=>none)
def kpF(rs:List D)(p:Int):Int:=if p=-1 then 0 else(match rs[p.toNat]? with
 |some (.tup [.int k,_,_])=>k
 |_=>0)
noncomputable def gdF(rs:List D)(p:Int):Bool:=if p=-1 then false else(match rs[p.toNat]? with
 |some (.tup [_,.bl g,_])=>g
 |_=>false)
noncomputable def vkc(K:List D)(x:Sn×Sn):List D×D:=if rmO x.1=-1/\rmO x.2=-1 then(K,.non)else(Q9 K (qws x.1 x.2),.tup [.int ((Q9 K (qws x.1 x.2)).idxOf (qws x.1 x.2):Nat),iT (wjf (nms x.1) (nms x.2))])
end J
namespace J
open Q PySem C B F
noncomputable def YY:List (Sn×Sn)->List D->List D×List D
 |[],K=>(K,[])
 |x::r,K=>((YY r (vkc K x).1).1,(vkc K x).2::(YY r (vkc K x).1).2)
def lat(x:Sn×Sn):D:=.tup [stn x.1,stn x.2]
noncomputable def qqm(ss:List Str)(rs aq:List D)(S T:Sn)(own:Nat)(z:Str):List (Sn×Sn):=(List.range (own+1)).map λ(c:Nat)=>(rdF ss rs S z c,rdF ss aq T z c)
noncomputable def kxp(ss:List Str)(rs aq:List D)(S T:Sn)(own:Nat):List Str->List D->List D×List D
 |[],K=>(K,[])
 |z::zs,K=>((kxp ss rs aq S T own zs (YY (qqm ss rs aq S T own z) K).1).1,.lst (YY (qqm ss rs aq S T own z) K).2::(kxp ss rs aq S T own zs (YY (qqm ss rs aq S T own z) K).1).2)
noncomputable def byW(w:Str)(g g':Bool):Bool:=if w == "both" then g&&g' else if w == "either" then g||g' else if w == "first" then g && !g' else g != g'
section
variable {ac bc:List Int}{ss:List Str}{rs aq:List D}
def pS(rs:List D):D->Sn
 |.tup [.int p,_,_]=>fst1 p (kpF rs p)
 |_=>none
def vzg:List D->List (Int×Int)
 |[]=>[]
 |.tup [.int i,.int j]::r=>(i,j)::vzg r
 |_::r=>vzg r
def pT(rs aq:List D):D->Sn
 |.tup [.int p,.int q,.tup sh]=>fst2 q (kpF rs p) (kpF aq q) (vzg sh)
 |_=>none
def pO(rs aq:List D)(P:D):Nat:=(wjf (nms (pS rs P)) (nms (pT rs aq P))).length
def gS(rs:List D):D->Bool
 |.tup [.int p,_,_]=>gdF rs p
 |_=>false
def gT(rs:List D):D->Bool
 |.tup [_,.int q,_]=>gdF rs q
 |_=>false
noncomputable def vzh(w:Str)(ss:List Str)(rs aq:List D)(P:D)(st:List D):D:=.tup [.int (pO rs aq P),.bl (byW w (gS rs P) (gT aq P)),.lst st]
noncomputable def Pok(ac bc:List Int)(P:D):Prop:=∃(p q:Int) (sh:List (Int×Int)),P=.tup [.int p,.int q,.tup (prs sh)]/\-1<=p/\p<ac.length/\-1<=q/\q<bc.length/\sh.length<=3
noncomputable def vqd(w:Str)(ss:List Str)(rs aq K ah:List D):List D×List D:=
 ((kxp ss rs aq (pS rs (K.getD ah.length .non)) (pT rs aq (K.getD ah.length .non)) (pO rs aq (K.getD ah.length .non)) ss K).1,
  ah++[vzh w ss rs aq (K.getD ah.length .non) (kxp ss rs aq (pS rs (K.getD ah.length .non)) (pT rs aq (K.getD ah.length .non)) (pO rs aq (K.getD ah.length .non)) ss K).2])
inductive RunJ (w:Str)(ss:List Str)(rs aq:List D):List D->List D->Option (List D×List D)->Prop
 |stop {K ah:List D}:¬ah.length<K.length->RunJ w ss rs aq K ah (some (K,ah))
 |great {K ah:List D}:ah.length<K.length->40<K.length->RunJ w ss rs aq K ah none
 |go {K ah:List D} {r:Option (List D×List D)}:ah.length<K.length->K.length<=40->RunJ w ss rs aq (vqd w ss rs aq K ah).1 (vqd w ss rs aq K ah).2 r->RunJ w ss rs aq K ah r
abbrev P0:D:=.tup [.int 0,.int 0,.tup []]
end
end J
namespace Kp
open Q PySem C
noncomputable def m_is_whole:Fn:=fn 1
  (jX (wQ (vE (cF1 (pu1 (k8 "int")) (vV 0))) (qxj (vE (cF1 (pu1 (k8 "bool")) (vV 0))))))
noncomputable def m_is_sign:Fn:=fn 1
  (j6 (sIf (tOr (tNot (tEQ (vE (cF1 (pu1 (k8 "str")) (vV 0))))) (tNot (tE (JW fLe fLe (C9 1) (vE (cF1 (pu1 kZ) (vV 0))) (C9 8))))) (jX (cC (.bl false))) vj)
  (jX (cF1 (pu1 J8) (vE (cLC .rt 1 [] (itS (cV 0)) (.n 0) tYes (cF2 (pu2 VY) (vV 0) (vE (cC (.str "abcdefghijklmnopqrstuvwxyz")))))))))
noncomputable def m_is_tuple_of:Fn:=fn 2
  (jX (wQ (vE (cF1 (pu1 (z9 "tuple")) (vV 0))) (cF2 (pu2 fEq) (vE (cF1 (pu1 kZ) (vV 0))) (vV 1))))
def m_is_below:Fn:=fn 2
  (jX (wQ (vE (jJ m_is_whole [(cV 0)])) (JW fLe fLt (C9 0) (vV 0) (vV 1))))
noncomputable def m_are_signs:Fn:=fn 1
  (j6 (sIf (tOr (tNot (tEQ (vE (cF1 (pu1 (k8 "list")) (vV 0))))) (tNot (tE (JW fLe fLe (C9 1) (vE (cF1 (pu1 kZ) (vV 0))) (C9 3))))) (jX (cC (.bl false))) vj)
  (j6 (sIf (tNot (tEQ (vE (cF1 (pu1 J8) (vE (cLC .rt 1 [] (itS (cV 0)) (.n 0) tYes (jJ m_is_sign [(cV 0)]))))))) (jX (cC (.bl false))) vj)
  (jX (cF2 (pu2 fEq) (vV 0) (vE (cF1 XY (vV 0)))))))
noncomputable def m_has_plain_frame:Fn:=fn 1
  (jX (wQ (vE (jJ m_is_tuple_of [(cV 0),(cC (.int 3))])) (wQ (vE (jJ m_is_below [(cH (jw (vV 0) (C9 0))),(cF2 j9 (C9 6) (C9 1))])) (cF1 (pu1 (k8 "bool")) (jw (vV 0) (C9 1))))))
noncomputable def m_is_list_of:Fn:=fn 2
  (jX (wQ (vE (cF1 (pu1 (k8 "list")) (vV 0))) (cF2 (pu2 fEq) (vE (cF1 (pu1 kZ) (vV 0))) (vV 1))))
noncomputable def m_are_plain_fills:Fn:=fn 3
  (j6 (sIf (tOr (tNot (tEQ (vE (jJ m_is_tuple_of [(cV 0),(cV 2)])))) (tNot (tEQ (vE (cF1 (pu1 J8) (vE (cLC .rt 1 [1] (itS (cV 0)) (.n 0) tYes (jJ m_is_below [(cV 0),(cV 1)])))))))) (jX (cC (.bl false))) vj)
  (jX (cF2 (pu2 fEq) (vE (cF1 (pu1 Wq) (vV 0))) (vV 2))))
noncomputable def m_is_case:Fn:=fn 3
  (j6 (sIf (tE (cF2 (f2First fIsNon) (vV 0) (vE (cC .non)))) (jX (cC (.bl true))) vj)
  (j6 (sIf (tOr (tNot (tEQ (vE (jJ m_is_tuple_of [(cV 0),(cC (.int 2))])))) (tNot (tEQ (vE (jJ m_is_below [(cH (jw (vV 0) (C9 0))),(cF1 (pu1 kZ) (vV 2))]))))) (jX (cC (.bl false))) vj)
  (jX (jJ m_are_plain_fills [(cH (jw (vV 0) (C9 1))),(cV 1),(cH (jw (vV 2) (jw (vV 0) (C9 0))))]))))
noncomputable def m_are_cases:Fn:=fn 4
  (j6 (sIf (tNot (tEQ (vE (jJ m_is_list_of [(cV 0),(cF2 j9 (vV 1) (C9 1))])))) (jX (cC (.bl false))) vj)
  (j6 (jk 3 (cF1 (pu1 J8) (vE (cLC .rt 1 [1,2] (itS (cSl (vV 0) none (some (vV 1)))) (.n 0) tYes (jJ m_is_case [(cV 0),(cV 1),(cV 2)])))))
  (jX (wQ (vV 3) (jJ m_is_case [(cH (jw (vV 0) (vV 1))),(cF2 j9 (vV 1) (C9 1)),(cV 2)])))))
noncomputable def m_are_plain_steps:Fn:=fn 4
  (jX (wQ (vE (jJ m_is_list_of [(cV 0),(cV 1)])) (cF1 (pu1 J8) (vE (cLC .rt 1 [2,3] (itS (cV 0)) (.n 0) tYes (jJ m_are_cases [(cV 0),(cV 1),(cV 2)]))))))
noncomputable def m_are_plain_rooms:Fn:=fn 3
  (j6 (sIf (tOr (tNot (tEQ (vE (cF1 (pu1 (k8 "list")) (vV 0))))) (tNot (tE (JW fLe fLe (C9 1) (vE (cF1 (pu1 kZ) (vV 0))) (C9 200))))) (jX (cC (.bl false))) vj)
  (j6 (sIf (tNot (tEQ (vE (cF1 (pu1 J8) (vE (cLC .rt 1 [] (itS (cV 0)) (.n 0) tYes (jJ m_has_plain_frame [(cV 0)]))))))) (jX (cC (.bl false))) vj)
  (j6 (jk 2 (cLC .rt 1 [] (itS (cV 0)) (.n 0) tYes (cH (jw (vV 0) (C9 0)))))
  (jX (wQ (vE (cF2 (pu2 fEq) (jw (vV 2) (C9 0)) (C9 0))) (cF1 (pu1 J8) (vE (cLC .rt 1 [1,2] (itS (cV 0)) (.n 0) tYes (jJ m_are_plain_steps [(cH (jw (vV 0) (C9 2))),(cV 1),(cH (jw (vV 0) (C9 0))),(cV 2)])))))))))
noncomputable def m_is_plain:Fn:=fn 1
  (jX (wQ (vE (jJ m_is_tuple_of [(cV 0),(cC (.int 2))])) (wQ (vE (jJ m_are_signs [(cH (jw (vV 0) (C9 0)))])) (jJ m_are_plain_rooms [(cH (jw (vV 0) (C9 1))),(cF1 (pu1 kZ) (jw (vV 0) (C9 0)))]))))
end Kp
namespace Kp
open Q PySem C
abbrev Is(f:Fn)(xs:List Sd)(b:Bool):Prop:=Oo f xs (λy=>∃o':Own,y=(o',.bl b)/\True) noX
theorem qz2{n:Nat}{d:D}(h:d.flat n=true)(u:String):k8 u d=some (.bl (wja (kind d) u)):=by
 cases d with
 |dct _=>cases n<;>simp[D.flat]at h
 |obj _ _=>cases n<;>simp[D.flat]at h
 |_=>rfl
def wjc:D->Bool
 |.int _=>true
 |_=>false
theorem qw6{n:Nat}{d:D}(h:d.flat n=true):Is m_is_whole [(.no,d)] (wjc d):=by
 have i1:=qz2 h "int";have i2:=qz2 h "bool";unfold m_is_whole;refine qK ?_;cases d with
 |int i=>
  have i1:k8 "int" (.int i)=some (.bl true):=rfl;have i2:k8 "bool" (.int i)=some (.bl false):=rfl;simp![i1,i2];exact⟨_,rfl,trivial⟩
 |bl b=>
  have i1:k8 "int" (.bl b)=some (.bl true):=rfl;have i2:k8 "bool" (.bl b)=some (.bl true):=rfl;simp![i1,i2];exact⟨_,rfl,trivial⟩
 |non=>
  have i1:k8 "int" .non=some (.bl false):=rfl;simp![i1];exact⟨_,rfl,trivial⟩
 |str z=>
  have i1:k8 "int" (.str z)=some (.bl false):=rfl;simp![i1];exact⟨_,rfl,trivial⟩
 |tup z=>
  have i1:k8 "int" (.tup z)=some (.bl false):=rfl;simp![i1];exact⟨_,rfl,trivial⟩
 |lst z=>
  have i1:k8 "int" (.lst z)=some (.bl false):=rfl;simp![i1];exact⟨_,rfl,trivial⟩
 |dct _=>cases n<;>simp[D.flat]at h
 |obj _ _=>cases n<;>simp[D.flat]at h
def vq(d:D)(n:Int):Bool:=match d with
 |.int i=>decide (0<=i)&&decide (i<n)
 |_=>false
theorem kqx{k:Nat}{d:D}{n:Int}(h:d.flat k=true):Is m_is_below [(.no,d),(.no,.int n)] (vq d n):=by
 unfold m_is_below;refine qK ?_;simp![];refine(qw6 h).use ?_;intro _ _;cases d with
 | int i=>
  have e0:wjc (.int i)=true:=rfl
  by_cases h0:0<=i
  ·by_cases h1:i<n
   ·have e1:fLe (.int 0) (.int i)=some (.bl true):=by rw[le_ii];simp[h0]
    have e2:fLt (.int i) (.int n)=some (.bl true):=by rw[lt_ii];simp[h1]
    simp![e0,e1,e2];exact⟨_,by simp[vq,h0,h1];rfl,trivial⟩
   ·have e1:fLe (.int 0) (.int i)=some (.bl true):=by rw[le_ii];simp[h0]
    have e2:fLt (.int i) (.int n)=some (.bl false):=by rw[lt_ii];simp[h1]
    simp![e0,e1,e2];exact⟨_,by simp[vq,h0,h1];rfl,trivial⟩
  ·have e1:fLe (.int 0) (.int i)=some (.bl false):=by rw[le_ii];simp[h0]
   simp![e0,e1];exact⟨_,by simp[vq,h0];rfl,trivial⟩
 |dct _=>cases k<;>simp[D.flat]at h
 |obj _ _=>cases k<;>simp[D.flat]at h
 |_=>
  simp![wjc];exact⟨_,rfl,trivial⟩
theorem qvv(g:D->Bool):∀ds:List D,bls (ds.map λd=>D.bl (g d))=some (ds.map g)
 |[]=>rfl
 |d::ds=>by
  rw[List.map_cons,bls,qvv g ds];rfl
theorem J6(g:D->Bool)(ds:List D):J8 (.lst (ds.map λd=>D.bl (g d)))=some (.bl (ds.all g)):=by
 show(bls (ds.map λd=>D.bl (g d))).map _=_;rw[qvv];simp[List.all_map,Function.comp_def]
theorem V1{n:Nat}:∀{ds:List D},D.flats n ds=true->∀d∈ds,d.flat n=true
 |a::x,h,d,hd=>by
  rw[D.flats,Bool.and_eq_true]at h;rcases List.mem_cons.mp hd with rfl|hd
  ·exact h.1
  ·exact V1 h.2 d hd
theorem Kk{n:Nat}{ds:List D}(h:(D.tup ds).flat n=true):∀d∈ds,d.flat (n - 1)=true:=by
 cases n with
 |zero=>simp[D.flat]at h
 |succ n=>exact V1 (by simpa [D.flat]using h)
theorem WQ{n:Nat}{ds:List D}(h:(D.lst ds).flat n=true):∀d∈ds,d.flat (n - 1)=true:=by
 cases n with
 |zero=>simp[D.flat]at h
 |succ n=>exact V1 (by simpa [D.flat]using h)
def Jj:D->Bool
 |.lst _=>true
 |_=>false
theorem vk1{n:Nat}{d:D}(h:d.flat n=true):k8 "list" d=some (.bl (Jj d)):=by
 cases d with
 |dct _=>cases n<;>simp[D.flat]at h
 |obj _ _=>cases n<;>simp[D.flat]at h
 |_=>rfl
theorem bk(E:En):back [] [] (clr [] E)=E:=rfl
abbrev AZ:Str:="abcdefghijklmnopqrstuvwxyz"
noncomputable def xv(d:D):Bool:=match d with
 |.str z=>decide (1<=z.cps.size)&&decide (z.cps.size<=8)&&z.cps.toList.all λc=>JV ⟨#[c]⟩ AZ
 |_=>false
theorem vxg(z:Str):J8 (.lst (((z.cps.toList.map λc=>D.str ⟨#[c]⟩)).map λd=>D.bl (match d with|.str y=>JV y AZ|_=>false)))=some (.bl (z.cps.toList.all λc=>JV ⟨#[c]⟩ AZ)):=by
 rw[J6,List.all_map];rfl
theorem qzr {k : Nat} {d : D} (h : d.flat k = true): Is m_is_sign [(.no, d)] (xv d):= by
  unfold m_is_sign;refine qK ?_;cases d with
  | str z=>
    have i1 : k8 "str" (.str z) = some (.bl true):= rfl;have l : kZ (.str z) = some (.int z.cps.size):= rfl
    by_cases h1 : 1<=z.cps.size
    rotate_left
    · have e1 : fLe (.int 1) (.int z.cps.size) = some (.bl false):= by rw[le_ii]; simp; lia
      simp![i1, l, e1];exact ⟨_, by simp only[xv, Xb h1]; rfl, trivial⟩
    have e1 : fLe (.int 1) (.int z.cps.size) = some (.bl true):= by rw[le_ii]; simp; lia
    by_cases h8 : z.cps.size<=8
    rotate_left
    · have e2 : fLe (.int z.cps.size) (.int 8) = some (.bl false):= by rw[le_ii]; simp; lia
      simp![i1, l, e1, e2];exact ⟨_, by simp only[xv, Xb h8, Bool.and_false, Bool.false_and]; rfl, trivial⟩
    have e2 : fLe (.int z.cps.size) (.int 8) = some (.bl true):= by rw[le_ii]; simp; lia
    have hb : z.cps.size<=big:= by unfold big; lia
    simp![i1, l, e1, e2];refine zq [] (λd y=>y.2 = .bl (match d with|.str y=>JV y AZ|_=>false)) ?_;simp![hb];refine ⟨λd hd=> ?_, λys hy=> ?_⟩
    · obtain ⟨c, hc, rfl⟩:= List.mem_map.mp hd
      have e : VY (.str ⟨#[c]⟩) (.str "abcdefghijklmnopqrstuvwxyz") = some (.bl (JV ⟨#[c]⟩ AZ)):= rfl;simp![e];exact ⟨⟨_, rfl⟩, trivial⟩
    · rw[J0, Jz (h:= λd=>.bl (match d with|.str y=>JV y AZ|_=>false)) (λ_ _ h=>h) hy]
      simp![vxg];exact ⟨_, by simp only[xv, X6 h1, X6 h8]; rfl, trivial⟩
  | dct _ => cases k <;> simp[D.flat]at h
  | obj _ _ =>cases k <;> simp[D.flat]at h
  | non => have i1 : k8 "str" .non = some (.bl false):= rfl
           simp![i1]; exact⟨_, rfl, trivial⟩
  | bl b => have i1 : k8 "str" (.bl b) = some (.bl false):= rfl
            simp![i1]; exact⟨_, rfl, trivial⟩
  | int b => have i1 : k8 "str" (.int b) = some (.bl false):= rfl
             simp![i1]; exact⟨_, rfl, trivial⟩
  | tup b => have i1 : k8 "str" (.tup b) = some (.bl false):= rfl
             simp![i1]; exact⟨_, rfl, trivial⟩
  | lst b => have i1 : k8 "str" (.lst b) = some (.bl false):= rfl
             simp![i1]; exact⟨_, rfl, trivial⟩
def txs(ds:List D):List Str:=ds.map λd=>match d with
 |.str z=>z
 |_=>""
theorem kq2{ds:List D}(h:∀d∈ds,xv d=true):ds=(txs ds).map D.str:=by
 unfold txs;rw[Y3];refine(List.map_id ds).symm.trans (List.map_congr_left λd hd=>?_);have:=h d hd;cases d with
 |str z=>rfl
 |_=>cases this
theorem kz5:∀a b:List Str,peqs (a.map D.str) (b.map D.str)=decide (a=b)
 | [],[]=>by simp[peqs]
 | [],_::_=>by simp[peqs]
 | _::_,[]=>by simp[peqs]
 | x::a,y::b=>by
  rw[List.map_cons,List.map_cons,peqs,kz5 a b,peq]
  by_cases h:x=y
  ·subst h;simp
  ·have:(x==y)=false:=by simpa using h
   rw[this];simp[h]
theorem qv3(ss:List Str):(sL ss).flat 40=true:=by
 show D.flats 39 (ss.map D.str)=true;exact q9 λd hd=>by obtain⟨w,_,rfl⟩:=List.mem_map.mp hd;rfl
theorem wjk(a b:List Str):fEq (sL a) (sL b)=some (.bl (decide (a=b))):=by
 unfold fEq;rw[qv3,qv3];show some (D.bl (peqs (a.map D.str) (b.map D.str)))=_;rw[kz5]
noncomputable def xK(d:D):Bool:=match d with
 |.lst ds=>decide (1<=ds.length)&&decide (ds.length<=3)&&ds.all xv&&decide (txs ds=kX (ddS (txs ds)))
 |_=>false
theorem qwh {k : Nat} {d : D} (h : d.flat k = true): Is m_are_signs [(.no, d)] (xK d):= by
  have i1 := vk1 h;unfold m_are_signs;refine qK ?_;cases d with
  | lst ds =>
    have i1 : k8 "list" (.lst ds) = some (.bl true):= i1
    by_cases h1 : 1<=ds.length
    rotate_left
    · have e1 : fLe (.int 1) (.int ds.length) = some (.bl false):= by rw[le_ii]; simp; lia
      simp![i1, e1];exact ⟨_, by simp only[xK, Xb h1]; rfl, trivial⟩
    have e1 : fLe (.int 1) (.int ds.length) = some (.bl true):= by rw[le_ii]; simp; lia
    by_cases h2 : ds.length<=3
    rotate_left
    · have e2 : fLe (.int ds.length) (.int 3) = some (.bl false):= by rw[le_ii]; simp; lia
      simp![i1, e1, e2];exact ⟨_, by simp only[xK, Xb h2, Bool.and_false, Bool.false_and]; rfl, trivial⟩
    have e2 : fLe (.int ds.length) (.int 3) = some (.bl true):= by rw[le_ii]; simp; lia
    simp![i1, e1, e2];refine zq [] (λd y=>y.2 = .bl (xv d)) ?_;simp![];refine ⟨λd hd=> ?_, λys hy=> ?_⟩
    · simp![]
      refine (qzr (WQ h d hd)).use ?_;intro _ _;exact ⟨⟨_, rfl⟩, rfl⟩
    rw [J0, Jz (h:= λd=>.bl (xv d)) (λ_ _ h=>h) hy, bk];cases hs : ds.all xv with
    | false =>
      simp![J6, hs];exact ⟨_, by simp only[xK, hs, Bool.and_false, Bool.false_and]; rfl, trivial⟩
    | true =>
      have hss:= kq2 λd hd=>List.all_eq_true.mp hs d hd
      have e3 : XY (.no, .lst ds) = some (.rt, sL (kX (ddS (txs ds)))):= by
        unfold XY;dsimp only;rw [hss, kwm];dsimp only;have nq : (txs ds).length<64:= by rw[show(txs ds).length = ds.length by unfold txs; rw[X5]]; lia
        rw [Xf nq, <-hss]
      have e4 : fEq (.lst ds) (sL (kX (ddS (txs ds)))) = some (.bl (decide (txs ds = kX (ddS (txs ds))))):= by
        have := wjk (txs ds) (kX (ddS (txs ds)));rw [show sL (txs ds) = .lst ds from congrArg D.lst hss.symm]at this;exact this
      simp![J6, hs, e3, e4];exact ⟨_, by simp only[xK, hs, X6 h1, X6 h2]; rfl, trivial⟩
  | non => have i1 : k8 "list" .non = some (.bl false):= i1
           simp![i1]; exact⟨_, rfl, trivial⟩
  | bl b => have i1 : k8 "list" (.bl b) = some (.bl false):= i1
            simp![i1]; exact⟨_, rfl, trivial⟩
  | int b => have i1 : k8 "list" (.int b) = some (.bl false):= i1
             simp![i1]; exact⟨_, rfl, trivial⟩
  | str b => have i1 : k8 "list" (.str b) = some (.bl false):= i1
             simp![i1]; exact⟨_, rfl, trivial⟩
  | tup b => have i1 : k8 "list" (.tup b) = some (.bl false):= i1
             simp![i1]; exact⟨_, rfl, trivial⟩
  |dct _=>cases k <;> simp[D.flat]at h
  |obj _ _=>cases k <;> simp[D.flat]at h
def wq3:D->Bool
 |.bl _=>true
 |_=>false
def ivD:D->Int
 |.int i=>i
 |_=>0
theorem kxe{e:Int}{d:D}(h:vq d e=true):∃i,d=.int i/\0<=i/\i<e:=by
 cases d with
 |int i=>
  simp only[vq,Bool.and_eq_true,decide_eq_true_eq]at h;exact⟨i,rfl,h⟩
 |_=>cases h
theorem kzj{e:Int}:∀{fs:List D},(∀d∈fs,vq d e=true)->fs=(fs.map ivD).map D.int
 |[],_=>rfl
 |d::fs,h=>by
  obtain⟨i,rfl,_⟩:=kxe (h d X3);have:=kzj (fs:=fs) λd hd=>h d (lc9 _ hd)
  rw[List.map_cons,List.map_cons,<-this];rfl
theorem kzk:∀is:List Int,J9 (is.map D.int)=some is
 |[]=>rfl
 |i::is=>by rw[List.map_cons,J9,kzk is];rfl
noncomputable def Qw(e fh:Int)(d:D):Bool:=match d with
 |.tup fs=>decide ((fs.length:Int)=fh)&&(fs.all (λd=>vq d e)&&decide (((ddI (fs.map ivD)).length:Int)=fh))
 |_=>false
theorem jvv {k : Nat} {d : D} {n : Int} (h : d.flat k = true): Is m_is_tuple_of [(.no, d), (.no, .int n)] (match d with|.tup ds=>decide ((ds.length : Int) = n)|_=>false):= by
  unfold m_is_tuple_of;refine qK ?_;cases d with
  | tup ds =>
    have i1 : z9 "tuple" (.tup ds) = some (.bl true):= rfl;have e : fEq (.int ds.length) (.int n) = some (.bl (decide ((ds.length : Int) = n))):= by rw[K1]; congr 2
    simp![i1, e];exact ⟨_, rfl, trivial⟩
  | dct _ => cases k <;> simp[D.flat]at h
  | obj _ _ =>cases k <;> simp[D.flat]at h
  | non => have i1 : z9 "tuple" .non = some (.bl false):= rfl
           simp![i1]; exact⟨_, rfl, trivial⟩
  | bl b => have i1 : z9 "tuple" (.bl b) = some (.bl false):= rfl
            simp![i1]; exact⟨_, rfl, trivial⟩
  | int b => have i1 : z9 "tuple" (.int b) = some (.bl false):= rfl
             simp![i1]; exact⟨_, rfl, trivial⟩
  | str b => have i1 : z9 "tuple" (.str b) = some (.bl false):= rfl
             simp![i1]; exact⟨_, rfl, trivial⟩
  | lst b => have i1 : z9 "tuple" (.lst b) = some (.bl false):= rfl
             simp![i1]; exact⟨_, rfl, trivial⟩
theorem kzf {k : Nat} {d : D} {n : Int} (h : d.flat k = true): Is m_is_list_of [(.no, d), (.no, .int n)] (match d with|.lst ds=>decide ((ds.length : Int) = n)|_=>false):= by
  unfold m_is_list_of;refine qK ?_;cases d with
  | lst ds =>
    have i1 : k8 "list" (.lst ds) = some (.bl true):= rfl;have e : fEq (.int ds.length) (.int n) = some (.bl (decide ((ds.length : Int) = n))):= by rw[K1]; congr 2
    simp![i1, e];exact ⟨_, rfl, trivial⟩
  | dct _ => cases k <;> simp[D.flat]at h
  | obj _ _ =>cases k <;> simp[D.flat]at h
  | non => have i1 : k8 "list" .non = some (.bl false):= rfl
           simp![i1]; exact⟨_, rfl, trivial⟩
  | bl b => have i1 : k8 "list" (.bl b) = some (.bl false):= rfl
            simp![i1]; exact⟨_, rfl, trivial⟩
  | int b => have i1 : k8 "list" (.int b) = some (.bl false):= rfl
             simp![i1]; exact⟨_, rfl, trivial⟩
  | str b => have i1 : k8 "list" (.str b) = some (.bl false):= rfl
             simp![i1]; exact⟨_, rfl, trivial⟩
  | tup b => have i1 : k8 "list" (.tup b) = some (.bl false):= rfl
             simp![i1]; exact⟨_, rfl, trivial⟩
theorem qv8{k:Nat}{e fh:Int}{d:D}(h:d.flat k=true)(hm:fh<=1000):Is m_are_plain_fills [(.no,d),(.no,.int e),(.no,.int fh)] (Qw e fh d):=by
 unfold m_are_plain_fills;refine qK ?_;simp![];refine(jvv h).use ?_;intro _ _;cases d with
 | tup fs=>
  dsimp only
  by_cases hl:(fs.length:Int)=fh
  rotate_left
  ·rw[Xb hl];simp![];exact⟨_,by simp only[Qw,Xb hl];rfl,trivial⟩
  rw[X6 hl];simp![];refine zq [some (.no,.int e)] (λd y=>y.2=.bl (vq d e)) ?_;simp![];refine⟨rfl,λd hd=>?_,λys hy=>?_⟩
  ·simp![];refine(kqx (Kk h d hd)).use ?_;intro _ _;exact⟨⟨_,rfl⟩,rfl⟩
  rw[J0,Jz (h:=λd=>.bl (vq d e)) (λ_ _ h=>h) hy];simp only[back,clr,at',List.map_cons,List.map_nil,List.set_cons_zero,List.set_cons_succ];cases ha:fs.all (λd=>vq d e)with
  | false=>
   simp![J6,ha];exact⟨_,by simp only[Qw,ha,Bool.false_and,Bool.and_false];rfl,trivial⟩
  | true=>
   have hi:=kzj λd hd=>List.all_eq_true.mp ha d hd
   have e1:Wq (.tup fs)=some (.int (ddI (fs.map ivD)).length):=by
    rw[hi];unfold Wq;dsimp only;rw[kzk];dsimp only;have nq:(fs.map ivD).length<4000:=by rw[X5];lia
    rw[Xf nq,<-hi]
   have e2:fEq (.int (ddI (fs.map ivD)).length) (.int fh)=some (.bl (decide (((ddI (fs.map ivD)).length:Int)=fh))):=by
    rw[K1];congr 2
   simp![J6,ha,e1,e2];exact⟨_,by simp only[Qw,ha,X6 hl,Bool.true_and];rfl,trivial⟩
 |dct _=>cases k<;>simp[D.flat]at h
 |obj _ _=>cases k<;>simp[D.flat]at h
 |_=>
  simp![];exact⟨_,rfl,trivial⟩
noncomputable def vz(ks:List Int)(e:Int)(d:D):Bool:=isNon d||match d with
 |.tup [a,b]=>vq a ks.length&&Qw e (ks.getD (ivD a).toNat 0) b
 |_=>false
theorem vwo{ks:List Int}{i:Int}(h0:0<=i)(h1:i<ks.length):kJ (iL ks) (.int i)=some (.int (ks.getD i.toNat 0)):=by
 refine Q2 h0 ?_;have h:i.toNat<ks.length:=by lia
 rw[Xu,X1 h,X7,X1 h];rfl
theorem kzt{k:Nat}{e:Int}{ks:List Int}{d:D}(h:d.flat k=true)(hk:∀i∈ks,i<=1000):Is m_is_case [(.no,d),(.no,.int e),(.no,iL ks)] (vz ks e d):=by
 have j0:∀a b:D,kJ (.tup [a,b]) (.int 0)=some a:=λ_ _=>rfl
 have j1:∀a b:D,kJ (.tup [a,b]) (.int 1)=some b:=λ_ _=>rfl
 unfold m_is_case;refine qK ?_;cases d with
 | non=>simp![];exact⟨_,rfl,trivial⟩
 | tup fs=>
  simp![];refine(jvv h).use ?_;intro _ _;dsimp only
  match fs,h with
  | [],_=>simp![];exact⟨_,rfl,trivial⟩
  | [_],_=>simp![];exact⟨_,rfl,trivial⟩
  | a::b::c::r,_=>
   have:decide (((a::b::c::r).length:Int)=2)=false:=Xb (by simp;lia);rw[this];simp![];exact⟨_,rfl,trivial⟩
  | [a,b],h=>
   have fa:=Kk h a (by simp);have fb:=Kk h b (by simp);have:decide ((([a,b]:List D).length:Int)=2)=true:=rfl;rw[this];simp![j0];refine(kqx fa).use ?_;intro _ _;cases hb:vq a ks.length with
   | false=>
    simp![];exact⟨_,by simp only[vz,isNon,hb];rfl,trivial⟩
   | true=>
    obtain⟨i,rfl,i0,i1⟩:=kxe hb;simp![j0,j1,vwo i0 i1];have hm:ks.getD i.toNat 0<=1000:=by
     rw[X7,X1 (by lia)];exact hk _ (Y6 _)
    refine(qv8 fb hm).use ?_;intro _ _;exact⟨_,by simp only[vz,isNon,hb,Bool.false_or,Bool.true_and,ivD];rfl,trivial⟩
 |dct _=>cases k<;>simp[D.flat]at h
 |obj _ _=>cases k<;>simp[D.flat]at h
 |_=>
  simp![];refine(jvv h).use ?_;intro _ _;simp![];exact⟨_,rfl,trivial⟩
noncomputable def x6(ks:List Int)(own:Nat)(d:D):Bool:=match d with
 |.lst cs=>decide (cs.length=own+1)&&((cs.take own).all (vz ks own)&&vz ks ((own:Int)+1) (cs.getD own .non))
 |_=>false
theorem qvl{k:Nat}{own:Nat}{ks:List Int}{d:D}(h:d.flat k=true)(hk:∀i∈ks,i<=1000):Is m_are_cases [(.no,d),(.no,.int own),(.no,iL ks)] (x6 ks own d):=by
 unfold m_are_cases;refine qK ?_;simp![];refine(kzf h).use ?_;intro _ _;cases d with
 | lst cs=>
  dsimp only
  by_cases hl:cs.length=own+1
  rotate_left
  ·rw[Xb (show ¬(cs.length:Int)=(own:Int)+1 by lia)];simp![];exact⟨_,by simp only[x6,Xb hl];rfl,trivial⟩
  rw[X6 (show(cs.length:Int)=(own:Int)+1 by lia)];have hcut:fSl (.no,.lst cs) none (some (own:Int))=some (.rt,.lst (cs.take own)):=by
   rw[K3 (by decide),XW (by lia) (by lia)];rfl
  have hix:kJ (.lst cs) (.int own)=some (cs.getD own .non):=qx3 cs own (by lia) (by lia);have hf:∀c∈cs,c.flat (k - 1)=true:=WQ h;simp![];refine zq [some (.no,.int own),some (.no,iL ks)] (λd y=>y.2=.bl (vz ks own d)) ?_;simp![hcut];refine⟨rfl,λd hd=>?_,λys hy=>?_⟩
  ·simp![];refine(kzt (hf d (Yr hd)) hk).use ?_;intro _ _;exact⟨⟨_,rfl⟩,rfl⟩
  rw[J0,Jz (h:=λd=>.bl (vz ks own d)) (λ_ _ h=>h) hy];simp only[back,clr,at',List.map_cons,List.map_nil,List.set_cons_zero,List.set_cons_succ];cases ha:(cs.take own).all (vz ks own)with
  | false=>
   simp![J6,ha];exact⟨_,by simp only[x6,ha,Bool.false_and,Bool.and_false];rfl,trivial⟩
  | true=>
   have hc:(cs.getD own .non).flat (k - 1)=true:=by
    rw[X7,X1 (by lia)];exact hf _ (Y6 _)
   simp![J6,ha,hix];refine(kzt hc hk).use ?_;intro _ _;exact⟨_,by simp only[x6,ha,X6 hl,Bool.true_and];rfl,trivial⟩
 |dct _=>cases k<;>simp[D.flat]at h
 |obj _ _=>cases k<;>simp[D.flat]at h
 |_=>
  simp![];exact⟨_,rfl,trivial⟩
noncomputable def wq(ks:List Int)(n own:Nat)(d:D):Bool:=match d with
 |.lst st=>decide (st.length=n)&&st.all (x6 ks own)
 |_=>false
theorem qk1{k n own:Nat}{ks:List Int}{d:D}(h:d.flat k=true)(hk:∀i∈ks,i<=1000):Is m_are_plain_steps [(.no,d),(.no,.int n),(.no,.int own),(.no,iL ks)] (wq ks n own d):=by
 unfold m_are_plain_steps;refine qK ?_;simp![];refine(kzf h).use ?_;intro _ _;cases d with
 | lst st=>
  dsimp only
  by_cases hl:st.length=n
  rotate_left
  ·rw[Xb (show ¬(st.length:Int)=(n:Int)by lia)];simp![];exact⟨_,by simp only[wq,Xb hl];rfl,trivial⟩
  rw[X6 (show(st.length:Int)=(n:Int)by lia)];simp![];refine zq [some (.no,.int own),some (.no,iL ks)] (λd y=>y.2=.bl (x6 ks own d)) ?_;simp![];refine⟨rfl,λd hd=>?_,λys hy=>?_⟩
  ·simp![];refine(qvl (WQ h d hd) hk).use ?_;intro _ _;exact⟨⟨_,rfl⟩,rfl⟩
  rw[J0,Jz (h:=λd=>.bl (x6 ks own d)) (λ_ _ h=>h) hy];simp![J6];exact⟨_,by simp only[wq,X6 hl,Bool.true_and];rfl,trivial⟩
 |dct _=>cases k<;>simp[D.flat]at h
 |obj _ _=>cases k<;>simp[D.flat]at h
 |_=>
  simp![];exact⟨_,rfl,trivial⟩
theorem vws{n:Nat}{d:D}(h:d.flat n=true):k8 "bool" d=some (.bl (wq3 d)):=by
 cases d with
 |dct _=>cases n<;>simp[D.flat]at h
 |obj _ _=>cases n<;>simp[D.flat]at h
 |_=>rfl
def x8(d:D):Bool:=match d with
 |.tup [a,b,_]=>vq a 7&&wq3 b
 |_=>false
theorem qv2{k:Nat}{d:D}(h:d.flat k=true):Is m_has_plain_frame [(.no,d)] (x8 d):=by
 have j0:∀a b c:D,kJ (.tup [a,b,c]) (.int 0)=some a:=λ_ _ _=>rfl
 have j1:∀a b c:D,kJ (.tup [a,b,c]) (.int 1)=some b:=λ_ _ _=>rfl
 unfold m_has_plain_frame;refine qK ?_;simp![];refine(jvv h).use ?_;intro _ _;cases d with
 | tup fs=>
  dsimp only
  match fs,h with
  | [],_=>simp![];exact⟨_,rfl,trivial⟩
  | [_],_=>simp![];exact⟨_,rfl,trivial⟩
  | [_,_],_=>simp![];exact⟨_,rfl,trivial⟩
  | a::b::c::e::r,_=>
   have:decide (((a::b::c::e::r).length:Int)=3)=false:=Xb (by simp;lia);rw[this];simp![];exact⟨_,rfl,trivial⟩
  | [a,b,c],h=>
   have fa:=Kk h a (by simp);have fb:=Kk h b (by simp);have:decide ((([a,b,c]:List D).length:Int)=3)=true:=rfl;rw[this];simp![j0];refine(kqx fa).use ?_;intro _ _;rw[show vq a (6+1)=vq a 7 from rfl];cases hb:vq a 7 with
   |false=>
    simp![];exact⟨_,by simp only[x8,hb];rfl,trivial⟩
   |true=>
    have ib:=vws fb;simp![j1,ib];exact⟨_,by simp only[x8,hb,Bool.true_and];rfl,trivial⟩
 |dct _=>cases k<;>simp[D.flat]at h
 |obj _ _=>cases k<;>simp[D.flat]at h
 |_=>
  simp![];exact⟨_,rfl,trivial⟩
def rk:D->D
 |.tup (a::_)=>a
 |_=>.non
def rst:D->D
 |.tup [_,_,c]=>c
 |_=>.non
def qq(rs:List D):List Int:=rs.map λr=>ivD (rk r)
noncomputable def wZ(n:Nat)(d:D):Bool:=match d with
 |.lst rs=>decide (1<=rs.length)&&(decide (rs.length<=200)&&(rs.all x8&&(decide ((qq rs).getD 0 0=0)&&rs.all λr=>wq (qq rs) n (ivD (rk r)).toNat (rst r))))
 |_=>false
theorem qv1{d:D}(h:x8 d=true):∃(i:Int) (b:Bool) (c:D),d=.tup [.int i,.bl b,c]/\0<=i/\i<7:=by
 cases d with
 | tup fs=>
  match fs,h with
  |[a,b,c],h=>
   simp only[x8,Bool.and_eq_true]at h;obtain⟨i,rfl,h0,h1⟩:=kxe h.1;cases b with
   |bl b=>exact⟨i,b,c,rfl,h0,h1⟩
   |_=>cases h.2
  |[],h=>cases h
  |[_],h=>cases h
  |[_,_],h=>cases h
  |_::_::_::_::_,h=>cases h
 |_=>cases h
theorem qka {k n : Nat} {d : D} (h : d.flat k = true): Is m_are_plain_rooms [(.no, d), (.no, .int n)] (wZ n d):= by
  have j0 : ∀a b c : D, kJ (.tup [a, b, c]) (.int 0) = some a:= λ_ _ _=>rfl
  have j2 : ∀a b c : D, kJ (.tup [a, b, c]) (.int 2) = some c:= λ_ _ _=>rfl
  unfold m_are_plain_rooms;refine qK ?_;cases d with
  | lst rs =>
    have i1 : k8 "list" (.lst rs) = some (.bl true):= rfl
    by_cases h1 : 1<=rs.length
    rotate_left
    · have e1 : fLe (.int 1) (.int rs.length) = some (.bl false):= by rw[le_ii]; simp; lia
      simp![i1, e1];exact ⟨_, by simp only[wZ, Xb h1]; rfl, trivial⟩
    have e1 : fLe (.int 1) (.int rs.length) = some (.bl true):= by rw[le_ii]; simp; lia
    by_cases h2 : rs.length<=200
    rotate_left
    · have e2 : fLe (.int rs.length) (.int 200) = some (.bl false):= by rw[le_ii]; simp; lia
      simp![i1, e1, e2];exact ⟨_, by simp only[wZ, Xb h2, Bool.and_false, Bool.false_and]; rfl, trivial⟩
    have e2 : fLe (.int rs.length) (.int 200) = some (.bl true):= by rw[le_ii]; simp; lia
    simp![i1, e1, e2];refine zq [] (λd y=>y.2 = .bl (x8 d)) ?_;simp![];refine ⟨λd hd=> ?_, λys hy=> ?_⟩
    · simp![]
      refine (qv2 (WQ h d hd)).use ?_;intro _ _;exact ⟨⟨_, rfl⟩, rfl⟩
    rw [J0, Jz (h:= λd=>.bl (x8 d)) (λ_ _ h=>h) hy, bk];cases hs : rs.all x8 with
    | false =>
      simp![J6, hs];exact ⟨_, by simp only[wZ, hs, Bool.and_false, Bool.false_and]; rfl, trivial⟩
    | true =>
      have jf:= λd hd=>qv1 (List.all_eq_true.mp hs d hd)
      simp![J6, hs];refine zq [] (λd y=>y.2 = .int (ivD (rk d))) ?_;simp![];refine ⟨λd hd=> ?_, λys hy=> ?_⟩
      · obtain⟨i, b, c, rfl, _⟩:= jf d hd
        simp![j0];exact⟨⟨_, rfl⟩, rfl⟩
      rw[J0, Jz (h:= λd=>.int (ivD (rk d))) (λ_ _ h=>h) hy, bk];have ek : (rs.map λd=>D.int (ivD (rk d))) = (qq rs).map D.int:= by unfold qq; rw[Y3]; rfl
      have hkl : (qq rs).length = rs.length:= X5 _;have hk7 : ∀i ∈ qq rs, i<=1000:= λi hi=>by
        obtain⟨r, hr, rfl⟩:= List.mem_map.mp hi;obtain⟨i, b, c, rfl, h0, h7⟩:= jf r hr;show i<=1000;lia
      rw[ek];have e3:= vwo (ks:= qq rs) (i:= 0) (by decide) (by lia);have e4 : fEq (.int ((qq rs).getD (Int.toNat 0) 0)) (.int 0) = some (.bl (decide ((qq rs).getD 0 0 = 0))):= by rw[K1]; congr 2
      by_cases h0 : (qq rs).getD 0 0 = 0
      rotate_left
      · rw [Xb h0]at e4
        simp![e3, e4];exact⟨_, by simp only[wZ, hs, Xb h0, Bool.false_and, Bool.and_false]; rfl, trivial⟩
      rw [X6 h0]at e4;simp![e3, e4];refine vx2 (λ_ B ds ae=> ∃(o : Own) (q : Option Sd) (d1 : List D), B = [q, some (.no, .int n), some (o, iL (qq rs))] /\ rs = d1 ++ ds /\ ae.map (·.2) = d1.map λd=>D.bl (wq (qq rs) n (ivD (rk d)).toNat (rst d))) ?_ ?_ ?_
      · simp![]
        exact⟨.rt, _, [], rfl, rfl, rfl⟩
      · rintro E1 B d ds ae ⟨o, q, d1, rfl, e, ha⟩
        have hd : d ∈ rs:= by rw[e]; simp
        obtain⟨i, b, c, rfl, i0, i7⟩:= jf d hd;have fc:= Kk (WQ h _ hd) c (by simp);have := qk1 (n:= n) (own:= i.toNat) fc hk7;rw [show((i.toNat : Nat): Int) = i by lia]at this;simp![j0, j2];refine this.use ?_;intro _ _;refine⟨.no, _, d1 ++ [.tup [.int i, .bl b, c]], rfl, by rw[e]; simp, ?_⟩;rw [Yd, ha, Yd];rfl
      · rintro E1 B ae ⟨o, q, d1, rfl, e, ha⟩
        rw [Y0]at e;subst e;rw [J0, ha];simp![J6];exact⟨_, by simp only[wZ, hs, X6 h0, X6 h1, X6 h2, Bool.true_and]; rfl, trivial⟩
  | dct _ => cases k <;> simp[D.flat]at h
  | obj _ _ =>cases k <;> simp[D.flat]at h
  | non => have i1 : k8 "list" .non = some (.bl false):= rfl
           simp![i1]; exact⟨_, rfl, trivial⟩
  | bl b => have i1 : k8 "list" (.bl b) = some (.bl false):= rfl
            simp![i1]; exact⟨_, rfl, trivial⟩
  | int b => have i1 : k8 "list" (.int b) = some (.bl false):= rfl
             simp![i1]; exact⟨_, rfl, trivial⟩
  | str b => have i1 : k8 "list" (.str b) = some (.bl false):= rfl
             simp![i1]; exact⟨_, rfl, trivial⟩
  | tup b => have i1 : k8 "list" (.tup b) = some (.bl false):= rfl
             simp![i1]; exact⟨_, rfl, trivial⟩
def wkw:D->Nat
 |.lst ds=>ds.length
 |_=>0
def Q5(d:D):Bool:=match d with
 |.tup [a,b]=>xK a&&wZ (wkw a) b
 |_=>false
theorem qkq{k:Nat}{d:D}(h:d.flat k=true):Is m_is_plain [(.no,d)] (Q5 d):=by
 have j0:∀a b:D,kJ (.tup [a,b]) (.int 0)=some a:=λ_ _=>rfl
 have j1:∀a b:D,kJ (.tup [a,b]) (.int 1)=some b:=λ_ _=>rfl
 unfold m_is_plain;refine qK ?_;simp![];refine(jvv h).use ?_;intro _ _;cases d with
 | tup fs=>
  dsimp only
  match fs,h with
  | [],_=>simp![];exact⟨_,rfl,trivial⟩
  | [_],_=>simp![];exact⟨_,rfl,trivial⟩
  | a::b::c::r,_=>
   have:decide (((a::b::c::r).length:Int)=2)=false:=Xb (by simp;lia);rw[this];simp![];exact⟨_,rfl,trivial⟩
  | [a,b],h=>
   have fa:=Kk h a (by simp);have fb:=Kk h b (by simp);have:decide ((([a,b]:List D).length:Int)=2)=true:=rfl;rw[this];simp![j0];refine(qwh fa).use ?_;intro _ _;cases hb:xK a with
   | false=>
    simp![];exact⟨_,by simp only[Q5,hb];rfl,trivial⟩
   | true=>
    cases a with
    |lst ss=>
     simp![j0,j1];refine(qka fb).use ?_;intro _ _;exact⟨_,by simp only[Q5,hb,Bool.true_and];rfl,trivial⟩
    |_=>cases hb
 |dct _=>cases k<;>simp[D.flat]at h
 |obj _ _=>cases k<;>simp[D.flat]at h
 |_=>
  simp![];exact⟨_,rfl,trivial⟩
end Kp
namespace U
open Q PySem C B J
section
variable {ac bc:List Int}{ss:List Str}{rs aq:List D}
abbrev hp(rs aq:List D)(P:D):List Int:=wjf (nms (pS rs P)) (nms (pT rs aq P))
noncomputable def Rl(rs aq:List D)(P:D)(a b:Sn):Prop:=∃f:Int->Int,a=wkv f (pS rs P)/\b=wkv f (pT rs aq P)/\(∀x∈hp rs aq P,∀y∈hp rs aq P,f x=f y->x=y)/\hp rs aq P=wkg (pO rs aq P)
end
end U
namespace U
open Q PySem C B J
section
variable {ac bc:List Int}{ss:List Str}{rs aq:List D}
noncomputable def Q3(ss:List Str)(rs aq:List D)(P:D)(z:Str)(i:Int):D:=qws (rdF ss rs (pS rs P) z i) (rdF ss aq (pT rs aq P) z i)
structure Two (ac bc:List Int)(S T:Sn):Prop where
 a:wqa ac S
 b:wqa bc T
 na:(nms S).Nodup
 nb:(nms T).Nodup
def run(ss:List Str)(rs:List D)(S:Sn)(w:List (Str×Int)):Sn:=w.foldl (λS x=>rdF ss rs S x.1 x.2) S
abbrev S0:Sn:=some (0,[])
end
end U
namespace U
open Q PySem C B J
def wj1(i:Int):List (List (Int×Int)):=[[],[(i,0)],[(i,1)],[(i,2)]]
def AllS:List (List (Int×Int)):=(wj1 0).flatMap λa=>(wj1 1).flatMap λb=>(wj1 2).map λc=>a++(b++c)
def rms:List Int:=[-1,0,1,2,3,4,5]
def AllP:List D:=rms.flatMap λp=>rms.flatMap λq=>AllS.map λs=>.tup [.int p,.int q,.tup (prs s)]
def Pin(ac bc:List Int)(d:D):Prop:=Pok ac bc d/\d∈AllP
section
variable {ac bc:List Int}{ss:List Str}{rs aq:List D}
abbrev St3:=List (Str×Int×D)
abbrev stD(x:Str×Int×D):D:=.tup [.str x.1,.int x.2.1,x.2.2]
noncomputable def Stp(ss:List Str)(rs aq:List D)(P:D)(L:List (Str×Int×D)):Prop:=∀x∈L,0<=x.2.1/\x.2.1<=pO rs aq P/\x.2.2=Q3 ss rs aq P x.1 x.2.1
inductive FrA (ac bc:List Int)(ss:List Str)(rs aq:List D)(P:D)(S T:Sn)(own:Nat)(zz:List Str):En->List D->Prop
 |mk (L:St3) (zs:List Str) {o4:Own} {l6:Option Sd} {l7:Option Sd} {j8:List D} (h0:o4≠.dp) (h1:j8=zs.map D.str) (h2:zs.length<=6) (h3:L.length+zs.length*7<=42) (h4:(∀x∈L,0<=x.2.1/\x.2.1<=own/\x.2.2=Q3 ss rs aq P x.1 x.2.1)) (h5:∀z∈zz,z∈zs\/∀i:Int,0<=i->i<=own->(z,i,Q3 ss rs aq P z i)∈L):FrA ac bc ss rs aq P S T own zz [some (.no,v9 ss rs),some (.no,v9 ss aq),some (.no,P),some (.no,lat (S,T)),some (o4,.lst (k9 0 ((own:Int)+1))),some (.rt,.lst (L.map stD)),l6,l7] j8
inductive FrB (ac bc:List Int)(ss:List Str)(rs aq:List D)(P:D)(S T:Sn)(own:Nat)(z:Str)(L:St3):En->List D->Prop
 |mk (L2:St3) (pre:List D) {l7:Option Sd} {j8:List D} (h0:k9 0 ((own:Int)+1)=pre++j8) (h1:L2.length=L.length+pre.length) (h2:(∀x∈L2,0<=x.2.1/\x.2.1<=own/\x.2.2=Q3 ss rs aq P x.1 x.2.1)) (h3:(∀x∈L,x∈L2)) (h4:∀c:Int,D.int c∈pre->(z,c,Q3 ss rs aq P z c)∈L2):FrB ac bc ss rs aq P S T own z L [some (.no,v9 ss rs),some (.no,v9 ss aq),some (.no,P),some (.no,lat (S,T)),some (.no,.lst (k9 0 ((own:Int)+1))),some (.rt,.lst (L2.map stD)),some (.no,.str z),l7] j8
end
end U
namespace U
open Q PySem C B J
abbrev Kvs:=List (D×D)
abbrev wyD(p:D)(z:Str)(i:Int):D:=.tup [p,.str z,.int i]
section
variable {ss:List Str}{rs aq:List D}{P:D}
inductive Wy (ss:List Str)(rs aq:List D)(P:D):Kvs->Prop
 |one:Wy ss rs aq P [(P,.non)]
 |more {W:Kvs} {k p:D} {z:Str} {i:Int}:Wy ss rs aq P W->k∉W.map (·.1)->p∈W.map (·.1)->0<=i->i<=pO rs aq p->k=Q3 ss rs aq p z i->Wy ss rs aq P (W++[(k,wyD p z i)])
noncomputable def Wk(ss:List Str)(rs aq:List D):D->List (Str×Int)->D->Prop
 |P,[],R=>P=R
 |P,x::L,R=>(0<=x.2/\x.2<=pO rs aq P)/\Wk ss rs aq (Q3 ss rs aq P x.1 x.2) L R
abbrev rwI(x:Str×Int):D:=.tup [.str x.1,.int x.2]
end
end U
namespace U
open Q PySem C B J
section
variable {ac bc:List Int}{ss:List Str}{rs aq:List D}
inductive RwA (ac bc:List Int)(ss:List Str)(rs aq:List D)(L:Lw)(k:D):En->List D->Prop
 |mk (w:Lw) (L2:Lw) (Q:D) {l6:Option Sd} {l7:Option Sd} {l8:Option Sd} {l9:Option Sd} {j8:List D} (h0:j8=L2.map rwI) (h1:Two ac bc (run ss rs S0 w) (run ss aq S0 w)) (h2:w.length+L2.length<=3500) (h3:Pok ac bc Q) (h4:Rl rs aq Q (run ss rs S0 w) (run ss aq S0 w)) (h5:Wk ss rs aq Q L2 k):RwA ac bc ss rs aq L k [some (.no,v9 ss rs),some (.no,v9 ss aq),some (.no,P0),some (.no,.lst (L.map rwI)),some (.no,lat (run ss rs S0 w,run ss aq S0 w)),some (.rt,.lst (w.map rwI)),l6,l7,l8,l9] j8
end
end U
namespace U
open Q PySem C B J
section
variable {ac bc:List Int}{ss:List Str}{rs aq:List D}
structure Ws (ac bc:List Int)(ss:List Str)(rs aq:List D)(P:D)(W:Kvs):Prop where
 wy:Wy ss rs aq P W
 nd:(W.map (·.1)).Nodup
 pin:∀k∈W.map (·.1),Pin ac bc k
noncomputable def Dn(ss:List Str)(rs aq K:List D)(p:D):Prop:=gS rs p=gT aq p/\∀z∈ss,∀i:Int,0<=i->i<=pO rs aq p->Q3 ss rs aq p z i∈K
inductive SrA (ac bc:List Int)(ss:List Str)(rs aq:List D):Nat->En->Prop
 |mk (W:Kvs) (i:Nat) {o5:Own} {l6:Option Sd} {l7:Option Sd} {l8:Option Sd} {l9:Option Sd} {n:Nat} (h0:Ws ac bc ss rs aq P0 W) (h1:n=4000 - i) (h2:P0∈W.map (·.1)) (h3:∀p∈(W.map (·.1)).take i,Dn ss rs aq (W.map (·.1)) p):SrA ac bc ss rs aq n [some (.no,v9 ss rs),some (.no,v9 ss aq),some (.no,P0),some (.rt,.dct W),some (.rt,.lst (W.map (·.1))),some (o5,.int i),l6,l7,l8,l9]
inductive SrB (ac bc:List Int)(ss:List Str)(rs aq:List D)(W:Kvs)(i:Nat)(k:D):En->List D->Prop
 |mk (W2:Kvs) (A:St3) (L:St3) {o5:Own} {o6:Own} {l7:Option Sd} {l8:Option Sd} {l9:Option Sd} {j8:List D} (h0:Ws ac bc ss rs aq P0 W2) (h1:(∃V,W2=W++V)) (h2:j8=L.map stD) (h3:Stp ss rs aq k L) (h4:(∀x∈A,x∈L\/x.2.2∈W2.map (·.1))) (h5:∀z∈ss,∀i:Int,0<=i->i<=pO rs aq k->(z,i,Q3 ss rs aq k z i)∈A):SrB ac bc ss rs aq W i k [some (.no,v9 ss rs),some (.no,v9 ss aq),some (.no,P0),some (.rt,.dct W2),some (.rt,.lst (W2.map (·.1))),some (o5,.int i),some (o6,k),l7,l8,l9] j8
end
end U
namespace V
open Q PySem C
def kvS(S:List Int):List (Int×Int):=S.zipIdx.map λp=>(p.1,(p.2:Int))
end V
namespace Nk30
open PySem Q
def m_is_whole : Fn:= Kp.m_is_whole
def m_is_sign : Fn:= Kp.m_is_sign
def m_is_tuple_of : Fn:= Kp.m_is_tuple_of
def m_is_below : Fn:= Kp.m_is_below
def m_are_signs : Fn:= Kp.m_are_signs
def m_has_plain_frame : Fn:= Kp.m_has_plain_frame
def m_is_list_of : Fn:= Kp.m_is_list_of
def m_are_plain_fills : Fn:= Kp.m_are_plain_fills
def m_is_case : Fn:= Kp.m_is_case
def m_are_cases : Fn:= Kp.m_are_cases
def m_are_plain_steps : Fn:= Kp.m_are_plain_steps
def m_are_plain_rooms : Fn:= Kp.m_are_plain_rooms
def m_is_plain : Fn:= Kp.m_is_plain
def m__law_draw : Fn:= C.m__law_draw
def m__law_digits : Fn:= C.m__law_digits
def m__law_signs : Fn:= C.m__law_signs
def m__law_case : Fn:= C.m__law_case
def m__law_plain : Fn:= C.m__law_plain C.m__law_draw
noncomputable def Qx:Fn:=fn 5
  (j6 (jk 1 (jx .dp []))
  (j6 (v8 (itS (cH (jw (vV 0) (C9 1)))) (.t [2,3,4]) (qZ v4 1 (jv .dp [(cV 2),(cV 3),(cLC .dp 1 [] (itS (cV 4)) (.n 0) tYes (VW (cF1 K4 (vV 0))))])))
  (jX (jv .dp [(VW (cF1 K4 (jw (vV 0) (C9 0)))),(cMv 1)]))))
noncomputable def J3:Fn:=fn 3
  (j6 (jk 2 (jJ m_is_plain [(cV 0)]))
  (jX (wQ (vE (cF1 (pu1 (k8 "bool")) (vV 2))) (cF2 (pu2 fEq) (vV 2) (vV 1)))))
noncomputable def xz:Fn:=fn 2
  (jX (jv .dp [(cV 0),(cC (.bl false)),(cLC .dp 1 [0] (itS (cV 1)) (.n 0) tYes (VW (cF2 qw (vE (jx .rt [(cC .non)])) (vE (cF2 j9 (vV 1) (C9 1))))))]))
noncomputable def ZW:Fn:=fn 8
  (j6 (W0 [2,3] (cV 0))
  (j6 (jk 4 (jx .rt [(jx .rt [(cV 2),(cV 3)]),(jv .no [(cV 2)]),(jv .no [(cV 2),(cV 3),(jx .rt [])]),(jv .no [(cF1 J7 (vV 2)),(cV 3)]),(jv .no [(jx .rt []),(cV 3)]),(jv .no [(cV 2),(cF1 J7 (vV 3))])]))
  (j6 (jk 4 (cF2 j9 (vV 4) (vE (jx .rt [(jv .no [(cV 2),(jx .rt [])]),(jv .no [(cV 2),(jx .rt [(jJ xz [(cC (.int 1)),(cV 2)])])]),(jv .no [(cF2 j9 (vE (jx .rt [(jx .rt [])])) (vE (cSl (vV 2) (some (C9 1)) none))),(cV 3)])]))))
  (j6 (jk 4 (cF2 j9 (vV 4) (vE (jx .rt [(jv .no [(cF2 j9 (vE (jx .rt [(cC (.str "A"))])) (vE (cSl (vV 2) (some (C9 1)) none))),(cV 3)]),(jv .no [(cF2 j9 (vE (jx .rt [(cC (.str ""))])) (vE (cSl (vV 2) (some (C9 1)) none))),(cV 3)])]))))
  (j6 (jk 4 (cF2 j9 (vV 4) (vE (jx .rt [(jv .no [(cF2 j9 (vE (jx .rt [(cF2 qw (vE (cC (.str "a"))) (C9 9))])) (vE (cSl (vV 2) (some (C9 1)) none))),(cV 3)]),(jv .no [(cF2 j9 (vE (jx .rt [(cC (.int 7))])) (vE (cSl (vV 2) (some (C9 1)) none))),(cV 3)])]))))
  (j6 (jk 5 (cLC .rt 1 [] (itS (cV 3)) (.n 0) tYes (jv .no [(cH (jw (vV 0) (C9 0))),(cH (jw (vV 0) (C9 1))),(cF2 j9 (jw (vV 0) (C9 2)) (vE (cSl (jw (vV 0) (C9 2)) none (some (C9 1)))))])))
  (j6 (jk 4 (cF2 j9 (vV 4) (vE (jx .rt [(jv .no [(cF2 j9 (vV 2) (vE (cSl (vV 2) none (some (C9 1))))),(cV 5)]),(jv .no [(cV 2),(cF2 j9 (vV 3) (vE (jx .rt [(jJ xz [(cC (.int 7)),(cV 2)])])))])]))))
  (j6 (jk 4 (cF2 j9 (vV 4) (vE (jx .rt [(jv .no [(cV 2),(cF2 j9 (vV 3) (vE (cF2 qw (vE (jx .rt [(jJ xz [(cC (.int 0)),(cV 2)])])) (vE (cF2 (pu2 K2) (C9 201) (vE (cF1 (pu1 kZ) (vV 3))))))))])]))))
  (j6 (jk 6 (cLC .rt 1 [] (itS (cV 3)) (.n 0) tYes (jJ xz [(cC (.int 0)),(cC (.str "abcd"))])))
  (j6 (jk 7 (jv .no [(jx .rt [(cC (.str "b")),(cC (.str "a"))]),(cLC .rt 1 [] (itS (cV 3)) (.n 0) tYes (jJ xz [(cC (.int 0)),(cC (.str "ab"))]))]))
  (j6 (sIf (tE (cF2 (pu2 fGt) (vE (cF1 (pu1 kZ) (vV 2))) (C9 1))) (jk 7 (jv .no [(cF1 XJ (vV 2)),(cV 3)])) vj)
  (jX (cH (jw (vE (cF2 j9 (vV 4) (vE (jx .rt [(jv .no [(jx .rt [(cC (.str "a")),(cC (.str "b")),(cC (.str "c")),(cC (.str "d"))]),(cV 6)]),(cV 7)])))) (vV 1)))))))))))))))
noncomputable def jqx:Fn:=fn 9
  (j6 (W0 [3,4,5] (cV 0))
  (j6 (jk 6 (jx .rt [(jx .rt [(cV 3),(cV 4),(cV 5)]),(jv .no [(cV 3),(cV 4)]),(jv .no [(cV 3),(cV 4),(cV 5),(cC (.int 0))]),(cC .non),(jv .no [(cC (.bl true)),(cV 4),(cV 5)])]))
  (j6 (jk 6 (cF2 j9 (vV 6) (vE (jx .rt [(jv .no [(cF2 j9 (vV 3) (C9 1)),(cV 4),(cV 5)]),(jv .no [(cF2 (pu2 K2) (vV 3) (C9 1)),(cV 4),(cV 5)]),(jv .no [(cF1 (pu1 vz2) (vV 3)),(cV 4),(cV 5)])]))))
  (j6 (jk 6 (cF2 j9 (vV 6) (vE (jx .rt [(jv .no [(cV 3),(cF1 (pu1 xJ) (vV 4)),(cV 5)]),(jv .no [(cV 3),(cC .non),(cV 5)]),(jv .no [(cV 3),(cV 4),(cF1 J7 (vV 5))])]))))
  (j6 (jk 6 (cF2 j9 (vV 6) (vE (jx .rt [(jv .no [(cV 3),(cV 4),(cSl (vV 5) (some (C9 1)) none)]),(jv .no [(cV 3),(cV 4),(cF2 j9 (vV 5) (vE (cSl (vV 5) none (some (C9 1)))))])]))))
  (j6 (jk 7 (cF2 (pu2 kq) (vV 2) (vE (cF1 (pu1 kZ) (vV 5)))))
  (j6 (v8 (itS (jx .rt [(cF1 J7 (jw (vV 5) (vV 7))),(cF2 j9 (jw (vV 5) (vV 7)) (vE (jx .rt [(cC .non)]))),(cSl (jw (vV 5) (vV 7)) (some (C9 1)) none),(cC .non)])) (.n 8) (qZ v4 6 (jv .no [(cV 3),(cV 4),(cF2 j9 (vE (cF2 j9 (vE (cSl (vV 5) none (some (vV 7)))) (vE (jx .rt [(cV 8)])))) (vE (cSl (vV 5) (some (vE (cF2 j9 (vV 7) (C9 1)))) none)))])))
  (jX (cH (jw (vV 6) (vV 1)))))))))))
noncomputable def jko:Fn:=fn 8
  (j6 (jk 4 (cF1 (pu1 kZ) (vV 0)))
  (j6 (jk 5 (jx .rt [(jx .rt [(cC (.int 0)),(jv .no [])]),(jx .rt []),(jv .no []),(jv .no [(cC (.int 0))]),(jv .no [(cC (.int 0)),(jv .no []),(cC (.int 0))]),(jv .no [(cV 4),(jv .no [])]),(jv .no [(cF1 (pu1 vx1) (C9 1)),(jv .no [])]),(jv .no [(cC (.bl true)),(jv .no [])]),(jv .no [(cC (.str "0")),(jv .no [])]),(jv .no [(cC (.int 0)),(jx .rt [])]),(jv .no [(cC (.int 0)),(jv .no [(cC (.int 0))])]),(cC (.int 0))]))
  (j6 (jk 6 (cF2 j9 (vV 1) (vE (cF1 (pu1 xJ) (vV 2)))))
  (j6 (v8 (itS (jx .rt [(jv .no [(cC (.int 0)),(cC (.int 0))]),(jv .no [(cV 6),(cC (.int 0))]),(jv .no [(cF1 (pu1 vx1) (C9 1)),(cC (.int 0))]),(jv .no [(cC .non),(cC (.int 0))]),(jv .no [(cC (.str "new")),(cC (.int 0))]),(jv .no [(cC (.bl false)),(cC (.int 1))]),(jv .no [(jx .rt []),(cC (.int 0))])])) (.n 7) (qZ v4 5 (jv .no [(cF2 (pu2 K2) (vV 4) (C9 1)),(cV 7)])))
  (jX (cH (jw (vV 5) (vE (cF2 (pu2 kq) (vV 3) (vE (cF1 (pu1 kZ) (vV 5))))))))))))
noncomputable def jkn:Fn:=fn 9
  (j6 (W0 [2,3,4,5] (jJ m__law_digits [(cV 1),(jx .rt [(cC (.int 54)),(cC (.int 60)),(cC (.int 6)),(cC (.int 420))])]))
  (j6 (sIf (tE (cF2 (pu2 fLt) (vV 2) (C9 18))) (jX (jJ ZW [(cV 0),(cV 2)])) vj)
  (j6 (qwi 6 7 (jJ Qx [(cV 0)]))
  (j6 (jk 3 (cF2 (pu2 kq) (vV 3) (vE (cF1 (pu1 kZ) (vV 7)))))
  (j6 (sIf (tE (cF2 (pu2 fLt) (vV 2) (C9 35))) (j6 (vxt 7 (vxu 7 (vV 3) (jJ jqx [(cH (jw (vV 7) (vV 3))),(cF2 (pu2 K2) (vV 2) (C9 18)),(cV 4)])))
  (jX (jv .no [(cV 6),(cV 7)]))) vj)
  (j6 (sAl 7 8 5 3 (cF2 (pu2 kq) (vV 4) (vE (cF1 (pu1 kZ) (vV 6)))) (cF2 (pu2 kq) (vV 5) (vE (cF1 (pu1 kZ) (vV 8)))) (kwc xz [(C9 2),(vV 6)]) jko [(jw (jw (vV 7) (vV 3)) (C9 0)),(vE (cF2 (pu2 fEq) (vV 5) (jw (jw (vV 7) (vV 3)) (C9 0)))),(vE (cF2 (pu2 K2) (vV 2) (C9 35)))])
  (jX (jv .no [(cV 6),(cV 7)]))))))))
noncomputable def m_law:Fn:=fn 7
  (j6 (jk 1 (jJ m__law_signs [(jJ m__law_draw [(cV 0),(cC (.int 0))]),(cF2 j9 (C9 1) (vE (cF2 (pu2 kq) (vE (jJ m__law_draw [(cV 0),(cC (.int 1))])) (C9 3))))]))
  (j6 (jk 2 (cH (jw (vE (jJ m__law_plain [(cV 0),(cC (.int 5)),(cV 1)])) (C9 0))))
  (j6 (jk 3 (cF2 j9 (C9 1) (vE (cF2 (pu2 kq) (vE (jJ m__law_draw [(cV 0),(cC (.int 2))])) (vE (cF2 (pu2 K2) (C9 200) (vE (cF1 (pu1 kZ) (jw (vV 2) (C9 1))))))))))
  (j6 (jk 4 (jJ Qx [(cV 2)]))
  (j6 (sIf (tOr (tNot (tEQ (vE (jJ J3 [(cV 4),(cC (.bl true))])))) (tNot (tEQ (vE (jJ J3 [(jJ jkn [(cV 2),(jJ m__law_draw [(cV 0),(cC (.int 3))])]),(cC (.bl false))]))))) (jX (cC (.bl false))) vj)
  (j6 (jk 5 (jv .no [(cF1 K4 (vV 1)),(cF2 j9 (vE (cF2 j9 (jw (vE (jJ Qx [(cV 2)])) (C9 1)) (vE (jx .rt [(jJ xz [(cC (.int 6)),(cV 1)])])))) (vE (cF2 qw (vE (jx .rt [(jJ xz [(cC (.int 0)),(cV 1)])])) (vE (cF2 (pu2 K2) (vV 3) (C9 1))))))]))
  (j6 (sIf (tNot (tEQ (vE (jJ J3 [(cV 5),(cC (.bl true))])))) (jX (cC (.bl false))) vj)
  (j6 (v8 (itS (jx .rt [(cC .non),(cC (.int 0)),(cC (.str "")),(jv .no []),(jx .rt []),vkf])) (.n 6) (sIf (tNot (tEQ (vE (jJ J3 [(cV 6),(cC (.bl false))])))) (jX (cC (.bl false))) vj))
  (jX (wQ (vE (jJ J3 [(cV 4),(cC (.bl true))])) (cF2 (pu2 fEq) (vV 4) (vV 2))))))))))))
end Nk30
namespace Nk30
open Q PySem C F
def Sgn(z:Str):Prop:=1<=z.cps.size/\z.cps.size<=8/\∀c∈z.cps.toList,c∈ltr
theorem vjq:∀i:Nat,i<26->ltr.getD i 0∈ltr:=by decide +kernel
theorem qj3(l:List Str):kX (kX l)=kX l:=List.Perm.eq_of_pairwise (λa b _ _ h1 h2=>kqn h1 h2) WJ WJ (zx _)
theorem qve:∀(l ae:List Str),(ae++l).Nodup->l.foldl (λl k=>if l.any (· == k)then l else l++[k]) ae=ae++l
 | [],ae,_=>by simp
 | k::l,ae,h=>by
  have hk:k∉ae:=λhm=>(List.nodup_append.mp h).2.2 k hm k X3 rfl
  rw[List.foldl_cons,Xj (λhh=>by
   obtain⟨y,hy,e⟩:=List.any_eq_true.mp hh;rw[eq_of_beq e]at hy;exact hk hy),qve l (ae++[k]) (by rw[Xm];exact h),Xm]
  rfl
theorem vka{l:List Str}(h:l.Nodup):ddS l=l:=qve l [] h
theorem qk4{l:List Str}(h:l.Nodup):kX (ddS (kX l))=kX l:=by
 rw[vka ((zx l).nodup_iff.mpr h),qj3]
inductive SI2 (x n sz am st b:Int):En->List D->Prop
 |mk (k:Int) (ss:List Str) {l7:Option Sd} {l8:Option Sd} {l9:Option Sd} {dz:Option Sd} {j8:List D} (h0:0<=k) (h1:k<=n) (h2:j8=k9 k n) (h3:(ss.length:Int)=k) (h4:∀i:Nat,i<ss.length->Ltr b st am.toNat i (ss.getD i "")) (h5:∀z∈ss,Sgn z):SI2 x n sz am st b [some (.no,.int x),some (.no,.int n),some (.dp,.str "abcdefghijklmnopqrstuvwxyz"),some (.no,.int sz),some (.dp,.int am),some (.no,.int st),some (.rt,sL ss),l7,l8,l9,dz] j8
inductive SI3 (x n sz am st b k:Int)(ss:List Str):En->List D->Prop
 |mk (j:Int) (z:Str) {l9:Option Sd} {dz:Option Sd} {o8:Own} {j8:List D} (h0:0<=j) (h1:j<=sz+1) (h2:j8=k9 j (sz+1)) (h3:(z.cps.size:Int)=j) (h4:(am<j->Ltr b st am.toNat ss.length z)) (h5:∀c∈z.cps.toList,c∈ltr):SI3 x n sz am st b k ss [some (.no,.int x),some (.no,.int n),some (.dp,.str "abcdefghijklmnopqrstuvwxyz"),some (.no,.int sz),some (.dp,.int am),some (.no,.int st),some (.rt,sL ss),some (.no,.int k),some (o8,.str z),l9,dz] j8
theorem qwg(x n:Int)(hx:0<=x)(h0:0<=n)(h1:n<=3):Oo C.m__law_signs [(.no,.int x),(.no,.int n)] (λy=>∃ss,y=(.rt,sL ss)/\(ss.length:Int)=n/\(∀z∈ss,Sgn z)/\kX (ddS ss)=ss) noX:=by
 unfold C.m__law_signs;refine qK ?_;simp![];refine(jz1 x [8,840,8] (by decide) (by decide)).via ?_;rintro _ ⟨ds,rfl,hd⟩;obtain⟨sz,bf,st,rfl,a1,a2,a3,a4,a5,a6⟩:=wjq hd;simp![];have b1:=Xq bf (show sz+1≠0 by lia);have b2:=Xl bf (show 0<sz+1 by lia);generalize bf % (sz+1)=am at b1 b2;obtain⟨b,hb⟩:∃b,b=x / (53761+26*am*am):=⟨_,rfl⟩;refine Jv (SI2 x n sz am st b) ?_ ?_ ?_
 ·refine qqp ?_;simp![];exact⟨n,rfl,by lia,by lia,0,[],by lia,h0,rfl,rfl,λi hi=>absurd hi (Nat.not_lt_zero _),λz hz=>nomatch hz⟩
 ·rintro E d ds ⟨k,ss,k0,k1,hr,hl,hS,hG⟩;obtain⟨hk,rfl,rfl⟩:=jw1 k1 hr;simp![];refine Jv (SI3 x n sz am st b k ss) ?_ ?_ ?_
  ·refine qqp ?_;simp![];exact⟨sz+1,rfl,by lia,by lia,0,"",by lia,by lia,rfl,rfl,(λh=>by lia),λc hc=>nomatch hc⟩
  ·rintro E d ds ⟨j,z,j0,j1,hr,hz,hzl,hzc⟩;obtain⟨hj,rfl,rfl⟩:=jw1 j1 hr;have jj0:0<=j*j:=Int.mul_nonneg j0 j0;have jj1:j*j<=8*8:=Int.mul_le_mul (by lia) (by lia) j0 (by decide);have kk0:0<=k*(st+1):=Int.mul_nonneg k0 (by lia);have kk1:k*(st+1)<=3*9:=Int.mul_le_mul (by lia) (by lia) (by lia) (by decide);have e1:26*j*j=26*(j*j):=Int.mul_assoc _ _ _;have hdv:z8 (.int x) (.int (53761+26*j*j))=some (.int (x / (53761+26*j*j))):=div_i (by lia) (by lia);have ia:∃w:Int,xJ (.bl (j==am))=some (.int w)/\0<=w/\w<=1/\(j=am->w=1):=by
    by_cases h:j=am
    ·rw[show(j==am)=true by simpa using h];exact⟨1,rfl,by decide,by decide,λ_=>rfl⟩
    ·rw[show(j==am)=false by simpa using h];exact⟨0,rfl,by decide,by decide,λz=>absurd z h⟩
   simp![K1,hdv];obtain⟨w,hw,w0,w1,hw1⟩:=ia;simp![hw];have hte:j=am->x / (53761+26*j*j)+k*(st+1)*w=b+ss.length*(st+1):=λh=>by rw[hw1 h,hb,h,hl,Int.mul_one]
   generalize x / (53761+26*j*j)+k*(st+1)*w=t at hte;have t0:=Xq t (show(26:Int)≠0 by decide);have t1:=Xl t (show(0:Int)<26 by decide);simp![vjz (t % 26) t0 t1];have hs:((⟨#[ltr.getD (t % 26).toNat 0]⟩:Str).cps.size)=1:=rfl;simp![vxh (a:=z) (b:=⟨#[ltr.getD (t % 26).toNat 0]⟩) (by rw[hs];lia)];refine SI3.mk (sz:=sz) (am:=am) (st:=st) (b:=b) (ss:=ss) (j+1) (z++⟨#[ltr.getD (t % 26).toNat 0]⟩) (by lia) (by lia) rfl (by rw[qwf,hs];lia) (λh=>?_) (λc hc=>?_)
   rotate_left
   ·have hc:c∈(z.cps++#[ltr.getD (t % 26).toNat 0]).toList:=hc;rw[Array.toList_append]at hc;rcases List.mem_append.mp hc with q|q
    ·exact hzc c q
    ·have:c=ltr.getD (t % 26).toNat 0:=by simpa using q
     rw[this];exact vjq _ (by lia)
   have hcp:(z++⟨#[ltr.getD (t % 26).toNat 0]⟩:Str).cps.toList=z.cps.toList++[ltr.getD (t % 26).toNat 0]:=by
    show(z.cps++#[ltr.getD (t % 26).toNat 0]).toList=_;rw[Array.toList_append]
   have hzs:z.cps.toList.length=z.cps.size:=Xp;unfold Ltr;rw[hcp]
   by_cases hja:j=am
   ·have ht:=hte hja;rw[Yc (by lia),show am.toNat - z.cps.toList.length=0 by lia,<-ht];rfl
   ·rw[Xw (by lia)];exact hzl (by lia)
  ·rintro E ⟨j,z,j0,j1,hr,hz,hzl,hzc⟩;have:=Zk j1 hr;refine VX rfl ?_;simp![];refine⟨_,rfl,by rw[X5];lia,?_⟩;rw[show ss.map D.str++[D.str z]=(ss++[z]).map D.str by simp];refine⟨k+1,ss++[z],by lia,by lia,rfl,by simp;lia,λi hi=>?_,λw hw=>(List.mem_append.mp hw).elim (hG w) λq=>by rw[List.mem_singleton.mp q];exact⟨by lia,by lia,hzc⟩⟩;rw[Xi,Xs]at hi;rw[X7]
   by_cases hil:i<ss.length
   ·rw[Xw hil,<-X7];exact hS i hil
   ·have:i=ss.length:=by lia
    subst this;rw[Yc (Xd _),Nat.sub_self];exact hzl (by lia)
 ·rintro E ⟨k,ss,k0,k1,hr,hl,hS,hG⟩;have:=Zk k1 hr;subst this;simp![qwc (o:=.rt) (ss:=ss) (by lia)];refine⟨kX ss,rfl,by rw[kva];exact hl,λz hz=>hG z ((zx ss).mem_iff.mp hz),qk4 ?_⟩;rw[List.nodup_iff_pairwise_ne,List.pairwise_iff_getElem];intro i j hi hj pz e;have p1:=hS i hi;have p2:=hS j hj;rw[X7,X1 hi]at p1;rw[X7,X1 hj]at p2;have p1:Ltr b st am.toNat i ss[i]:=p1;have p2:Ltr b st am.toNat j ss[j]:=p2;unfold Ltr at p1 p2;rw[e,p2]at p1;have p1:=oq9 p1;have m0:=Xq (b+i*(st+1)) (show(26:Int)≠0 by decide);have m1:=Xl (b+i*(st+1)) (show(0:Int)<26 by decide);have m2:=Xq (b+j*(st+1)) (show(26:Int)≠0 by decide);have m3:=Xl (b+j*(st+1)) (show(0:Int)<26 by decide);have:=vjr _ (by lia) _ (by lia) p1;have hij3:=vvv j (by lia) i pz;have hq:(b+j*(st+1)) % 26=(b+i*(st+1)) % 26:=by
   have:=congrArg (λn:Nat=>(n:Int)) this;simp only[Int.toNat_of_nonneg m0,Int.toNat_of_nonneg m2]at this
   first|exact this|exact this.symm
  clear this p1 m0 m1 m2 m3 p2 hS;rcases hij3 with⟨rfl,rfl⟩|⟨rfl,rfl⟩|⟨rfl,rfl⟩
  ·exact qq8 (a:=b) (d:=st+1) (by lia) (by lia) (by rw[show((1:Nat):Int)*(st+1)=st+1 from Int.one_mul _,show((0:Nat):Int)*(st+1)=0 from Int.zero_mul _,Int.add_zero]at hq;exact hq)
  ·exact qq8 (a:=b) (d:=2*(st+1)) (by lia) (by lia) (by rw[show((0:Nat):Int)*(st+1)=0 from Int.zero_mul _,Int.add_zero]at hq;exact hq)
  ·exact qq8 (a:=b+(st+1)) (d:=st+1) (by lia) (by lia) (by rw[show((1:Nat):Int)*(st+1)=st+1 from Int.one_mul _]at hq;rw[<-hq,Int.add_assoc];congr 2;show _=(2:Int)*(st+1);rw[Int.two_mul])
theorem vx5:m__law_draw=C.m__law_draw:=rfl
theorem vk6:m__law_signs=C.m__law_signs:=rfl
theorem vk7:m__law_plain=C.m__law_plain C.m__law_draw:=rfl
theorem wq7:m_is_plain=Kp.m_is_plain:=rfl
end Nk30
namespace Nk30
open Q PySem C F Kp
theorem wjz:∀c∈ltr,JV ⟨#[c]⟩ AZ=true:=by decide +kernel
theorem Sgn.b{z:Str}(h:Sgn z):xv (.str z)=true:=by
 obtain⟨h1,h2,h3⟩:=h;show(decide (1<=z.cps.size)&&decide (z.cps.size<=8)&&z.cps.toList.all λc=>JV ⟨#[c]⟩ AZ)=true;rw[X6 h1,X6 h2,List.all_eq_true.mpr λc hc=>wjz c (h3 c hc)];rfl
theorem kwl(ss:List Str):Kp.txs (ss.map D.str)=ss:=by
 unfold Kp.txs;rw[Y3];exact List.map_id ss
theorem qk5{ss:List Str}(h1:1<=ss.length)(h3:ss.length<=3)(hg:∀z∈ss,Sgn z)(hs:kX (ddS ss)=ss):xK (sL ss)=true:=by
 show(decide (1<=(ss.map D.str).length)&&decide ((ss.map D.str).length<=3)&&(ss.map D.str).all xv&&decide (Kp.txs (ss.map D.str)=kX (ddS (Kp.txs (ss.map D.str)))))=true;rw[kwl,hs,X5,X6 h1,X6 h3,List.all_eq_true.mpr λd hd=>by
  obtain⟨z,hz,rfl⟩:=List.mem_map.mp hd;exact(hg z hz).b]
 simp
theorem qz8:∀(l ae:List Int),(ae++l).Nodup->l.foldl (λl k=>if l.any (· == k)then l else l++[k]) ae=ae++l
 | [],ae,_=>by simp
 | k::l,ae,h=>by
  have hk:k∉ae:=λhm=>(List.nodup_append.mp h).2.2 k hm k X3 rfl
  rw[List.foldl_cons,Xj (λhh=>by
   obtain⟨y,hy,e⟩:=List.any_eq_true.mp hh;rw[eq_of_beq e]at hy;exact hk hy),qz8 l (ae++[k]) (by rw[Xm];exact h),Xm]
  rfl
theorem kzs{ac more:List Int}{b:Int}{c:D}(h:Cs ac b c):vz (ac++more) b c=true:=by
 rcases h with rfl|⟨to,fs,rfl,t0,t1,hf,hn,hl⟩
 ·rfl
 ·have e1:(ac++more).getD to.toNat 0=ac.getD to.toNat 0:=by
   rw[X7,Xw (by lia),<-X7]
  have e2:(fs.map D.int).map ivD=fs:=by rw[Y3];exact List.map_id fs
  have e3:ddI fs=fs:=qz8 fs [] hn;show(false||(vq (.int to) (ac++more).length&&(decide (((fs.map D.int).length:Int)=(ac++more).getD to.toNat 0)&&((fs.map D.int).all (λd=>vq d b)&&decide (((ddI ((fs.map D.int).map ivD)).length:Int)=(ac++more).getD to.toNat 0)))))=true;rw[e1,e2,e3,X5,X6 hl,List.all_eq_true.mpr λd hd=>by
   obtain⟨f,hf2,rfl⟩:=List.mem_map.mp hd;have:=hf f hf2;show(decide (0<=f)&&decide (f<b))=true;rw[X6 this.1,X6 this.2];rfl]
  show(false||((decide (0<=to)&&decide (to<((ac++more).length:Int)))&&(true&&(true&&true))))=true;rw[X6 t0,X6 (by rw[Xi];lia)];rfl
theorem qvk{ac more:List Int}{own:Nat}{cs:List D}(hl:(cs.length:Int)=own+1)(h:∀k:Nat,k<cs.length->∃z,cs[k]?=some z/\Cs ac (vW own k) z):x6 (ac++more) own (.lst cs)=true:=by
 show(decide (cs.length=own+1)&&((cs.take own).all (vz (ac++more) own)&&vz (ac++more) ((own:Int)+1) (cs.getD own .non)))=true;rw[X6 (by lia),List.all_eq_true.mpr λz hz=>by
  obtain⟨i,hi,rfl⟩:=Yo hz;rw[Y9]at hi;obtain⟨z,e,hc⟩:=h i (by lia);rw[List.getElem_take];rw[X1 (by lia)]at e;cases e;have:=kzs (more:=more) hc;unfold vW at this;rw[Xj (by lia),Int.add_zero]at this;exact this]
 obtain⟨z,e,hc⟩:=h own (by lia);rw[X7,e];have:=kzs (more:=more) hc;unfold vW at this;rw[Xf rfl]at this;show(true&&(true&&vz (ac++more) ((own:Int)+1) z))=true;rw[this];rfl
noncomputable def jZ(n:Nat)(k:Int):D:=.tup [.int k,.bl false,.lst (List.replicate n (.lst (List.replicate (k.toNat+1) .non)))]
theorem vkh(ks:List Int)(n own:Nat):wq ks n own (.lst (List.replicate n (.lst (List.replicate (own+1) .non))))=true:=by
 show(decide ((List.replicate n (D.lst (List.replicate (own+1) .non))).length=n)&&(List.replicate n (D.lst (List.replicate (own+1) .non))).all (x6 ks own))=true;rw[Xx,X6 rfl,List.all_eq_true.mpr λd hd=>by
  obtain⟨_,rfl⟩:=List.mem_replicate.mp hd;show(decide ((List.replicate (own+1) D.non).length=own+1)&&(((List.replicate (own+1) D.non).take own).all (vz ks own)&&vz ks ((own:Int)+1) ((List.replicate (own+1) D.non).getD own .non)))=true;rw[Xx,X6 rfl,List.all_eq_true.mpr λd hd=>by
   obtain⟨_,rfl⟩:=List.mem_replicate.mp (Yr hd);rfl,X7,List.getElem?_replicate,Xf (by lia)]
  rfl]
 rfl
theorem Prs.at{ac:List Int}{n:Nat}{rs:List D}(h:Prs ac n rs){r:D}(hr:r∈rs):∃i:Nat,i<ac.length/\rs[i]?=some r/\Pr ac n (ac.getD i 0) r:=by
 obtain⟨i,hi,e⟩:=Yo hr;obtain⟨r',e',p⟩:=h.2 i (by rw[<-h.1];exact hi);rw[X1 hi,e]at e';cases e';exact⟨i,by rw[<-h.1];exact hi,by rw[X1 hi,e],p⟩
theorem qz0{ac:List Int}{n:Nat}{rs:List D}(h:Prs ac n rs):qq rs=ac:=by
 refine List.ext_getElem? λi=>?_
 unfold qq;rw[Xu]
 by_cases hi:i<ac.length
 ·obtain⟨r,e,gd,st,rfl,_⟩:=h.2 i hi;rw[e,X1 hi,X7,X1 hi];rfl
 ·rw[Yj (by rw[h.1];lia),Yj (by lia)];rfl
theorem qk9{ac more:List Int}{n:Nat}{rs:List D}(h:Prs ac n rs)(h0:ac[0]?=some 0)(hk:∀p∈ac,0<=p/\p<=3)(hm:∀p∈more,0<=p/\p<=6)(hl:ac.length+more.length<=200):wZ n (.lst (rs++more.map (jZ n)))=true:=by
 have h1:1<=ac.length:=(List.getElem?_eq_some_iff.mp h0).1;have hkk:qq (rs++more.map (jZ n))=ac++more:=by
  have:=qz0 h;unfold qq at this ⊢;rw[Yd,this,Y3]
  congr 1
  exact List.map_id more
 have hp:∀i:Nat,i<ac.length->0<=ac.getD i 0/\ac.getD i 0<=3:=λi hi=>by
  rw[X7,X1 hi];exact hk _ (Y6 _)
 show(decide (1<=(rs++more.map (jZ n)).length)&&(decide ((rs++more.map (jZ n)).length<=200)&&((rs++more.map (jZ n)).all x8&&(decide ((qq (rs++more.map (jZ n))).getD 0 0=0)&&(rs++more.map (jZ n)).all λr=>wq (qq (rs++more.map (jZ n))) n (ivD (rk r)).toNat (rst r)))))=true;rw [hkk,Xi,X5,h.1,X6 (by lia),X6 hl,List.all_eq_true.mpr λd hd=>by
  rcases List.mem_append.mp hd with hd|hd
  ·obtain⟨i,hi,_,gd,st,rfl,_⟩:=Prs.at h hd;have:=hp i hi;show(decide (0<=ac.getD i 0)&&decide (ac.getD i 0<7)&&true)=true;rw[X6 this.1,X6 (by lia)];rfl
  ·obtain⟨p,hp,rfl⟩:=List.mem_map.mp hd;have:=hm p hp;show(decide (0<=p)&&decide (p<7)&&true)=true;rw[X6 this.1,X6 (by lia)];rfl,X7,Xw h1,h0,List.all_eq_true.mpr λd hd=>by
  rcases List.mem_append.mp hd with hd|hd
  ·obtain⟨i,hi,_,gd,st,rfl,bo,fv⟩:=Prs.at h hd;have hpi:=hp i hi;show(decide (st.length=n)&&st.all (x6 (ac++more) (ac.getD i 0).toNat))=true;rw[X6 bo,List.all_eq_true.mpr λc hc=>by
    obtain⟨cs,rfl,e,hz⟩:=fv c hc;have e2:((ac.getD i 0).toNat:Int)=ac.getD i 0:=by lia
    exact qvk (by rw[e2];exact e) (by rw[e2];exact hz)]
   rfl
  ·obtain⟨p,hp,rfl⟩:=List.mem_map.mp hd;exact vkh _ n p.toNat]
 rfl
theorem kxu{n:Nat}{rs:List D}{r:D}(hr:r∈rs)(h:x8 r=false\/∀ks,wq ks n (ivD (rk r)).toNat (rst r)=false):wZ n (.lst rs)=false:=by
 show(decide (1<=rs.length)&&(decide (rs.length<=200)&&(rs.all x8&&(decide ((qq rs).getD 0 0=0)&&rs.all λr=>wq (qq rs) n (ivD (rk r)).toNat (rst r)))))=false;rcases h with h|h
 ·rw[List.all_eq_false.mpr ⟨r,hr,by rw[h];decide⟩];simp
 ·rw[show(rs.all λr=>wq (qq rs) n (ivD (rk r)).toNat (rst r))=false from List.all_eq_false.mpr ⟨r,hr,by rw[h];decide⟩];simp
end Nk30
namespace Nk30
open Q PySem C Kp
theorem kz7{xs:List D}(h:D.pures xs=true):XV (.rt,.lst xs)=true:=by
 unfold XV;show(vk (.rt,.lst xs)||(Own.rt==Own.rt&&D.pures xs))=true;rw[h];simp
theorem kqc{xs:List D}(h:∀x∈xs,x.pure=true):D.pures xs=true:=by rw[D.pures_all,Z2];exact h
theorem vxf{i:Nat}{c:Ex}{E:En}{xs:List D}{N C:En->Prop}{R:Sd->Prop}{X:XP}(h0:E[i]?=some (some (.dp,.lst xs)))
  (h:Eo (c E) (λE1 x=>∃ys,E1[i]?=some (some (.dp,.lst ys))/\ys.length<10000/\x.1=.dp/\N (E1.set i (some (.dp,.lst (ys++[x.2]))))) X):Po (qZ v4 i c E) N C R X:=
 qvz h0 (h.mono λE1 x ⟨ys,h1,h2,h3,h4⟩=>⟨.dp,ys,h1,by decide,h2,by rw[Xf ⟨rfl,by unfold vk;rw[h3];rfl⟩];with_unfolding_all exact h4⟩)
theorem vkw{cs:List Ex}{e:Option Sd}{E:En}{P:En->Sd->Prop}{X:XP}:Eo (jx .dp cs (e::E)) P X=Eo (qY cs (e::E)) (λE xs=>xs.all vk=true/\P E (.dp,.lst (xs.map (·.2)))) X:=by
 unfold jx;rw[kQ];congr 1;funext E x;rw[Xf rfl,YK,WY]
theorem qvm{z:D}(h:z=.non\/∃(to:Int) (fs:List Int),z=.tup [.int to,.tup (fs.map D.int)]):z.pure=true:=by
 rcases h with rfl|⟨to,fs,rfl⟩
 ·rfl
 ·show(D.pure (.int to)&&(D.pures (fs.map D.int)&&true))=true;rw[D.pures_map _ _ λ_ _=>rfl];rfl
theorem qz1(a b:D):kJ (.tup [a,b]) (.int 0)=some a:=rfl
theorem qx2(a b:D):kJ (.tup [a,b]) (.int 1)=some b:=rfl
theorem kx9{G:D->Sd->Prop}{h:D->D}(hG:∀d y,G d y->y=(.dp,h d)):∀{ds:List D} {ys:List Sd},Each G ds ys->ys=ds.map λd=>(.dp,h d)
 |[],[],_=>rfl
 |d::ds,y::ys,r=>by
  rw[hG d y r.1,kx9 hG r.2];rfl
theorem kx1{h:D->D}{ds:List D}{E:En}{P:En->Sd->Prop}{X:XP}:Eo (mkL .dp E (ds.map λd=>(Own.dp,h d))) P X=P E (.dp,.lst (ds.map h)):=by
 rw[vwb (List.all_eq_true.mpr λy hy=>by obtain⟨d,_,rfl⟩:=List.mem_map.mp hy;rfl),Y3];rfl
theorem kju{ss:List Str}{rs:List D}(hr:∀r∈rs,Ps r)(hl:rs.length<=1000):Oo Qx [(.no,v9 ss rs)] (λy=>∃_:Unit,y=(.dp,v9 ss rs)/\True) noX:=by
 unfold Qx;refine qK ?_;simp![vkw];refine⟨rfl,Jv (λE j8=>∃rs1 l2 l3 l4,E=[some (.no,v9 ss rs),some (.dp,.lst rs1),l2,l3,l4]/\rs=rs1++j8) ?_ ?_ ?_⟩
 ·simp![qx2];exact⟨[],_,_,_,rfl,rfl⟩
 ·rintro E d ds ⟨rs1,l2,l3,l4,rfl,he⟩;obtain⟨own,gd,st,rfl,bo⟩:=hr d (by rw[he];simp);have aj:rs1.length<=1000:=by have:=congrArg List.length he;simp at this;lia
  simp![];refine vxf rfl ?_;simp![qjs];refine zq [] (λd y=>y=(.dp,d)) ?_;simp![];refine⟨λc hc=>?_,λys hy=>?_⟩
  ·obtain⟨cs,rfl,hz⟩:=bo c hc;simp![qw7,kze (o:=.no) (xs:=cs) (by decide)];exact⟨kz7 (kqc λz hz2=>qvm (hz z hz2)),⟨_,rfl⟩,trivial⟩
  ·rw[kx9 (h:=id) (λd y h=>h) hy,kx1,List.map_id];simp only[back,clr];simp![];exact⟨rfl,_,rfl,by lia,rs1++[.tup [.int own,.bl gd,.lst st]],_,_,_,rfl,by rw[he];simp⟩
 ·rintro E ⟨rs1,l2,l3,l4,rfl,he⟩;rw[Y0]at he;subst he;simp![qz1,qw7,qjs,kze (o:=.no) (xs:=ss.map D.str) (by decide)];exact⟨kz7 (D.pures_map _ _ λ_ _=>rfl),rfl,(),trivial⟩
theorem vwa{o1 o2:Own}{k:Int}(h1:o1≠.dp)(h0:0<=k)(hk:k<1000):xk (o1,.lst [.non]) (o2,.int k)=some (.rt,.lst (List.replicate k.toNat D.non)):=by
 rw[qq7 h1 h0 hk rfl]
 congr 2
 generalize k.toNat=n;show D.lst _=_
 congr 1
 induction n with
 |zero=>rfl
 |succ n ih=>rw[List.replicate_succ,Yh,ih];rfl
theorem kqy{k:Int}{ds:List D}{s:D}(k0:0<=k)(k7:k<=7)(hs:s=.lst ds\/∃z:Str,s=.str z/\z.cps.size<=big/\ds=z.cps.toList.map λc=>.str ⟨#[c]⟩):Oo xz [(.no,.int k),(.no,s)] (λy=>∃_:Unit,y=(.dp,jZ ds.length k)/\True) noX:=by
 have hb:∀(ys:List Sd),Each (λ_ y=>y=(Own.dp,D.lst (List.replicate (k+1).toNat .non))) ds ys->ys=ds.map λ_=>(.dp,.lst (List.replicate (k+1).toNat .non)):=λys hy=>kx9 (h:=λ_=>.lst (List.replicate (k+1).toNat .non)) (λd y h=>h) hy
 have fin:(D.tup [.int k,.bl false,.lst (ds.map λ_=>.lst (List.replicate (k+1).toNat .non))])=jZ ds.length k:=by
  unfold jZ;rw[List.map_const',show(k+1).toNat=k.toNat+1 by lia]
 unfold xz;refine qK ?_;simp![qjs];refine zq [some (.no,.int k)] (λ_ y=>y=(.dp,.lst (List.replicate (k+1).toNat .non))) ?_;rcases hs with rfl|⟨z,rfl,hz,rfl⟩
 ·simp![];refine⟨rfl,λc hc=>?_,λys hy=>?_⟩
  ·simp![qw7,vwa (o1:=.no) (o2:=.no) (k:=k+1) (by decide) (by lia) (by lia)];exact⟨kz7 (kqc λx hx=>by rw[List.eq_of_mem_replicate hx];rfl),⟨_,rfl⟩,trivial⟩
  ·rw[hb ys hy,kx1];simp only[back,clr,at',List.map_cons,List.map_nil,List.set_cons_zero,List.set_cons_succ];simp![];exact⟨rfl,(),congrArg (Prod.mk Own.dp) fin,trivial⟩
 ·simp![hz];refine⟨rfl,λc hc=>?_,λys hy=>?_⟩
  ·simp![qw7,vwa (o1:=.no) (o2:=.no) (k:=k+1) (by decide) (by lia) (by lia)];exact⟨kz7 (kqc λx hx=>by rw[List.eq_of_mem_replicate hx];rfl),⟨_,rfl⟩,trivial⟩
  ·rw[hb ys hy,kx1];simp only[back,clr,at',List.map_cons,List.map_nil,List.set_cons_zero,List.set_cons_succ];simp![];exact⟨rfl,(),congrArg (Prod.mk Own.dp) (fin.trans (by rw[X5])),trivial⟩
theorem Kw{k:Nat}{d:D}{mr:Bool}(h:d.flat k=true)(hb:Q5 d=mr):Oo J3 [(.no,d),(.no,.bl mr)] (λy=>∃o':Own,y=(o',.bl true)/\True) noX:=by
 unfold J3;refine qK ?_;rw[wq7];simp![];refine(qkq h).use ?_;intro _ _;rw[hb];have i1:k8 "bool" (.bl mr)=some (.bl true):=rfl;have i2:fEq (.bl mr) (.bl mr)=some (.bl true):=by cases mr<;>rfl
 simp![i1,i2];exact⟨_,rfl,trivial⟩
end Nk30
namespace Nk30
open Q PySem C Kp
theorem XW{xs:List D}{j:Int}(h0:0<=j):zZ xs none (some j)=xs.take j.toNat:=by
 unfold zZ zw;dsimp only;rw[Xj (by omega),List.drop_zero,Nat.sub_zero]
 by_cases h:j.toNat<=xs.length
 ·rw[Nat.min_eq_left h]
 ·rw[Nat.min_eq_right (by omega),List.take_of_length_le (Xd _),List.take_of_length_le (by omega)]
theorem kj3{xs:List D}{j:Int}(h0:0<=j):zZ xs (some j) none=xs.drop j.toNat:=by
 unfold zZ zw;dsimp only;rw[Xj (by omega),List.take_of_length_le (by rw[Ym];omega)]
 by_cases h:j.toNat<=xs.length
 ·rw[Nat.min_eq_left h]
 ·rw[Nat.min_eq_right (by omega),List.drop_eq_nil_of_le (Xd _),List.drop_eq_nil_of_le (by omega)]
theorem kxl:∀ss:List Str,x9 (ss.map D.str)=some ss
 |[]=>rfl
 |s::ss=>by rw[List.map_cons,x9,kxl ss];rfl
def twD:D->D
 |.tup [a,b,.lst st]=>.tup [a,b,.lst (st++st.take 1)]
 |d=>d
theorem qwt{ss:List Str}{rs:List D}(hr:∀r∈rs,Ps r)(hq:∀(own:Int) (gd:Bool) (st:List D),D.tup [.int own,.bl gd,.lst st]∈rs->st.length<=3)(hl:rs.length<=6)(h1:1<=ss.length)(h3:ss.length<=3){way:Nat}(hw:way<18)(G:D->Prop)
  (hG:∀fl:D,fl=(if 1<ss.length then .tup [sL ss.reverse,.lst rs]else .tup [.lst [.str "b",.str "a"],.lst (rs.map λ_=>jZ 2 0)])->G ([.lst [sL ss,.lst rs],.tup [sL ss],.tup [sL ss,.lst rs,.lst []],.tup [.tup (ss.map D.str),.lst rs],.tup [.lst [],.lst rs],.tup [sL ss,.tup rs],.tup [sL ss,.lst []],.tup [sL ss,.lst [jZ ss.length 1]],.tup [.lst (.lst []::(ss.map D.str).drop 1),.lst rs],.tup [.lst (.str "A" :: (ss.map D.str).drop 1),.lst rs],.tup [.lst (.str "" :: (ss.map D.str).drop 1),.lst rs],.tup [.lst (.str "aaaaaaaaa" :: (ss.map D.str).drop 1),.lst rs],.tup [.lst (.int 7::(ss.map D.str).drop 1),.lst rs],.tup [.lst (ss.map D.str++(ss.map D.str).take 1),.lst (rs.map twD)],.tup [sL ss,.lst (rs++[jZ ss.length 7])],.tup [sL ss,.lst (rs++List.replicate (201 - rs.length) (jZ ss.length 0))],.tup [.lst [.str "a",.str "b",.str "c",.str "d"],.lst (rs.map λ_=>jZ 4 0)],fl].getD way .non)):
  Oo ZW [(.no,v9 ss rs),(.no,.int way)] (λy=>G y.2) noX:=by
 have t2:=Zx (o:=.no) (xs:=ss.map D.str) (by decide);have t3:=Zx (o:=.no) (xs:=rs) (by decide);have sl:(ss.map D.str).length=ss.length:=X5 _;have c1:fSl (.no,.lst (ss.map D.str)) (some 1) none=some (.rt,.lst ((ss.map D.str).drop 1)):=by rw[K3 (by decide),kj3 (by decide)];rfl
 have c2:fSl (.no,.lst (ss.map D.str)) none (some 1)=some (.rt,.lst ((ss.map D.str).take 1)):=by rw[K3 (by decide),XW (by decide)];rfl
 have a1:∀d:D,j9 (.no,.lst [d]) (.no,.lst ((ss.map D.str).drop 1))=some (.rt,.lst (d::(ss.map D.str).drop 1)):=λd=>J4 (by decide) (by decide) (by rw[Ym,sl,Xs];lia)
 have a2:j9 (.no,.lst (ss.map D.str)) (.no,.lst ((ss.map D.str).take 1))=some (.rt,.lst (ss.map D.str++(ss.map D.str).take 1)):=J4 (by decide) (by decide) (by rw[Y9,sl];lia);have a3:∀d:D,j9 (.no,.lst rs) (.no,.lst [d])=some (.rt,.lst (rs++[d])):=λd=>J4 (by decide) (by decide) (by rw[Xs];lia)
 have m0:xk (.no,.lst [jZ ss.length 0]) (.no,.int (201 - rs.length))=some (.rt,.lst (List.replicate (201 - rs.length) (jZ ss.length 0))):=by
  rw[qq7 (by decide) (by lia) (by lia) rfl,show(201 - (rs.length:Int)).toNat=201 - rs.length by lia];generalize 201 - rs.length=n
  congr 2
  show D.lst _=_
  congr 1
  induction n with
  |zero=>rfl
  |succ n ih=>rw[List.replicate_succ,Yh,ih];rfl
 have a4:j9 (.no,.lst rs) (.no,.lst (List.replicate (201 - rs.length) (jZ ss.length 0)))=some (.rt,.lst (rs++List.replicate (201 - rs.length) (jZ ss.length 0))):=J4 (by decide) (by decide) (by rw[Xx];lia);have q1:∀a1 a2 a3 a4 a5 a6 b1 b2 b3:D,j9 (.rt,.lst [a1,a2,a3,a4,a5,a6]) (.no,.lst [b1,b2,b3])=some (.rt,.lst [a1,a2,a3,a4,a5,a6,b1,b2,b3]):=λ_ _ _ _ _ _ _ _ _=>rfl
 have q2:∀a1 a2 a3 a4 a5 a6 a7 a8 a9 b1 b2:D,j9 (.rt,.lst [a1,a2,a3,a4,a5,a6,a7,a8,a9]) (.no,.lst [b1,b2])=some (.rt,.lst [a1,a2,a3,a4,a5,a6,a7,a8,a9,b1,b2]):=λ_ _ _ _ _ _ _ _ _ _ _=>rfl
 have q3:∀a1 a2 a3 a4 a5 a6 a7 a8 a9 a10 a11 b1 b2:D,j9 (.rt,.lst [a1,a2,a3,a4,a5,a6,a7,a8,a9,a10,a11]) (.no,.lst [b1,b2])=some (.rt,.lst [a1,a2,a3,a4,a5,a6,a7,a8,a9,a10,a11,b1,b2]):=λ_ _ _ _ _ _ _ _ _ _ _ _ _=>rfl
 have q4:∀a1 a2 a3 a4 a5 a6 a7 a8 a9 a10 a11 a12 a13 b1 b2:D,j9 (.rt,.lst [a1,a2,a3,a4,a5,a6,a7,a8,a9,a10,a11,a12,a13]) (.no,.lst [b1,b2])=some (.rt,.lst [a1,a2,a3,a4,a5,a6,a7,a8,a9,a10,a11,a12,a13,b1,b2]):=λ_ _ _ _ _ _ _ _ _ _ _ _ _ _ _=>rfl
 have q5:∀a1 a2 a3 a4 a5 a6 a7 a8 a9 a10 a11 a12 a13 a14 a15 b1:D,j9 (.rt,.lst [a1,a2,a3,a4,a5,a6,a7,a8,a9,a10,a11,a12,a13,a14,a15]) (.no,.lst [b1])=some (.rt,.lst [a1,a2,a3,a4,a5,a6,a7,a8,a9,a10,a11,a12,a13,a14,a15,b1]):=λ_ _ _ _ _ _ _ _ _ _ _ _ _ _ _ _=>rfl
 have q6:∀a1 a2 a3 a4 a5 a6 a7 a8 a9 a10 a11 a12 a13 a14 a15 a16 b1 b2:D,j9 (.rt,.lst [a1,a2,a3,a4,a5,a6,a7,a8,a9,a10,a11,a12,a13,a14,a15,a16]) (.no,.lst [b1,b2])=some (.rt,.lst [a1,a2,a3,a4,a5,a6,a7,a8,a9,a10,a11,a12,a13,a14,a15,a16,b1,b2]):=λ_ _ _ _ _ _ _ _ _ _ _ _ _ _ _ _ _ _=>rfl
 have ix:∀a1 a2 a3 a4 a5 a6 a7 a8 a9 a10 a11 a12 a13 a14 a15 a16 b1 b2:D,kJ (.lst [a1,a2,a3,a4,a5,a6,a7,a8,a9,a10,a11,a12,a13,a14,a15,a16,b1,b2]) (.int way)=some ([a1,a2,a3,a4,a5,a6,a7,a8,a9,a10,a11,a12,a13,a14,a15,a16,b1,b2].getD way .non):=λ_ _ _ _ _ _ _ _ _ _ _ _ _ _ _ _ _ _=>qx3 _ _ (by lia) (by simp;lia)
 have m9:qw (.no,.str "a") (.no,.int 9)=some (.dp,.str "aaaaaaaaa"):=rfl;have rv:XJ (.no,.lst (ss.map D.str))=some (.rt,sL ss.reverse):=by
  unfold XJ;dsimp only;rw[kxl]
 have bl:∀k:Int,0<=k->k<=7->Oo xz [(.no,.int k),(.no,.lst (ss.map D.str))] (λy=>∃_:Unit,y=(.dp,jZ ss.length k)/\True) noX:=λk h0 h7=>by
  have:=kqy (ds:=ss.map D.str) (s:=.lst (ss.map D.str)) h0 h7 (.inl rfl)
  rwa [sl]at this
 unfold ZW;refine qK ?_;simp![t2,t3];refine(bl 1 (by decide) (by decide)).use ?_;intro _ _;simp![c1,a1,q1,q2,q3,m9];have jz:∀(a b c:D),kJ (.tup [a,b,c]) (.int 0)=some a/\kJ (.tup [a,b,c]) (.int 1)=some b/\kJ (.tup [a,b,c]) (.int 2)=some c:=λ_ _ _=>⟨rfl,rfl,rfl⟩
 refine zq [] (λd y=>y.2=twD d) ?_;simp![];refine⟨λd hd=>?_,λys hy=>?_⟩
 ·obtain⟨own,gd,st,rfl,bo⟩:=hr d hd;have s1:fSl (.no,.lst st) none (some 1)=some (.rt,.lst (st.take 1)):=by rw[K3 (by decide),XW (by decide)];rfl
  have s2:j9 (.no,.lst st) (.no,.lst (st.take 1))=some (.rt,.lst (st++st.take 1)):=J4 (by decide) (by decide) (by have:=hq _ _ _ hd;rw[Y9];lia);simp![(jz _ _ _).1,(jz _ _ _).2.1,(jz _ _ _).2.2,s1,s2];exact⟨⟨_,rfl⟩,rfl⟩
 rw[J0,Jz (h:=twD) (λ_ _ h=>h) hy];simp only[back,clr];simp![c2,a2];refine(bl 7 (by decide) (by decide)).use ?_;intro _ _;simp![a3,q4];refine(bl 0 (by decide) (by decide)).use ?_;intro _ _;simp![m0,a4,q5];have bt:∀(z:Str) (n:Nat),z.cps.toList.length=n->n<=10->Oo xz [(.no,.int 0),(.no,.str z)] (λy=>∃_:Unit,y=(.dp,jZ n 0)/\True) noX:=λz n hz hn=>by
  have:=kqy (k:=0) (s:=.str z) (ds:=z.cps.toList.map λc=>.str ⟨#[c]⟩) (by decide) (by decide) (.inr ⟨z,rfl,by rw[<-Xp,hz];unfold big;lia,rfl⟩)
  rwa [X5,hz]at this
 refine zq [] (λ_ y=>y.2=jZ 4 0) ?_;simp![];refine⟨λd hd=>?_,λys hy=>?_⟩
 ·simp![];refine(bt "abcd" 4 rfl (by decide)).use ?_;intro _ _;exact⟨⟨_,rfl⟩,rfl⟩
 rw[J0,Jz (h:=λ_=>jZ 4 0) (λ_ _ h=>h) hy];simp only[back,clr];simp![];refine zq [] (λ_ y=>y.2=jZ 2 0) ?_;simp![];refine⟨λd hd=>?_,λys hy=>?_⟩
 ·simp![];refine(bt "ab" 2 rfl (by decide)).use ?_;intro _ _;exact⟨⟨_,rfl⟩,rfl⟩
 rw[J0,Jz (h:=λ_=>jZ 2 0) (λ_ _ h=>h) hy];simp only[back,clr]
 by_cases h2:1<ss.length
 ·have g1:fGt (.int ss.length) (.int 1)=some (.bl true):=by rw[gt_ii];simp;lia
  simp![g1,rv,q6,ix,sl];exact hG _ (by rw[Xf h2])
 ·have g1:fGt (.int ss.length) (.int 1)=some (.bl false):=by rw[gt_ii];simp;lia
  simp![g1,q6,ix,sl];exact hG _ (by rw[Xj h2])
end Nk30
namespace Nk30
open Q PySem C Kp
def Bad(d:D):Prop:=d.flat 40=true/\Q5 d=false
theorem jxy{n:Nat}(ss:List Str):D.flats n (ss.map D.str)=true:=q9 λd hd=>by obtain⟨z,_,rfl⟩:=List.mem_map.mp hd;cases n<;>rfl
theorem wJ{a b:D}(ha:a.flat 39=true)(hb:b.flat 39=true):(D.tup [a,b]).flat 40=true:=q9 λd hd=>by
 simp only[Xr,Xk,or_false]at hd;rcases hd with rfl|rfl
 ·exact ha
 ·exact hb
theorem Qv{rs:List D}(h:∀r∈rs,Ps r):(D.lst rs).flat 39=true:=q9 λr hr=>Vj (h r hr)
theorem kjq(ss:List Str):(sL ss).flat 39=true:=jxy ss
theorem ZY{a:D}{l:List D}(ha:a.flat 38=true)(hl:D.flats 38 l=true):(D.lst (a::l)).flat 39=true:=by
 show D.flats 38 (a::l)=true;rw[D.flats,ha,hl];rfl
theorem VJ(n:Nat)(k:Int):Ps (jZ n k):=⟨k,false,_,rfl,λc hc=>by
 obtain⟨_,rfl⟩:=List.mem_replicate.mp hc;exact⟨_,rfl,λz hz=>.inl (List.mem_replicate.mp hz).2⟩⟩
theorem vzv{r:D}(h:Ps r):Ps (twD r):=by
 obtain⟨own,gd,st,rfl,bo⟩:=h;refine⟨own,gd,st++st.take 1,rfl,λc hc=>?_⟩;rcases List.mem_append.mp hc with z|z
 ·exact bo c z
 ·exact bo c (Yr z)
theorem KK{a b:D}(h:xK a=false):Q5 (.tup [a,b])=false:=by
 show(xK a&&wZ (wkw a) b)=false;rw[h];rfl
theorem VZ{ss:List Str}{b:D}(h:wZ ss.length b=false):Q5 (.tup [sL ss,b])=false:=by
 show(xK (sL ss)&&wZ (ss.map D.str).length b)=false;rw[X5,h,Bool.and_false]
theorem Z9{a:D}{l:List D}(h:xv a=false):xK (.lst (a::l))=false:=by
 show(decide (1<=(a::l).length)&&decide ((a::l).length<=3)&&(xv a&&l.all xv)&&decide (Kp.txs (a::l)=kX (ddS (Kp.txs (a::l)))))=false;rw[h];simp
theorem vx7(l:List Str):(ddS l).Nodup:=by
 have go:∀(l ae:List Str),ae.Nodup->(l.foldl (λl k=>if l.any (· == k)then l else l++[k]) ae).Nodup:=by
  intro l
  induction l with
  | nil=>exact λae h=>h
  | cons k l ih=>
   intro ae h;rw[List.foldl_cons];refine ih _ ?_
   split
   ·exact h
   ·rename_i hn;refine List.nodup_append.mpr ⟨h,by simp,λa ha b hb e=>hn (List.any_eq_true.mpr ⟨a,ha,?_⟩)⟩;rw[List.mem_singleton]at hb;rw[e,hb];exact beq_self_eq_true _
 exact go l [] Y1
theorem kvx{l:List D}{ts:List Str}(e:Kp.txs l=ts)(h:ts≠kX (ddS ts)):xK (.lst l)=false:=by
 show(decide (1<=l.length)&&decide (l.length<=3)&&l.all xv&&decide (Kp.txs l=kX (ddS (Kp.txs l))))=false;rw[e,Xb h,Bool.and_false]
theorem qww{n:Nat}{rs:List D}(h:(qq rs).getD 0 0≠0):wZ n (.lst rs)=false:=by
 show(decide (1<=rs.length)&&(decide (rs.length<=200)&&(rs.all x8&&(decide ((qq rs).getD 0 0=0)&&rs.all λr=>wq (qq rs) n (ivD (rk r)).toNat (rst r)))))=false;rw[Xb h];simp
theorem vjm{n:Nat}{rs:List D}(h:¬rs.length<=200):wZ n (.lst rs)=false:=by
 show(decide (1<=rs.length)&&(decide (rs.length<=200)&&(rs.all x8&&(decide ((qq rs).getD 0 0=0)&&rs.all λr=>wq (qq rs) n (ivD (rk r)).toNat (rst r)))))=false;rw[Xb h];simp
theorem qwu{ss:List Str}{rs:List D}(hr:∀r∈rs,Ps r)(hl:rs.length<=6)(h1:1<=ss.length)(h3:ss.length<=3)(hs:kX (ddS ss)=ss){way:Nat}(hw:way<18)(fl:D)
  (hfl:fl=if 1<ss.length then .tup [sL ss.reverse,.lst rs]else .tup [.lst [.str "b",.str "a"],.lst (rs.map λ_=>jZ 2 0)]):Bad ([.lst [sL ss,.lst rs],.tup [sL ss],.tup [sL ss,.lst rs,.lst []],.tup [.tup (ss.map D.str),.lst rs],.tup [.lst [],.lst rs],.tup [sL ss,.tup rs],.tup [sL ss,.lst []],.tup [sL ss,.lst [jZ ss.length 1]],.tup [.lst (.lst []::(ss.map D.str).drop 1),.lst rs],.tup [.lst (.str "A" :: (ss.map D.str).drop 1),.lst rs],.tup [.lst (.str "" :: (ss.map D.str).drop 1),.lst rs],.tup [.lst (.str "aaaaaaaaa" :: (ss.map D.str).drop 1),.lst rs],.tup [.lst (.int 7::(ss.map D.str).drop 1),.lst rs],.tup [.lst (ss.map D.str++(ss.map D.str).take 1),.lst (rs.map twD)],.tup [sL ss,.lst (rs++[jZ ss.length 7])],.tup [sL ss,.lst (rs++List.replicate (201 - rs.length) (jZ ss.length 0))],.tup [.lst [.str "a",.str "b",.str "c",.str "d"],.lst (rs.map λ_=>jZ 4 0)],fl].getD way .non):=by
 have fS:=kjq ss;have fR:=Qv hr;have fR8:D.flats 38 rs=true:=q9 λr jb=>Vj (hr r jb)
 have f1:∀l:List D,(∀d∈l,d.flat 39=true)->D.flats 39 l=true:=λl h=>q9 h
 have fd:D.flats 38 ((ss.map D.str).drop 1)=true:=by rw[<-List.map_drop];exact jxy _
 have nd:ss.Nodup:=by
  have:=(zx (ddS ss)).nodup_iff.mpr (vx7 ss)
  rwa [hs]at this
 have psm:∀(k:D),Ps k->∀r∈rs.map λ_=>k,Ps r:=λk hk r hr=>by obtain⟨_,_,rfl⟩:=List.mem_map.mp hr;exact hk
 match way,hw with
 | 0,_=>exact⟨f1 _ λd hd=>by simp only[Xr,Xk,or_false]at hd;rcases hd with rfl|rfl;exact fS;exact fR,rfl⟩
 | 1,_=>exact⟨f1 _ λd hd=>by simp only[Xr,Xk,or_false]at hd;rcases hd with rfl;exact fS,rfl⟩
 | 2,_=>exact⟨f1 _ λd hd=>by simp only[Xr,Xk,or_false]at hd;rcases hd with rfl|rfl|rfl;exact fS;exact fR;rfl,rfl⟩
 | 3,_=>exact⟨wJ (jxy (n:=38) ss) fR,rfl⟩
 | 4,_=>exact⟨wJ rfl fR,rfl⟩
 | 5,_=>exact⟨wJ fS fR8,VZ rfl⟩
 | 6,_=>exact⟨wJ fS rfl,VZ rfl⟩
 | 7,_=>exact⟨wJ fS (Qv λr hr=>by rw[List.mem_singleton.mp hr];exact VJ _ _),VZ (qww (show(1:Int)≠0 by decide))⟩
 | 8,_=>exact⟨wJ (ZY rfl fd) fR,KK (Z9 rfl)⟩
 | 9,_=>exact⟨wJ (ZY rfl fd) fR,KK (Z9 (by decide +kernel))⟩
 | 10,_=>exact⟨wJ (ZY rfl fd) fR,KK (Z9 (by decide +kernel))⟩
 | 11,_=>exact⟨wJ (ZY rfl fd) fR,KK (Z9 (by decide +kernel))⟩
 | 12,_=>exact⟨wJ (ZY rfl fd) fR,KK (Z9 rfl)⟩
 | 13,_=>
  refine⟨wJ ?_ (Qv λr jb=>by obtain⟨q,hq,rfl⟩:=List.mem_map.mp jb;exact vzv (hr q hq)),KK ?_⟩
  ·show D.flats 38 (ss.map D.str++(ss.map D.str).take 1)=true;rw[<-List.map_take,<-Yd];exact jxy _
  ·refine kvx (ts:=ss++ss.take 1) (by rw[<-List.map_take,<-Yd];exact kwl _) λe=>?_
   have:=(zx (ddS (ss++ss.take 1))).nodup_iff.mpr (vx7 _);rw[<-e]at this;cases ss with
   |nil=>exact absurd h1 (by decide)
   |cons z ss=>exact(List.nodup_append.mp this).2.2 z X3 z X3 rfl
 | 14,_=>exact⟨wJ fS (Qv λr jb=>(List.mem_append.mp jb).elim (hr r) λz=>by rw[List.mem_singleton.mp z];exact VJ _ _),VZ (kxu (lr9 _ X3) (.inl rfl))⟩
 | 15,_=>exact⟨wJ fS (Qv λr jb=>(List.mem_append.mp jb).elim (hr r) λz=>by rw[List.eq_of_mem_replicate z];exact VJ _ _),VZ (vjm (by rw[Xi,Xx];lia))⟩
 | 16,_=>exact⟨wJ rfl (Qv (psm _ (VJ _ _))),KK rfl⟩
 | 17,_=>
  show Bad fl;rw[hfl]
  split
  ·rename_i h2;refine⟨wJ (kjq _) fR,KK (kvx (kwl _) λe=>?_)⟩;have p:(ddS ss.reverse).Perm (ddS ss):=by
    rw[vka nd,vka ((List.reverse_perm ss).nodup_iff.mpr nd)];exact List.reverse_perm ss
   have e2:kX (ddS ss.reverse)=kX (ddS ss):=List.Perm.eq_of_pairwise (λa b _ _ h1 h2=>kqn h1 h2) WJ WJ ((zx _).trans (p.trans (zx _).symm));rw[e2,hs]at e;have g:ss.reverse[0]?=ss[0]?:=by rw[e]
   rw[List.getElem?_reverse (by lia),X1 (by lia),X1 (by lia)]at g;have:=(List.nodup_iff_pairwise_ne.mp nd |> List.pairwise_iff_getElem.mp) 0 (ss.length - 1 - 0) (by lia) (by lia) (by lia);exact this (oq9 g).symm
  ·exact⟨wJ rfl (Qv (psm _ (VJ _ _))),KK (by decide +kernel)⟩
 |n+18,h=>exact absurd h (by lia)
end Nk30
namespace Nk30
open Q PySem C Kp
def wqg(n:Nat)(r:D):Prop:=r.flat 38=true/\(x8 r=false\/∀ks,wq ks n (ivD (rk r)).toNat (rst r)=false)
theorem kv9{ks:List Int}{n m:Nat}{l:List D}(h:l.length≠n):wq ks n m (.lst l)=false:=by
 show(decide (l.length=n)&&l.all (x6 ks m))=false;rw[Xb h];rfl
theorem kj5{ks:List Int}{n m:Nat}{l:List D}{c:D}(hc:c∈l)(h:x6 ks m c=false):wq ks n m (.lst l)=false:=by
 show(decide (l.length=n)&&l.all (x6 ks m))=false;rw[List.all_eq_false.mpr ⟨c,hc,by rw[h];decide⟩,Bool.and_false]
theorem kjv{ks:List Int}{m:Nat}{cs:List D}(h:cs.length≠m+1):x6 ks m (.lst cs)=false:=by
 show(decide (cs.length=m+1)&&_)=false;rw[Xb h,Bool.false_and]
structure Rm (n:Nat)(own:Int)(st:List D):Prop where
 o0:0<=own
 o3:own<=3
 n1:1<=n
 n3:n<=3
 len:st.length=n
 cs:∀c∈st,∃es:List D,c=.lst es/\(es.length:Int)=own+1/\∀z∈es,z.flat 35=true
theorem Rm.fl{n:Nat}{own:Int}{st:List D}(h:Rm n own st):D.flats 36 st=true:=q9 λc hc=>by
 obtain⟨es,rfl,_,hz⟩:=h.cs c hc;exact q9 hz
theorem wq6{k:Nat}{l:List D}(h:∀d∈l,d.flat 37=true):(D.tup l).flat 38=true/\(D.lst l).flat 38=true:=⟨q9 h,q9 h⟩
theorem qv4{own:Int}{a b c:D}(ha:a.flat 37=true)(hb:b.flat 37=true)(hc:c.flat 37=true):(D.tup [a,b,c]).flat 38=true:=q9 λd hd=>by
 simp only[Xr,Xk,or_false]at hd;rcases hd with rfl|rfl|rfl
 ·exact ha
 ·exact hb
 ·exact hc
theorem qzu{n:Nat}{own:Int}{gd:Bool}{st:List D}(h:Rm n own st){way:Nat}(hw:way<17){x:Int}(hx:0<=x):Oo jqx [(.no,.tup [.int own,.bl gd,.lst st]),(.no,.int way),(.no,.int x)] (λy=>wqg n y.2) noX:=by
 have bo:=h.len;have h1:=h.n1;have h3:=h.n3;have o0:=h.o0;have o3:=h.o3;have ju:(D.lst st).flat 37=true:=h.fl;obtain⟨a,ha,ou⟩:∃a:Nat,x % (st.length:Int)=a/\a<st.length:=by
  have b1:=Xq x (show(st.length:Int)≠0 by lia);have b2:=Xl x (show 0<(st.length:Int)by lia);exact⟨(x % (st.length:Int)).toNat,by lia,by lia⟩
 obtain⟨es,hes,el,ef⟩:=h.cs st[a] (Y6 _);have s1:fSl (.no,.lst st) (some 1) none=some (.rt,.lst (st.drop 1)):=by rw[K3 (by decide),kj3 (by decide)];rfl
 have s2:fSl (.no,.lst st) none (some 1)=some (.rt,.lst (st.take 1)):=by rw[K3 (by decide),XW (by decide)];rfl
 have s3:fSl (.no,.lst st) none (some (a:Int))=some (.rt,.lst (st.take a)):=by rw[K3 (by decide),XW (by lia)];rfl
 have s4:fSl (.no,.lst st) (some ((a:Int)+1)) none=some (.rt,.lst (st.drop (a+1))):=by rw[K3 (by decide),kj3 (by lia)];rfl
 have s5:fSl (.no,.lst es) (some 1) none=some (.rt,.lst (es.drop 1)):=by rw[K3 (by decide),kj3 (by decide)];rfl
 have t1:=Zx (o:=.no) (xs:=st) (by decide);have t2:=Zx (o:=.no) (xs:=es) (by decide);have a1:j9 (.no,.lst st) (.no,.lst (st.take 1))=some (.rt,.lst (st++st.take 1)):=J4 (by decide) (by decide) (by rw[Y9];lia);have a2:j9 (.no,.lst es) (.no,.lst [.non])=some (.rt,.lst (es++[.non])):=J4 (by decide) (by decide) (by rw[Xs];lia);have a3:∀d:D,j9 (.no,.lst (st.take a)) (.no,.lst [d])=some (.rt,.lst (st.take a++[d])):=λd=>J4 (by decide) (by decide) (by rw[Y9,Xs];lia)
 have a4:∀d:D,j9 (.no,.lst (st.take a++[d])) (.no,.lst (st.drop (a+1)))=some (.rt,.lst (st.take a++[d]++st.drop (a+1))):=λd=>J4 (by decide) (by decide) (by rw[Xi,Y9,Xs,Ym];lia)
 have ixa:kJ (.lst st) (.int a)=some (.lst es):=by rw[<-hes];exact Q2 (by lia) (by rw[Xv,X1 ou])
 have q1:∀a1 a2 a3 a4 a5 b1 b2 b3:D,j9 (.rt,.lst [a1,a2,a3,a4,a5]) (.no,.lst [b1,b2,b3])=some (.rt,.lst [a1,a2,a3,a4,a5,b1,b2,b3]):=λ_ _ _ _ _ _ _ _=>rfl
 have q2:∀a1 a2 a3 a4 a5 a6 a7 a8 b1 b2 b3:D,j9 (.rt,.lst [a1,a2,a3,a4,a5,a6,a7,a8]) (.no,.lst [b1,b2,b3])=some (.rt,.lst [a1,a2,a3,a4,a5,a6,a7,a8,b1,b2,b3]):=λ_ _ _ _ _ _ _ _ _ _ _=>rfl
 have q3:∀a1 a2 a3 a4 a5 a6 a7 a8 a9 a10 a11 b1 b2:D,j9 (.rt,.lst [a1,a2,a3,a4,a5,a6,a7,a8,a9,a10,a11]) (.no,.lst [b1,b2])=some (.rt,.lst [a1,a2,a3,a4,a5,a6,a7,a8,a9,a10,a11,b1,b2]):=λ_ _ _ _ _ _ _ _ _ _ _ _ _=>rfl
 obtain⟨z,hz⟩:∃z:Str,vz2 (.int own)=some (.str z):=by
  rcases(show own=0\/own=1\/own=2\/own=3 by lia)with rfl|rfl|rfl|rfl<;>exact⟨_,rfl⟩
 obtain⟨g,hg⟩:∃g:Int,xJ (.bl gd)=some (.int g):=by cases gd;exact⟨_,rfl⟩;exact⟨_,rfl⟩
 have hm:kq (.int x) (.int st.length)=some (.int a):=by rw[mod_i (by lia),ha]
 unfold jqx;refine qK ?_;simp![s1,s2,t1,a1,q1,q2,q3,hz,hg,hm];refine Jv (λE j8=>∃(ae done:List D) (l8:Option Sd),E=[some (.no,.tup [.int own,.bl gd,.lst st]),some (.no,.int way),some (.no,.int x),some (.no,.int own),some (.no,.bl gd),some (.no,.lst st),some (.rt,.lst ae),some (.dp,.int a),l8]/\[.tup es,.lst (es++[.non]),.lst (es.drop 1),.non]=done++j8/\ae.length=13+done.length/\∀d∈ae,wqg n d) ?_ ?_ ?_
 ·simp![ixa,t2,a2,s5];refine⟨_,[],_,rfl,rfl,rfl,λd hd=>?_⟩;have f2:∀b c:D,b.flat 37=true->c.flat 37=true->∀e:D,e.flat 37=true->(D.tup [e,b,c]).flat 38=true:=λb c hb hc e he=>qv4 (own:=own) he hb hc
  have ce:∀m:Nat,es.length≠m+1->∀ks,wq ks n m (.lst st)=false:=λm hm ks=>kj5 (Y6 ou) (by rw[hes];exact kjv hm)
  have fsd:(D.lst (st.drop 1)).flat 37=true:=q9 λd hd=>V1 h.fl d (List.mem_of_mem_drop hd)
  have fsa:(D.lst (st++st.take 1)).flat 37=true:=q9 λd hd=>V1 h.fl d ((List.mem_append.mp hd).elim id Yr)
  simp only[Xr,Xk,or_false]at hd;rcases hd with rfl|rfl|rfl|rfl|rfl|rfl|rfl|rfl|rfl|rfl|rfl|rfl|rfl
  ·exact⟨q9 λd hd=>by
    simp only[Xr,Xk,or_false]at hd;rcases hd with rfl|rfl|rfl
    ·rfl
    ·rfl
    ·exact ju,.inl rfl⟩
  ·exact⟨rfl,.inl rfl⟩
  ·exact⟨q9 λd hd=>by
    simp only[Xr,Xk,or_false]at hd;rcases hd with rfl|rfl|rfl|rfl
    ·rfl
    ·rfl
    ·exact ju
    ·rfl,.inl rfl⟩
  ·exact⟨rfl,.inl rfl⟩
  ·exact⟨f2 _ _ rfl ju _ rfl,.inl rfl⟩
  ·exact⟨f2 _ _ rfl ju _ rfl,.inr λks=>ce (own+1).toNat (by lia) ks⟩
  ·refine⟨f2 _ _ rfl ju _ rfl,?_⟩
   by_cases h0:own=0
   ·subst h0;exact .inl rfl
   ·exact .inr λks=>ce (own - 1).toNat (by lia) ks
  ·exact⟨f2 _ _ rfl ju _ rfl,.inl rfl⟩
  ·exact⟨f2 _ _ rfl ju _ rfl,.inl (Bool.and_false _)⟩
  ·exact⟨f2 _ _ rfl ju _ rfl,.inl (Bool.and_false _)⟩
  ·exact⟨f2 _ _ rfl ju _ rfl,.inr λ_=>rfl⟩
  ·exact⟨f2 _ _ rfl fsd _ rfl,.inr λks=>kv9 (by rw[Ym];lia)⟩
  ·exact⟨f2 _ _ rfl fsa _ rfl,.inr λks=>kv9 (by rw[Xi,Y9];lia)⟩
 ·rintro E d ds ⟨ae,done,l8,rfl,hd,gh,hb⟩;have dl:done.length<=4:=by have:=congrArg List.length hd;simp at this;lia
  simp![];refine VX rfl ?_;simp![s3,s4,a3,a4];refine⟨_,rfl,by lia,ae++[_],done++[d],_,rfl,by rw[hd];simp,by simp;lia,λr hr=>?_⟩;rcases List.mem_append.mp hr with hr|hr
  ·exact hb r hr
  rw[List.mem_singleton.mp hr];have gi:d=.tup es\/d=.lst (es++[.non])\/d=.lst (es.drop 1)\/d=.non:=by
   have:d∈[D.tup es,.lst (es++[.non]),.lst (es.drop 1),.non]:=by rw[hd];simp
   simpa using this
  have fes:D.flats 35 es=true:=q9 ef;have fd:d.flat 36=true/\∀ks,x6 ks own.toNat d=false:=by
   rcases gi with rfl|rfl|rfl|rfl
   ·exact⟨fes,λ_=>rfl⟩
   ·exact⟨q9 λz hz=>(List.mem_append.mp hz).elim (ef z) λq=>by rw[List.mem_singleton.mp q];rfl,λ_=>kjv (by rw[Xi,Xs];lia)⟩
   ·exact⟨q9 λz hz=>ef z (List.mem_of_mem_drop hz),λ_=>kjv (by rw[Ym];lia)⟩
   ·exact⟨rfl,λ_=>rfl⟩
  refine⟨qv4 (own:=own) rfl rfl (q9 λc hc=>?_),.inr λks=>kj5 (c:=d) (by simp) (fd.2 ks)⟩;rcases List.mem_append.mp hc with hc|hc
  ·rcases List.mem_append.mp hc with hc|hc
   ·exact V1 h.fl c (Yr hc)
   ·rw[List.mem_singleton.mp hc];exact fd.1
  ·exact V1 h.fl c (List.mem_of_mem_drop hc)
 ·rintro E ⟨ae,done,l8,rfl,hd,gh,hb⟩;have dl:done.length=4:=by have:=congrArg List.length hd;simp at this;lia
  have ix:kJ (.lst ae) (.int way)=some (ae.getD way .non):=qx3 ae way (by lia) (by lia);simp![ix];rw[X7,X1 (by lia)];exact hb _ (Y6 _)
end Nk30
namespace Nk30
open Q PySem C Kp
structure BadC (ks:List Int)(e:Int)(d:D):Prop where
 fl:d.flat 35=true
 no:vz ks e d=false
 un:∀es:List D,(∃z l,es=z::l/\(z=.non\/∃t,z=.tup t))->Vq es d=true
theorem vz6{d:D}(h:d.pure=true)(es:List D)(h2:Vq es d=d.pure):Vq es d=true:=h2.trans h
theorem qxy{ks:List Int}{e i:Int}{b:D}(h:¬(0<=i/\i<ks.length)):vz ks e (.tup [.int i,b])=false:=by
 show(false||((decide (0<=i)&&decide (i<(ks.length:Int)))&&_))=false;rw[<-Bool.decide_and,Xb h];rfl
theorem KZ{ks:List Int}{e:Int}{a b:D}(h:Qw e (ks.getD (ivD a).toNat 0) b=false):vz ks e (.tup [a,b])=false:=by
 show(false||(vq a ks.length&&Qw e (ks.getD (ivD a).toNat 0) b))=false;rw[h,Bool.and_false];rfl
theorem W5{e m:Int}{a b:D}(h:vq a e=false):Qw e m (.tup [a,b])=false:=by
 show(decide _&&((vq a e&&(vq b e&&true))&&_))=false;rw[h,Bool.false_and,Bool.false_and,Bool.and_false]
theorem qjd{rs:List D}{ks:List Int}{own:Int}{gl:Bool}{way:Int}(hl:rs.length=ks.length)(h1:2<=ks.length)(hk:ks.length<=10)(h0:ks.getD 0 0=0)(h2:ks.getD (ks.length - 1) 0=2)(o0:0<=own)(hw:0<=way):
  Oo jko [(.no,.lst rs),(.no,.int own),(.no,.bl gl),(.no,.int way)] (λy=>BadC ks (own+if gl=true then 1 else 0) y.2) noX:=by
 have n1:vx1 (.int 1)=some (.int (-1)):=rfl;have fi:xJ (.bl gl)=some (.int (if gl=true then 1 else 0)):=by cases gl<;>rfl
 have e0:∃i:Int,i=own+(if gl=true then 1 else 0):=⟨_,rfl⟩;obtain⟨e,he⟩:=e0;rw [<-he];unfold jko;refine qK ?_;simp![n1,fi];rw [<-he];refine Jv (λE j8=>∃(ae done:List D) (l7:Option Sd),E=[some (.no,.lst rs),some (.no,.int own),some (.no,.bl gl),some (.no,.int way),some (.no,.int rs.length),some (.rt,.lst ae),some (.no,.int e),l7]/\[.tup [.int 0,.int 0],.tup [.int e,.int 0],.tup [.int (-1),.int 0],.tup [.non,.int 0],.tup [.str "new",.int 0],.tup [.bl false,.int 1],.tup [.lst [],.int 0]]=done++j8/\ae.length=12+done.length/\∀d∈ae,BadC ks e d) ?_ ?_ ?_
 ·simp![n1];refine⟨_,[],_,rfl,rfl,rfl,λd hd=>?_⟩;simp only[Xr,Xk,or_false]at hd;rcases hd with rfl|rfl|rfl|rfl|rfl|rfl|rfl|rfl|rfl|rfl|rfl|rfl
  ·exact⟨rfl,rfl,λes ⟨z,l,e,h⟩=>by subst e;rcases h with rfl|⟨t,rfl⟩<;>rfl⟩
  ·exact⟨rfl,rfl,λes ⟨z,l,e,h⟩=>by subst e;show decide (0<l.length+1)=true;simp⟩
  ·exact⟨rfl,rfl,λes _=>rfl⟩
  ·exact⟨rfl,rfl,λes _=>rfl⟩
  ·exact⟨rfl,rfl,λes _=>rfl⟩
  ·exact⟨rfl,qxy (by lia),λes _=>rfl⟩
  ·exact⟨rfl,qxy (by lia),λes _=>rfl⟩
  ·exact⟨rfl,rfl,λes _=>rfl⟩
  ·exact⟨rfl,rfl,λes _=>rfl⟩
  ·exact⟨rfl,KZ rfl,λes ⟨z,l,e,h⟩=>by subst e;show(true&&decide (0<l.length+1))=true;simp⟩
  ·exact⟨rfl,KZ (by
    rw[show ks.getD (ivD (.int 0)).toNat 0=0 from h0];rfl),λes _=>rfl⟩
  ·exact⟨rfl,rfl,λes _=>rfl⟩
 ·rintro E d ds ⟨ae,done,l7,rfl,hd,gh,hb⟩;have dl:done.length<=7:=by have:=congrArg List.length hd;simp at this;lia
  simp![];refine VX rfl ?_;simp![];refine⟨_,rfl,by lia,ae++[_],done++[d],_,rfl,by rw[hd];simp,by simp;lia,λr hr=>?_⟩;rcases List.mem_append.mp hr with hr|hr
  ·exact hb r hr
  rw[List.mem_singleton.mp hr];have gi:d∈[D.tup [.int 0,.int 0],.tup [.int e,.int 0],.tup [.int (-1),.int 0],.tup [.non,.int 0],.tup [.str "new",.int 0],.tup [.bl false,.int 1],.tup [.lst [],.int 0]]:=by rw[hd];simp
  simp only[Xr,Xk,or_false]at gi;rcases gi with rfl|rfl|rfl|rfl|rfl|rfl|rfl
  ·refine⟨rfl,KZ ?_,λes _=>rfl⟩;rw[show ks.getD (ivD (.int ((rs.length:Int) - 1))).toNat 0=2 by rw[<-h2];show ks.getD ((rs.length:Int) - 1).toNat 0=_;congr 1;lia];show(decide (((2:Nat):Int)=2)&&(_&&decide (((1:Nat):Int)=2)))=false;rw[show decide (((1:Nat):Int)=2)=false by decide,Bool.and_false,Bool.and_false]
  ·exact⟨rfl,KZ (W5 (by show(decide (0<=e)&&decide (e<e))=false;rw[Xb (Int.lt_irrefl e),Bool.and_false])),λes _=>rfl⟩
  ·exact⟨rfl,KZ (W5 rfl),λes _=>rfl⟩
  ·exact⟨rfl,KZ (W5 rfl),λes _=>rfl⟩
  ·exact⟨rfl,KZ (W5 rfl),λes _=>rfl⟩
  ·exact⟨rfl,KZ (W5 rfl),λes _=>rfl⟩
  ·exact⟨rfl,KZ (W5 rfl),λes ⟨z,l,e,h⟩=>by subst e;show(true&&true&&decide (0<l.length+1))=true;simp⟩
 ·rintro E ⟨ae,done,l7,rfl,hd,gh,hb⟩;have dl:done.length=7:=by have:=congrArg List.length hd;simp at this;lia
  have hm:kq (.int way) (.int ae.length)=some (.int (way % ae.length)):=mod_i (by lia);have w0:=Xq way (show(ae.length:Int)≠0 by lia);have w1:=Xl way (show 0<(ae.length:Int)by lia);have ix:kJ (.lst ae) (.int (way % ae.length))=some (ae.getD (way % ae.length).toNat .non):=qx3 ae _ w0 w1;simp![hm,ix];rw[X7,X1 (by lia)];exact hb _ (Y6 _)
end Nk30
namespace Nk30
open Q PySem C Kp
theorem qxb:m__law_digits=C.m__law_digits:=rfl
theorem kzp{α:Type}{m:Option (Res α)}{P:En->α->Prop}(h:Eo m P noX):∃E a,m=some (.ok E a)/\P E a:=by
 unfold Eo at h;cases m with
 |none=>exact h.elim
 |some r=>cases r with
  |ok E a=>exact⟨E,a,rfl,h⟩
  |exc E c=>exact h.elim
theorem vw5{f:Fn}{xs:List Sd}{P:Sd->Prop}(h:Oo f xs P noX):∃E y,f xs=some (.ok E y)/\P y:=by
 unfold Oo at h;cases hf:f xs with
 |none=>rw[hf]at h;exact h.elim
 |some r=>cases r with
  |ok E a=>rw[hf]at h;exact⟨E,a,rfl,h⟩
  |exc E c=>rw[hf]at h;exact h.elim
theorem qzm{i j:Nat}{c:Ex}{E:En}{N Cc:En->Prop}{R:Sd->Prop}{X:XP}(h:Eo (c E) (λE x=>∃a b,x=(.dp,.tup [a,b])/\N ((E.set i (some (.no,a))).set j (some (.dp,b)))) X):Po (qwi i j c E) N Cc R X:=by
 unfold qwi;rw[Q6];refine h.mono ?_;rintro E x ⟨a,b,rfl,h⟩;dsimp only;rw[vj9];exact h
theorem vqk{i:Nat}{s:Sm}{E:En}{ds:List D}{N Cc:En->Prop}{R:Sd->Prop}{X:XP}(h0:E[i]?=some (some (.dp,.lst ds)))(h:Po (s (E.set i (some (.rt,.lst ds)))) N Cc R X):Po (vxt i s E) N Cc R X:=by
 unfold vxt vxv;rw[h0];exact h
theorem wk1{i jc ik ir:Nat}{ct ck cb:Ex}{f:Fn}{cs:List Ex}{E:En}{N Cc:En->Prop}{R:Sd->Prop}{X:XP}{rs st es:List D}{o:Own}{r t n:Nat}{d0 d1:D}{kn:Int}
  (h1:E[i]?=some (some (.dp,.lst rs))) (h2:E[ir]?=some (some (o,.int r))) (h3:Eo (ct E) (λ_ x=>x.2=.int t) noX) (h4:rs[r]?=some (.tup [d0,d1,.lst st])) (h5:st[t]?=some (.lst es))
  (h6:Eo (ck (((E.set jc none).set i none).set jc (some (.no,.lst es)))) (λ_ x=>x.2=.int kn) noX) (h7:ixN es.length kn=some n) (gw:rs.length<big) (hj:jc<E.length) (hk:ik<E.length)
  (h8:Eo (cb ((E.set jc none).set ik (some (.dp,.int kn)))) (λ_ x=>∃db,x=(.dp,db)/\Eo (qY cs (((E.set jc none).set ik (some (.dp,.int kn))).set i (some (.dp,.lst (rs++[db]))))) (λ_ ys=>(ys.all λy=>y.2.pure)=true/\Oo f ((.no,.lst (rs++[db]))::letAll ys) (λy=>Vq es y.2=true/\JY (((E.set jc none).set ik (some (.dp,.int kn))).set i none)=true /\
   N (((E.set jc none).set ik (some (.dp,.int kn))).set i (some (.no,.lst (rs.set r (.tup [d0,d1,.lst (st.set t (.lst (es.set n y.2)))])++[db]))))) noX) noX) noX):Po (sAl i jc ik ir ct ck cb f cs E) N Cc R X:=by
 obtain⟨E1,⟨o1,x1⟩,e1,rfl⟩:=kzp h3;obtain⟨E2,⟨o2,x2⟩,e2,rfl⟩:=kzp h6;obtain⟨E3,x3,e3,db,rfl,h8⟩:=kzp h8;obtain⟨E4,ys,e4,hp,h9⟩:=kzp h8;obtain⟨E5,⟨o5,dv⟩,e5,hu,hc,hN⟩:=vw5 h9;unfold sAl;rw[h1,h2];dsimp only[Int.ofNat_eq_natCast];rw[e1];dsimp only;rw[h4];dsimp only;rw[h5];dsimp only;rw[e2];dsimp only;rw[e3];dsimp only;rw[e4];dsimp only;rw[e5];dsimp only;rw[h7];dsimp only;rw[Xf ⟨hp,gw,hc,hu,hj,hk⟩,vj9];exact hN
end Nk30
namespace Nk30
open Q PySem C Kp
theorem qxa{f:Fn}{cs:List Ex}{E:En}{X:XP}{P:En->Sd->Prop}:Eo (kwc f cs E) P X=Eo (qY cs E) (λE xs=>Oo f (letAll xs) (λy=>y.1=.dp/\P E y) X) X:=by
 unfold kwc;rw [kQ]
 congr 1
 funext E xs;unfold Oo;cases hf:f (letAll xs)with
 | none=>exact qvc
 | some r=>
  cases r with
  | ok E' y=>
   dsimp only
   split
   ·rename_i h;rw[WY];simp[h]
   ·rename_i h;rw[qvc];simp[h]
  |exc E' c=>exact vx3
theorem qzk{f:Fn}{cs:List Ex}{e:Option Sd}{E:En}{X:XP}{P:En->Sd->Prop}:Eo (kwc f cs (e::E)) P X=Eo (qY cs (e::E)) (λE xs=>Oe f (letAll xs) E (λE y=>y.1=.dp/\P E y) X) X:=by with_unfolding_all exact qxa
theorem qvg{ac:List Int}{b:Int}{z:D}(h:Cs ac b z):z.flat 35=true:=by
 rcases h with rfl|⟨to,fs,rfl,_⟩
 ·rfl
 ·refine q9 (n:=34) λd hd=>?_
  simp only[Xr,Xk,or_false]at hd;rcases hd with rfl|rfl
  ·rfl
  ·exact q9 (n:=33) λk hk=>by obtain⟨w,_,rfl⟩:=List.mem_map.mp hk;rfl
theorem qk8{n:Nat}{rs:List D}{ks:List Int}{r:D}(hr:r∈rs)(hk:qq rs=ks)(h:wq ks n (ivD (rk r)).toNat (rst r)=false):wZ n (.lst rs)=false:=by
 show(decide (1<=rs.length)&&(decide (rs.length<=200)&&(rs.all x8&&(decide ((qq rs).getD 0 0=0)&&rs.all λr=>wq (qq rs) n (ivD (rk r)).toNat (rst r)))))=false;rw[hk,show(rs.all λr=>wq ks n (ivD (rk r)).toNat (rst r))=false from List.all_eq_false.mpr ⟨r,hr,by rw[h];decide⟩];simp
theorem qxd{ks:List Int}{own n:Nat}{es:List D}{d:D}(hl:es.length=own+1)(hn:n<es.length)(h:vz ks ((own:Int)+if n=own then 1 else 0) d=false):x6 ks own (.lst (es.set n d))=false:=by
 show(decide ((es.set n d).length=own+1)&&(((es.set n d).take own).all (vz ks own)&&vz ks ((own:Int)+1) ((es.set n d).getD own .non)))=false
 by_cases d9:n=own
 ·subst d9;rw[Xf rfl]at h;rw[X7,Ye hn,Option.getD_some,h,Bool.and_false,Bool.and_false]
 ·rw[Xj d9,Int.add_zero]at h;rw[List.all_eq_false.mpr ⟨d,?_,by rw[h];decide⟩,Bool.false_and,Bool.and_false];rw[List.mem_take_iff_getElem];exact⟨n,by rw[Yx];lia,by rw[List.getElem_set_self]⟩
theorem qj1{ss:List Str}{rs:List D}{ac:List Int}(h1:1<=ss.length)(h3:ss.length<=3)(hs:kX (ddS ss)=ss)(k0:ac[0]?=some 0)(k6:ac.length<=6)(hk:∀p∈ac,0<=p/\p<=3)(hp:Prs ac ss.length rs)(x:Int):
  Oo jkn [(.no,v9 ss rs),(.no,.int x)] (λy=>Bad y.2) noX:=by
 have k1:1<=ac.length:=(List.getElem?_eq_some_iff.mp k0).1;have ie:=hp.ps;have hrl:rs.length=ac.length:=hp.1;have hq:∀(own:Int) (gd:Bool) (st:List D),D.tup [.int own,.bl gd,.lst st]∈rs->st.length<=3:=λown gd st hm=>by
  obtain⟨i,hi,_,gd',fu,e,hl,_⟩:=Prs.at hp hm;cases e;lia
 unfold jkn;refine qK ?_;rw [qxb];simp![];refine(jz1 x [54,60,6,420] (by decide) (by decide)).via ?_;rintro _ ⟨ds,rfl,hd⟩;obtain⟨wy,r,s,k,rfl,w0,w1,r0,r1,s0,s1,kk0,kk1⟩:=wjp hd;obtain⟨w,rfl⟩:=Int.eq_ofNat_of_zero_le w0
 by_cases hw:w<18
 ·have lt:fLt (.int w) (.int 18)=some (.bl true):=by rw[lt_ii,X6 (by lia)]
  simp![lt];refine(qwt ie hq (by lia) h1 h3 hw Bad λfl hfl=>qwu ie (by lia) h1 h3 hs hw fl hfl).via ?_;intro y hy;simp![];exact hy
 have lt:fLt (.int w) (.int 18)=some (.bl false):=by rw[lt_ii,Xb (by lia)]
 simp![lt];refine qzm ?_;simp![];refine(kju (ss:=ss) ie (by lia)).use ?_;intro _ _;refine⟨_,_,rfl,?_⟩;obtain⟨rr,hr,jb⟩:∃a:Nat,r % (rs.length:Int)=a/\a<rs.length:=by
  have b1:=Xq r (show(rs.length:Int)≠0 by lia);have b2:=Xl r (show 0<(rs.length:Int)by lia);exact⟨(r % (rs.length:Int)).toNat,by lia,by lia⟩
 have hm:kq (.int r) (.int rs.length)=some (.int rr):=by rw[mod_i (by lia),hr]
 obtain⟨ay,er,gd,st,rfl,bo,fv⟩:=hp.2 rr (by lia);have o0:0<=ac.getD rr 0/\ac.getD rr 0<=3:=by
  rw[X7,X1 (by lia)];exact hk _ (Y6 _)
 have kw:qq rs=ac:=qz0 hp;generalize kr:ac.getD rr 0=own at er o0 fv;have ixr:kJ (.lst rs) (.int rr)=some (.tup [.int own,.bl gd,.lst st]):=Q2 (by lia) (by rw[Xv];exact er);have ixn:ixN rs.length rr=some rr:=by unfold ixN;rw[Xf (by lia),Xf (by lia),Xv]
 by_cases hw2:w<35
 ·have lt2:fLt (.int w) (.int 35)=some (.bl true):=by rw[lt_ii,X6 (by lia)]
  simp![hm,lt2];refine vqk rfl ?_;refine vvb ?_;simp![ixr];rw[show(w:Int) - 18=((w - 18:Nat):Int)by lia];refine(qzu (n:=ss.length) (own:=own) (gd:=gd) (st:=st) ⟨o0.1,o0.2,h1,h3,bo,λc hc=>?_⟩ (way:=w - 18) (by lia) s0).via ?_
  ·obtain⟨es,rfl,e1,e2⟩:=fv c hc;refine⟨es,rfl,e1,λz hz=>?_⟩;obtain⟨i,hi,rfl⟩:=Yo hz;obtain⟨z,e3,hz⟩:=e2 i hi;rw[X1 hi]at e3;cases e3;exact qvg hz
  intro y hy;simp![];refine⟨rfl,?_⟩;refine⟨_,_,_,rr,rfl,by decide,rfl,ixn,?_⟩;simp![];refine⟨wJ (kjq ss) (q9 λd hd=>?_),VZ (kxu (r:=y.2) (List.mem_set jb _) hy.2)⟩;rcases Y4 hd with z|z
  ·exact Vj (ie d z)
  ·rw[z];exact hy.1
 have lt2:fLt (.int w) (.int 35)=some (.bl false):=by rw[lt_ii,Xb (by lia)]
 simp![hm,lt2];obtain⟨t,ht,ht2⟩:∃a:Nat,s % (ss.length:Int)=a/\a<ss.length:=by
  have b1:=Xq s (show(ss.length:Int)≠0 by lia);have b2:=Xl s (show 0<(ss.length:Int)by lia);exact⟨(s % (ss.length:Int)).toNat,by lia,by lia⟩
 obtain⟨es,hes,el,ez⟩:=fv (st[t]'(by lia)) (Y6 _);have e5:st[t]?=some (.lst es):=by rw[X1 (by lia),hes]
 obtain⟨n,hn,la⟩:∃a:Nat,k % (es.length:Int)=a/\a<es.length:=by
  have b1:=Xq k (show(es.length:Int)≠0 by lia);have b2:=Xl k (show 0<(es.length:Int)by lia);exact⟨(k % (es.length:Int)).toNat,by lia,by lia⟩
 have sl:(ss.map D.str).length=ss.length:=X5 _;have m1:kq (.int s) (.int ss.length)=some (.int t):=by rw[mod_i (by lia),ht]
 have m2:kq (.int k) (.int es.length)=some (.int n):=by rw[mod_i (by lia),hn]
 refine wk1 (rs:=rs) (st:=st) (es:=es) (r:=rr) (t:=t) (n:=n) (kn:=n) (d0:=.int own) (d1:=.bl gd) rfl rfl ?_ er e5 ?_ (by unfold ixN;rw[Xf (by lia),Xf (by lia),Xv]) (by unfold big;lia) (show 8<9 by decide) (show 5<9 by decide) ?_
 ·simp![m1,sl]
 ·simp only[List.set_cons_zero,List.set_cons_succ];simp![m2]
 simp only[List.set_cons_zero,List.set_cons_succ];rw [qzk];simp![];have hb:=kqy (k:=2) (ds:=ss.map D.str) (s:=sL ss) (by decide) (by decide) (.inl rfl);rw [sl]at hb;refine hb.use ?_;intro _ _;refine⟨rfl,_,rfl,?_⟩;have jz:∀(a b c:D),kJ (.tup [a,b,c]) (.int 0)=some a:=λ_ _ _=>rfl
 have ix2:kJ (.lst (rs++[jZ ss.length 2])) (.int rr)=some (.tup [.int own,.bl gd,.lst st]):=Q2 (by lia) (by rw[Xv,Xw jb];exact er);have e6:fEq (.int n) (.int own)=some (.bl (n==own)):=K1;simp![ix2,jz,e6];refine⟨rfl,(qjd (ks:=ac++[2]) (by simp;lia) (by simp;lia) (by simp;lia) ?_ ?_ o0.1 (by lia)).mono ?_⟩
 ·rw[X7,Xw k1,k0];rfl
 ·rw[X7,Xi,Xs,Nat.add_sub_cancel,Yc (Xd _),Nat.sub_self];rfl
 intro y hb;have e0:∃z l,es=z::l/\(z=.non\/∃t,z=.tup t):=by
  cases es with
  | nil=>exact absurd la (Nat.not_lt_zero _)
  | cons z l=>
   obtain⟨z',e,hz⟩:=ez 0 (by simp);cases oq9 e;exact⟨z,l,rfl,hz.imp id λ⟨to,fs,h,_⟩=>⟨_,h⟩⟩
 have hko:(qq (rs.set rr (.tup [.int own,.bl gd,.lst (st.set t (.lst (es.set n y.2)))])++[jZ ss.length 2]))=ac++[2]:=by
  have e7:ac.set rr own=ac:=by
   rw[<-kr,X7,X1 (by lia)];exact List.set_getElem_self _
  unfold qq at kw ⊢;rw[Yd,List.map_set,kw];show ac.set rr own++[2]=_;rw[e7]
 have ho:((own.toNat:Nat):Int)=own:=by lia
 have hcn:x6 (ac++[2]) own.toNat (.lst (es.set n y.2))=false:=by
  refine qxd (by lia) la ?_;have:=hb.no;rw[ho]
  by_cases d9:n=own.toNat
  ·rw[Xf d9];rw[Xf (show((n:Int)==own)=true from beq_iff_eq.mpr (by lia))]at this;exact this
  ·rw[Xj d9];rw[Xj (show ¬((n:Int)==own)=true from λz=>d9 (by have:=eq_of_beq z;lia))]at this;exact this
 have hmem:D.tup [.int own,.bl gd,.lst (st.set t (.lst (es.set n y.2)))]∈rs.set rr (.tup [.int own,.bl gd,.lst (st.set t (.lst (es.set n y.2)))])++[jZ ss.length 2]:=ll9 _ (List.mem_set jb _);refine⟨hb.un es e0,rfl,wJ (kjq ss) (q9 λd hd=>?_),VZ (qk8 hmem hko (kj5 (List.mem_set (by lia) _) hcn))⟩;have fcs:∀z∈es,z.flat 35=true:=λz hz=>by
  obtain⟨i,hi,rfl⟩:=Yo hz;obtain⟨z,e3,hz⟩:=ez i hi;rw[X1 hi]at e3;cases e3;exact qvg hz
 rcases List.mem_append.mp hd with hd|hd
 ·rcases Y4 hd with z|z
  ·exact Vj (ie d z)
  ·rw[z];refine qv4 (own:=own) rfl rfl (q9 λc hc=>?_);rcases Y4 hc with q|q
   ·have:=Kk (Vj (ie _ (List.mem_of_getElem? er))) (.lst st) (by simp);exact WQ this c q
   ·rw[q];refine q9 λz hz=>?_
    rcases Y4 hz with p|p
    ·exact fcs z p
    ·rw[p];exact hb.fl
 ·rw[List.mem_singleton.mp hd];exact Vj (VJ _ _)
end Nk30
namespace Nk30
open Q PySem C Kp
theorem qwa:Oo J3 [(.no,.dct []),(.no,.bl false)] (λy=>∃o':Own,y=(o',.bl true)/\True) noX:=by
 unfold J3;refine qK ?_;rw[wq7];simp![];have i0:z9 "tuple" (.dct [])=some (.bl false):=rfl;have h:Is Kp.m_is_tuple_of [(.no,.dct []),(.no,.int 2)] false:=by
  unfold Kp.m_is_tuple_of;refine qK ?_;simp![i0];exact⟨_,rfl,trivial⟩
 have h2:Is Kp.m_is_plain [(.no,.dct [])] false:=by
  unfold Kp.m_is_plain;refine qK ?_;simp![];refine h.use ?_;intro _ _;simp![];exact⟨_,rfl,trivial⟩
 refine h2.use ?_;intro _ _;have i1:k8 "bool" (.bl false)=some (.bl true):=rfl;have i2:fEq (.bl false) (.bl false)=some (.bl true):=rfl;simp![i1,i2];exact⟨_,rfl,trivial⟩
theorem qwb{d:D}(h:d∈[D.non,.int 0,.str "",.tup [],.lst [],.dct []]):Oo J3 [(.no,d),(.no,.bl false)] (λy=>∃o':Own,y=(o',.bl true)/\True) noX:=by
 simp only[Xr,Xk,or_false]at h;rcases h with rfl|rfl|rfl|rfl|rfl|rfl
 ·exact Kw (k:=5) rfl rfl
 ·exact Kw (k:=5) rfl rfl
 ·exact Kw (k:=5) rfl rfl
 ·exact Kw (k:=5) rfl rfl
 ·exact Kw (k:=5) rfl rfl
 ·exact qwa
theorem vwh(ns:List Int):Oo m_law [(.no,iL ns)] (λy=>y.2=.bl true) noX:=by
 unfold m_law;simp only[vx5,vk6,vk7];refine qK ?_;simp![];refine(kjs ns 0 (by decide) (by decide)).use ?_;rintro x0 ⟨x00,_⟩;simp![];refine(kjs ns 1 (by decide) (by decide)).use ?_;rintro x1 ⟨x10,_⟩;have m0:=Xq x1 (show(3:Int)≠0 by decide);have m1:=Xl x1 (show(0:Int)<3 by decide);simp![mod_i (a:=x1) (b:=3) (by decide)];refine(qwg x0 (1+x1 % 3) x00 (by lia) (by lia)).use ?_;rintro ss ⟨sl,sg,so⟩;have h1:1<=ss.length:=by lia
 have h3:ss.length<=3:=by lia
 simp![];refine(qwn kjs ns 5 ss (by decide) (by decide) h1 h3).via ?_;rintro _ ⟨rs,bf,rfl,ac,k1,k6,k0,hk,hp,_⟩;have hrl:rs.length=ac.length:=hp.1;have ie:=hp.ps;have bn:Q5 (v9 ss rs)=true:=by
  show(xK (sL ss)&&wZ (ss.map D.str).length (.lst rs))=true;rw[X5,qk5 h1 h3 sg so];have:=qk9 (more:=[]) hp k0 hk (λ_ h=>nomatch h) (by simp;lia);rw[List.map_nil,Y0]at this;rw[this];rfl
 simp![qz1,qx2];refine(kjs ns 2 (by decide) (by decide)).use ?_;rintro x2 ⟨x20,_⟩;have b1:=Xq x2 (show(200 - (rs.length:Int))≠0 by lia);have b2:=Xl x2 (show(0:Int)<200 - (rs.length:Int)by lia);simp![qx2,mod_i (a:=x2) (b:=200 - (rs.length:Int)) (by lia)];refine(kju (ss:=ss) ie (by lia)).use ?_;intro _ _;simp![];refine(Kw (k:=40)  (jzh (ss:=ss) ie) bn).use ?_;intro _ _;simp![];refine(kjs ns 3 (by decide) (by decide)).use ?_;rintro x3 ⟨x30,_⟩;simp![];refine(qj1 h1 h3 so k0 k6 hk hp x3).via ?_;rintro ⟨o5,d5⟩ ⟨hf,hbad⟩;simp![];refine(Kw (k:=40)  hf hbad).use ?_;intro _ _;simp![kze (o:=.no) (xs:=ss.map D.str) (by decide)];refine(kju (ss:=ss) ie (by lia)).use ?_;intro _ _;have lb:(ss.map D.str).length=ss.length:=X5 _;have bl:∀k:Int,0<=k->k<=7->Oo xz [(.no,.int k),(.no,.lst (ss.map D.str))] (λy=>∃_:Unit,y=(.dp,jZ ss.length k)/\True) noX:=λk h0 h7=>by
  have:=kqy (ds:=ss.map D.str) (s:=.lst (ss.map D.str)) h0 h7 (.inl rfl)
  rwa [lb]at this
 simp![qx2];refine(bl 6 (by decide) (by decide)).use ?_;intro _ _;obtain⟨m,hm⟩:=Int.eq_ofNat_of_zero_le b1;have a1:∀o:Own,o≠.dp->j9 (o,.lst rs) (.no,.lst [jZ ss.length 6])=some (.rt,.lst (rs++[jZ ss.length 6])):=λo ho=>J4 ho (by decide) (by rw[Xs];lia)
 simp![a1];refine(bl 0 (by decide) (by decide)).use ?_;intro _ _;have m2:xk (.no,.lst [jZ ss.length 0]) (.no,.int (1+x2 % (200 - (rs.length:Int)) - 1))=some (.rt,.lst (List.replicate m (jZ ss.length 0))):=by
  rw[hm,qq7 (by decide) (by lia) (by lia) rfl,show(1+(m:Int) - 1).toNat=m by lia];clear hm
  congr 2
  show D.lst _=_
  congr 1
  induction m with
  |zero=>rfl
  |succ n ih=>rw[List.replicate_succ,Yh,ih];rfl
 have a2:j9 (.no,.lst (rs++[jZ ss.length 6])) (.no,.lst (List.replicate m (jZ ss.length 0)))=some (.rt,.lst (rs++[jZ ss.length 6]++List.replicate m (jZ ss.length 0))):=J4 (by decide) (by decide) (by rw[Xi,Xs,Xx];lia);simp![m2,a2];have hg:rs++[jZ ss.length 6]++List.replicate m (jZ ss.length 0)=rs++((6:Int)::List.replicate m 0).map (jZ ss.length):=by
  rw[List.map_cons,List.map_replicate,Xm];rfl
 rw[hg];have hpg:Q5 (.tup [sL ss,.lst (rs++((6:Int)::List.replicate m 0).map (jZ ss.length))])=true:=by
  show(xK (sL ss)&&wZ (ss.map D.str).length (.lst (rs++((6:Int)::List.replicate m 0).map (jZ ss.length))))=true;rw[X5,qk5 h1 h3 sg so,qk9 hp k0 hk (λp hp=>by
   rcases List.mem_cons.mp hp with rfl|hp
   ·decide
   ·rw[List.eq_of_mem_replicate hp];decide) (by rw[Ya,Xx];lia)]
  rfl
 have hfg:(D.tup [sL ss,.lst (rs++((6:Int)::List.replicate m 0).map (jZ ss.length))]).flat 40=true:=wJ (kjq ss) (Qv λr hr=>(List.mem_append.mp hr).elim (ie r) λz=>by obtain⟨k,_,rfl⟩:=List.mem_map.mp z;exact VJ _ _);generalize rs++((6:Int)::List.replicate m 0).map (jZ ss.length)=gr at hpg hfg;refine(Kw hfg hpg).use ?_;intro _ _;simp![];refine Jv (λE j8=>∃(done:List D) (l6:Option Sd),E=[some (.no,iL ns),some (.no,sL ss),some (.no,v9 ss rs),some (.dp,.int (1+x2 % (200 - (rs.length:Int)))),some (.no,v9 ss rs),some (.no,.tup [sL ss,.lst gr]),l6]/\[D.non,.int 0,.str "",.tup [],.lst [],.dct []]=done++j8) ?_ ?_ ?_
 ·simp![vkx];exact⟨[],_,rfl,rfl⟩
 ·rintro E d ds ⟨done,l6,rfl,hd⟩;simp![];refine(qwb (d:=d) (by rw[hd];simp)).use ?_;intro _ _;simp![];exact⟨done++[d],_,rfl,by rw[hd];simp⟩
 ·rintro E ⟨done,l6,rfl,_⟩;simp![];refine(Kw (jzh (ss:=ss) ie) bn).use ?_;intro _ _;simp![C.eq_self (jzh (ss:=ss) ie)]
theorem law_true(ns:List Int)(hl:ns.length<=63)(hb:∀i∈ns,Builtin.Int.intBits i<=1048576):∃E o,m_law [(.no,.lst (ns.map D.int))]=some (.ok E (o,.bl true)):=by
 obtain⟨E,⟨o,d⟩,h,hd⟩:=(vwh ns).out;have hd:d=.bl true:=hd;subst hd;exact⟨E,o,h⟩
end Nk30
namespace Nk30
open PySem L2 L3 Q
def top(i:Nat):Stmt:=PySem.Challenge.pw_freshrooms_k30_what_is_plain.main.body.getD i (.Pass ⟨0,0,0,0⟩)
abbrev jza:Stmt:=top 3
abbrev kj8:Stmt:=top 4
abbrev jvj:Stmt:=top 7
abbrev jzc:Stmt:=top 8
abbrev jwy:Stmt:=top 9
abbrev jq1:Stmt:=top 16
abbrev jvx:Stmt:=top 14
abbrev jq4:Stmt:=top 20
abbrev kj9:Stmt:=top 19
abbrev jwz:Stmt:=top 18
abbrev jq2:Stmt:=top 17
abbrev jq3:Stmt:=top 15
abbrev jzb:Stmt:=top 13
abbrev jx2:Stmt:=top 22
abbrev jvk:Stmt:=top 23
abbrev jvy:Stmt:=top 24
abbrev jx3:Stmt:=top 26
abbrev jvz:Stmt:=top 25
abbrev jvl:Stmt:=top 27
abbrev jx0:Stmt:=top 28
abbrev jx4:Stmt:=top 29
abbrev jw0:Stmt:=top 30
abbrev jx1:Stmt:=top 31
abbrev jv4:Stmt:=top 32
abbrev jv3:Stmt:=top 33
abbrev qzs:Stmt:=top 34
theorem kwp:FnScope ["thing"] ["thing"] (kY jza):=mkS
theorem qj5:FnScope ["thing"] ["thing"] (kY kj8):=mkS
theorem kkb:FnScope ["thing","many"] ["thing","many"] (kY jvj):=mkS
theorem kwr:FnScope ["thing","end"] ["thing","end"] (kY jzc):=mkS
theorem kvd:FnScope ["thing"] ["thing"] (kY jwy):=mkS
theorem jxh:FnScope ["thing"] ["thing"] (kY jq1):=mkS
theorem kq8:FnScope ["thing","many"] ["thing","many"] (kY jvx):=mkS
theorem jxj:FnScope ["thing","end","many"] ["thing","end","many"] (kY jq4):=mkS
theorem qj6:FnScope ["thing","end","keepers"] ["thing","end","keepers"] (kY kj9):=mkS
theorem sc_are_cases:FnScope ["thing","own","keepers","held"] ["thing","own","keepers"] (kY jwz):=mkS
theorem jxi:FnScope ["thing","signs","own","keepers"] ["thing","signs","own","keepers"] (kY jq2):=mkS
theorem sc_are_plain_rooms:FnScope ["thing","signs","keepers"] ["thing","signs"] (kY jq3):=mkS
theorem kwq:FnScope ["thing"] ["thing"] (kY jzb):=mkS
theorem sc__law_draw:FnScope ["_law_script","_law_k","_law_most","_law_x"] ["_law_script","_law_k"] (kY jx2):=mkS
theorem sc__law_digits:FnScope ["_law_x","_law_sizes","_law_found","_law_size"] ["_law_x","_law_sizes"] (kY jvk):=mkS
theorem sc__law_signs:FnScope ["_law_x","_law_many","_law_letters","_law_size","_law_at","_law_step","_law_signs_here","_law_k","_law_sign","_law_j","_law_turn"] ["_law_x","_law_many"] (kY jvy):=mkS
theorem sc__law_case:FnScope ["_law_y","_law_keepers","_law_r","_law_k","_law_to","_law_some","_law_fills","_law_d"] ["_law_y","_law_keepers","_law_r","_law_k"] (kY jx3):=mkS
theorem sc__law_plain:FnScope ["_law_script","_law_start","_law_signs_here","_law_head","_law_size","_law_keepers","_law_rooms","_law_at","_law_r","_law_steps","_law_s","_law_cases","_law_k","_law_y"] ["_law_script","_law_start","_law_signs_here"] (kY jvz):=mkS
theorem sc__law_copied:FnScope ["_law_plain_here","_law_rooms","_law_keepers","_law_good","_law_steps"] ["_law_plain_here"] (kY jvl):=mkS
theorem sc__law_told:FnScope ["_law_thing","_law_due","_law_found"] ["_law_thing","_law_due"] (kY jx0):=mkS
theorem kve:FnScope ["_law_keepers","_law_signs_here"] ["_law_keepers","_law_signs_here"] (kY jx4):=mkS
theorem sc__law_outer:FnScope ["_law_plain_here","_law_way","_law_signs_here","_law_rooms","_law_some","_law_twice","_law_four","_law_falling"] ["_law_plain_here","_law_way"] (kY jw0):=mkS
theorem sc__law_room:FnScope ["_law_room_here","_law_way","_law_x","_law_keepers","_law_good","_law_steps","_law_some","_law_at","_law_cases"] ["_law_room_here","_law_way","_law_x"] (kY jx1):=mkS
theorem sc__law_no_case:FnScope ["_law_rooms","_law_keepers","_law_last","_law_way","_law_many","_law_some","_law_high","_law_fills"] ["_law_rooms","_law_keepers","_law_last","_law_way"] (kY jv4):=mkS
theorem sc__law_spoiled:FnScope ["_law_plain_here","_law_x","_law_way","_law_r","_law_s","_law_k","_law_signs_here","_law_rooms","_law_cases"] ["_law_plain_here","_law_x"] (kY jv3):=mkS
theorem sc_law:FnScope ["_law_script","_law_signs_here","_law_plain_here","_law_more","_law_handed","_law_greater","_law_thing"] ["_law_script"] (kY qzs):=mkS
structure Txt (K:PySem.W.Frag)(mg:Str->Option Value):Prop where
 b_all:mg "all"=none
 b_bool:mg "bool"=none
 b_int:mg "int"=none
 b_isinstance:mg "isinstance"=none
 b_len:mg "len"=none
 b_list:mg "list"=none
 b_range:mg "range"=none
 b_set:mg "set"=none
 b_sorted:mg "sorted"=none
 b_str:mg "str"=none
 b_tuple:mg "tuple"=none
 c_LETTERS:Cst mg "LETTERS" (V.str "abcdefghijklmnopqrstuvwxyz")
 c_MOST_LETTERS:Cst mg "MOST_LETTERS" (V.int (8))
 c_MOST_SIGNS:Cst mg "MOST_SIGNS" (V.int (3))
 c_MOST_ROOMS:Cst mg "MOST_ROOMS" (V.int (200))
 c_MOST_KEEPERS:Cst mg "MOST_KEEPERS" (V.int (6))
section
variable (P:Program)(w:PySem.World)(K:PySem.W.Frag)(mg:Str->Option Value)(base:Heap)
abbrev kkz:=qx P w K mg base 1 "is_whole" ["thing"] (spF K mg 1 m_is_whole)
abbrev kwi:=qx P w K mg base 1 "is_sign" ["thing"] (spF K mg 1 m_is_sign)
abbrev Zv:=qx P w K mg base 1 "is_tuple_of" ["thing","many"] (spF K mg 2 m_is_tuple_of)
abbrev jwo:=qx P w K mg base 2 "is_below" ["thing","end"] (spF K mg 2 m_is_below)
abbrev kk5:=qx P w K mg base 2 "are_signs" ["thing"] (spF K mg 1 m_are_signs)
abbrev jvd:=qx P w K mg base 3 "has_plain_frame" ["thing"] (spF K mg 1 m_has_plain_frame)
abbrev jwh:=qx P w K mg base 1 "is_list_of" ["thing","many"] (spF K mg 2 m_is_list_of)
abbrev jvg:=qx P w K mg base 3 "are_plain_fills" ["thing","end","many"] (spF K mg 3 m_are_plain_fills)
abbrev kwj:=qx P w K mg base 4 "is_case" ["thing","end","keepers"] (spF K mg 3 m_is_case)
abbrev kk6:=qx P w K mg base 5 "are_cases" ["thing","own","keepers"] (spF K mg 3 m_are_cases)
abbrev jve:=qx P w K mg base 6 "are_plain_steps" ["thing","signs","own","keepers"] (spF K mg 4 m_are_plain_steps)
abbrev jvf:=qx P w K mg base 7 "are_plain_rooms" ["thing","signs"] (spF K mg 2 m_are_plain_rooms)
abbrev kq0:=qx P w K mg base 8 "is_plain" ["thing"] (spF K mg 1 m_is_plain)
abbrev jxd:=qx P w K mg base 1 "_law_draw" ["_law_script","_law_k"] (spF K mg 2 m__law_draw)
abbrev jqo:=qx P w K mg base 1 "_law_digits" ["_law_x","_law_sizes"] (spF K mg 2 m__law_digits)
abbrev jzs:=qx P w K mg base 2 "_law_signs" ["_law_x","_law_many"] (spF K mg 2 m__law_signs)
abbrev kk9:=qx P w K mg base 1 "_law_case" ["_law_y","_law_keepers","_law_r","_law_k"] (spF K mg 4 m__law_case)
abbrev jzt:=qx P w K mg base 2 "_law_plain" ["_law_script","_law_start","_law_signs_here"] (spF K mg 3 m__law_plain)
abbrev jvq:=qx P w K mg base 1 "_law_copied" ["_law_plain_here"] (spF K mg 1 Qx)
abbrev kk7:=qx P w K mg base 9 "_law_told" ["_law_thing","_law_due"] (spF K mg 2 J3)
abbrev jvr:=qx P w K mg base 1 "_law_bare" ["_law_keepers","_law_signs_here"] (spF K mg 2 xz)
abbrev jzu:=qx P w K mg base 2 "_law_outer" ["_law_plain_here","_law_way"] (spF K mg 2 ZW)
abbrev kk8:=qx P w K mg base 1 "_law_room" ["_law_room_here","_law_way","_law_x"] (spF K mg 3 jqx)
abbrev jwt:=qx P w K mg base 1 "_law_no_case" ["_law_rooms","_law_keepers","_law_last","_law_way"] (spF K mg 4 jko)
abbrev jws:=qx P w K mg base 3 "_law_spoiled" ["_law_plain_here","_law_x"] (spF K mg 2 jkn)
end
section
variable {P:Program}{w:PySem.World}{K:PySem.W.Frag}{mg:Str->Option Value}{base:Heap}{f:Addr}{fd:FuncData}
theorem kwx(T:Txt K mg)  (F:Fun K "is_whole" "is_whole" jza f fd):FnOk P w K mg base (CXE P w) 1 f fd ["thing"] (spF K mg 1 m_is_whole):=
 v3 F kwp (v6 rfl) λbd A outer s H vs Q E hr h=>v5 rfl
  (jQ (kK (z3 (j4 (QX (vv 0) T.b_isinstance T.b_int W4 rfl)) (zW (vzr (j4 (QX (vv 0) T.b_isinstance T.b_bool kxc rfl))))))) h
theorem qjb(T:Txt K mg)  (F:Fun K "is_sign" "is_sign" kj8 f fd):FnOk P w K mg base (CXE P w) 1 f fd ["thing"] (spF K mg 1 m_is_sign):=
 v3 F qj5 (v6 rfl) λbd A outer s H vs Q E hr h=>v5 rfl
  (jq (wV (QW.pt (W1 (wW (z4 (j4 (QX (vv 0) T.b_isinstance T.b_str qzb rfl)))) (Vv (wW (kqa VV (xQ (g:=λa b=>decide (a<=b))) VV (xQ (g:=λa b=>decide (a<=b))) ki (j4 (qL (vv 0) T.b_len)) (j4 (q_C (ZZ T.c_MOST_LETTERS) (λ_=>K6))) K9))))) (jQ (kK (q_C vQ (λ_=>vJ)))) wX) (jQ (kK (Kq (QY K) QZ (j4 (qM .rt 1 [] 1 ["letter"] (wv (cv 0)) (λ_ _ _ _ _=>(xV (wj2 hr.units) wk2 (vv 0) (j4 (q_C (ZZ T.c_LETTERS) (λ_=>W6 (by decide)))) (by rfl))))) T.b_all Vz)))) h
theorem kkd(T:Txt K mg)  (F:Fun K "is_tuple_of" "is_tuple_of" jvj f fd):FnOk P w K mg base (CXE P w) 1 f fd ["thing","many"] (spF K mg 2 m_is_tuple_of):=
 v3 F kkb (v6 rfl) λbd A outer s H vs Q E hr h=>v5 rfl
  (jQ (kK (z3 (j4 (vv0 (vv 0) T.b_isinstance T.b_tuple kzu rfl)) (zW (xV (xZ hr.units) z5 (j4 (qL (vv 0) T.b_len)) (vv 1) (vK _)))))) h
theorem kwz(T:Txt K mg)(cy:kkz P w K mg base)(F:Fun K "is_below" "is_below" jzc f fd):FnOk P w K mg base (CXE P w) 2 f fd ["thing","end"] (spF K mg 2 m_is_below):=
 v3 F kwr (v6 rfl) λbd A outer s H vs Q E hr h=>v5 rfl
  (jQ (kK (z3 (j4 (qC cy hr (j3 (cv 0) j5))) (zW (vj0 VV (xQ (g:=λa b=>decide (a<=b))) Wz (xQ (g:=λa b=>decide (a<b))) ki (vv 0) (vv 1)))))) h
theorem kvn(T:Txt K mg)(d8:kwi P w K mg base)(F:Fun K "are_signs" "are_signs" jwy f fd):FnOk P w K mg base (CXE P w) 2 f fd ["thing"] (spF K mg 1 m_are_signs):=
 v3 F kvd (v6 rfl) λbd A outer s H vs Q E hr h=>v5 rfl
  (jq (wV (QW.pt (W1 (wW (z4 (j4 (QX (vv 0) T.b_isinstance T.b_list Q8 rfl)))) (Vv (wW (kqa VV (xQ (g:=λa b=>decide (a<=b))) VV (xQ (g:=λa b=>decide (a<=b))) ki (j4 (qL (vv 0) T.b_len)) (j4 (q_C (ZZ T.c_MOST_SIGNS) (λ_=>K6))) K9))))) (jQ (kK (q_C vQ (λ_=>vJ)))) wX) (jq (wV (wW (z4 (j4 (Kq (QY K) QZ (j4 (qM .rt 1 [] 1 ["sign"] (wv (cv 0)) (λ_ _ _ _ _=>(qC d8 hr (j3 (cv 0) j5))))) T.b_all Vz)))) (jQ (kK (q_C vQ (λ_=>vJ)))) wX) (jQ (kK (xV (xZ hr.units) z5 (vv 0) (j4 (qki rfl rfl (vv 0) T.b_sorted T.b_set)) (vK _)))))) h
theorem jxr(T:Txt K mg)(af:Zv P w K mg base)(az:jwo P w K mg base)(F:Fun K "has_plain_frame" "has_plain_frame" jq1 f fd):FnOk P w K mg base (CXE P w) 3 f fd ["thing"] (spF K mg 1 m_has_plain_frame):=
 v3 F jxh (v6 rfl) λbd A outer s H vs Q E hr h=>v5 rfl
  (jQ (kK (z3 (j4 (qC af hr (j3 (cv 0) (j3 kI j5)))) (z3 (j4 (qC az hr (j3 (vX (kx (vv 0) ki)) (j3 (oA (j4 (q_C (ZZ T.c_MOST_KEEPERS) (λ_=>K6))) ki) j5)))) (zW (QX (kx (vv 0) ki) T.b_isinstance T.b_bool kxc rfl)))))) h
theorem kqh(T:Txt K mg)  (F:Fun K "is_list_of" "is_list_of" jvx f fd):FnOk P w K mg base (CXE P w) 1 f fd ["thing","many"] (spF K mg 2 m_is_list_of):=
 v3 F kq8 (v6 rfl) λbd A outer s H vs Q E hr h=>v5 rfl
  (jQ (kK (z3 (j4 (QX (vv 0) T.b_isinstance T.b_list Q8 rfl)) (zW (xV (xZ hr.units) z5 (j4 (qL (vv 0) T.b_len)) (vv 1) (vK _)))))) h
theorem jxu(T:Txt K mg)(af:Zv P w K mg base)(az:jwo P w K mg base)(F:Fun K "are_plain_fills" "are_plain_fills" jq4 f fd):FnOk P w K mg base (CXE P w) 3 f fd ["thing","end","many"] (spF K mg 3 m_are_plain_fills):=
 v3 F jxj (v6 rfl) λbd A outer s H vs Q E hr h=>v5 rfl
  (jq (wV (QW.pt (W1 (wW (z4 (j4 (qC af hr (j3 (cv 0) (j3 (cv 2) j5)))))) (Vv (wW (z4 (j4 (Kq (QY K) QZ (j4 (qM .rt 1 [1] 3 ["fill","end"] (wv (cv 0)) (λ_ _ _ _ _=>(qC az hr (j3 (cv 0) (j3 (cv 1) j5)))))) T.b_all Vz))))))) (jQ (kK (q_C vQ (λ_=>vJ)))) wX) (jQ (kK (xV (xZ hr.units) z5 (j4 (qkk rfl rfl (vv 0) T.b_len T.b_set)) (vv 2) (vK _))))) h
theorem qjc(T:Txt K mg)(b9:jvg P w K mg base)(af:Zv P w K mg base)(az:jwo P w K mg base)(F:Fun K "is_case" "is_case" kj9 f fd):FnOk P w K mg base (CXE P w) 4 f fd ["thing","end","keepers"] (spF K mg 3 m_is_case):=
 v3 F qj6 (v6 rfl) λbd A outer s H vs Q E hr h=>v5 rfl
  (jq (wV (QJ vw0 vxl (vv 0) kn (vK _) vxe) (jQ (kK (q_C vQ (λ_=>vJ)))) wX) (jq (wV (QW.pt (W1 (wW (z4 (j4 (qC af hr (j3 (cv 0) (j3 kI j5)))))) (Vv (wW (z4 (j4 (qC az hr (j3 (vX (kx (vv 0) ki)) (j3 (qL (vv 2) T.b_len) j5))))))))) (jQ (kK (q_C vQ (λ_=>vJ)))) wX) (jQ (kK (qC b9 hr (j3 (vX (kx (vv 0) ki)) (j3 (cv 1) (j3 (vX (kx (vv 2) (kx (vv 0) ki))) j5)))))))) h
theorem kvo(T:Txt K mg)(b6:jwh P w K mg base)(cu:kwj P w K mg base)(F:Fun K "are_cases" "are_cases" jwz f fd):FnOk P w K mg base (CXE P w) 5 f fd ["thing","own","keepers"] (spF K mg 3 m_are_cases):=
 v3 F sc_are_cases (v6 rfl) λbd A outer s H vs Q E hr h=>have nd:=sc_are_cases.nd;v5 rfl
  (jq (wV (wW (z4 (j4 (qC b6 hr (j3 (cv 0) (j3 (oA (vv 1) ki) j5)))))) (jQ (kK (q_C vQ (λ_=>vJ)))) wX) (jq (qA nd (Kq (QY K) QZ (j4 (qM .rt 1 [1,2] 4 ["case","own","keepers"] (wv (xX (vv 0) zJ (xw (vv 1)))) (λ_ _ _ _ _=>(qC cu hr (j3 (cv 0) (j3 (cv 1) (j3 (cv 2) j5))))))) T.b_all Vz)) (jQ (kK (z3 (vv 3) (zW (qC cu hr (j3 (vX (kx (vv 0) (vv 1))) (j3 (oA (vv 1) ki) (j3 (cv 2) j5)))))))))) h
theorem jxs(T:Txt K mg)(b6:jwh P w K mg base)(cf:kk6 P w K mg base)(F:Fun K "are_plain_steps" "are_plain_steps" jq2 f fd):FnOk P w K mg base (CXE P w) 6 f fd ["thing","signs","own","keepers"] (spF K mg 4 m_are_plain_steps):=
 v3 F jxi (v6 rfl) λbd A outer s H vs Q E hr h=>v5 rfl
  (jQ (kK (z3 (j4 (qC b6 hr (j3 (cv 0) (j3 (cv 1) j5)))) (zW (Kq (QY K) QZ (j4 (qM .rt 1 [2,3] 4 ["cases","own","keepers"] (wv (cv 0)) (λ_ _ _ _ _=>(qC cf hr (j3 (cv 0) (j3 (cv 1) (j3 (cv 2) j5))))))) T.b_all Vz))))) h
theorem jxt(T:Txt K mg)(b8:jvd P w K mg base)(b7:jve P w K mg base)(F:Fun K "are_plain_rooms" "are_plain_rooms" jq3 f fd):FnOk P w K mg base (CXE P w) 7 f fd ["thing","signs"] (spF K mg 2 m_are_plain_rooms):=
 v3 F sc_are_plain_rooms (v6 rfl) λbd A outer s H vs Q E hr h=>have nd:=sc_are_plain_rooms.nd;v5 rfl
  (jq (wV (QW.pt (W1 (wW (z4 (j4 (QX (vv 0) T.b_isinstance T.b_list Q8 rfl)))) (Vv (wW (kqa VV (xQ (g:=λa b=>decide (a<=b))) VV (xQ (g:=λa b=>decide (a<=b))) ki (j4 (qL (vv 0) T.b_len)) (j4 (q_C (ZZ T.c_MOST_ROOMS) (λ_=>K6))) K9))))) (jQ (kK (q_C vQ (λ_=>vJ)))) wX) (jq (wV (wW (z4 (j4 (Kq (QY K) QZ (j4 (qM .rt 1 [] 3 ["room"] (wv (cv 0)) (λ_ _ _ _ _=>(qC b8 hr (j3 (cv 0) j5))))) T.b_all Vz)))) (jQ (kK (q_C vQ (λ_=>vJ)))) wX) (jq (qA nd (qM .rt 1 [] 3 ["room"] (wv (cv 0)) (λ_ _ _ _ _=>(vX (kx (vv 0) ki))))) (jQ (kK (z3 (j4 (xV (xZ hr.units) z5 (kx (vv 2) ki) ki (vK _))) (zW (Kq (QY K) QZ (j4 (qM .rt 1 [1,2] 3 ["room","signs","keepers"] (wv (cv 0)) (λ_ _ _ _ _=>(qC b7 hr (j3 (vX (kx (vv 0) ki)) (j3 (cv 1) (j3 (vX (kx (vv 0) ki)) (j3 (cv 2) j5)))))))) T.b_all Vz)))))))) h
theorem kwy(T:Txt K mg)(af:Zv P w K mg base)(c9:kk5 P w K mg base)(ba:jvf P w K mg base)(F:Fun K "is_plain" "is_plain" jzb f fd):FnOk P w K mg base (CXE P w) 8 f fd ["thing"] (spF K mg 1 m_is_plain):=
 v3 F kwq (v6 rfl) λbd A outer s H vs Q E hr h=>v5 rfl
  (jQ (kK (z3 (j4 (qC af hr (j3 (cv 0) (j3 kI j5)))) (z3 (j4 (qC c9 hr (j3 (vX (kx (vv 0) ki)) j5))) (zW (qC ba hr (j3 (vX (kx (vv 0) ki)) (j3 (qL (kx (vv 0) ki) T.b_len) j5)))))))) h
theorem kvr(T:Txt K mg)  (F:Fun K "_law_draw" "_law_draw" jx2 f fd):FnOk P w K mg base (CXE P w) 1 f fd ["_law_script","_law_k"] (spF K mg 2 m__law_draw):=
 v3 F sc__law_draw (v6 rfl) λbd A outer s H vs Q E hr h=>have nd:=sc__law_draw.nd;v5 rfl
  (jq (qA nd (oX ki (j4 (xY qxu qzd ki ki)))) (jq (qA nd (oA (j4 (oX (j4 (oX (vv 1) (vv 1))) (vv 1))) ki)) (jq (wV (QJ Wz (xQ (g:=λa b=>decide (a<b))) (vv 1) (j4 (qL (vv 0) T.b_len)) (vK _) K9) (jQ (qA nd (vX (kx (vv 0) (vv 1))))) (jQ (wV (QJ vw1 (xQ (g:=λa b=>decide (b<a))) (j4 (qL (vv 0) T.b_len)) ki (vK _) K9) (jQ (qA nd (oX (j4 (oA (j4 (oM (kx (vv 0) (j4 (oM (vv 1) (j4 (qL (vv 0) T.b_len))))) ki)) ki)) (vv 3)))) wX))) (jQ (kK (oM (j4 (oX (j4 (oM (vv 3) (vv 2))) (j4 (xY qxu qzd ki ki)))) (vv 2))))))) h
theorem kke(T:Txt K mg)  (F:Fun K "_law_digits" "_law_digits" jvk f fd):FnOk P w K mg base (CXE P w) 1 f fd ["_law_x","_law_sizes"] (spF K mg 2 m__law_digits):=
 v3 F sc__law_digits (v6 rfl) λbd A outer s H vs Q E hr h=>have nd:=sc__law_digits.nd;v5 rfl
  (jq (qA nd (k5 (o:=.rt) j5)) (jq (qF (wv (cv 1)) (gN nd) (jq (qP (oM (vv 0) (vv 3))) (jQ (qA nd (xY kz9 qzh (vv 0) (vv 3)))))) (jQ (kK (wks (pv 2)))))) h
theorem kqi(T:Txt K mg)(ai:jqo P w K mg base)(F:Fun K "_law_signs" "_law_signs" jvy f fd):FnOk P w K mg base (CXE P w) 2 f fd ["_law_x","_law_many"] (spF K mg 2 m__law_signs):=
 v3 F sc__law_signs (v6 rfl) λbd A outer s H vs Q E hr h=>have nd:=sc__law_signs.nd;v5 rfl
  (jq (qA nd kS) (jq (kxz (qC ai hr (j3 (cv 0) (j3 (k5 (o:=.rt) (j3 kI (j3 kI (j3 kI j5)))) j5))) (ZV (is:=[3,4,5]) (YQ K (t:=gNs [3,4,5]) (n:=3) (wY (gn nd) (wY (gn nd) (wY (gn nd) W8)))))) (jq (qA nd (oM (vv 4) (j4 (oA (vv 3) ki)))) (jq (qA nd (k5 (o:=.rt) j5)) (jq (qF (Zq (vv 1) rfl T.b_range) (gN nd) (jq (qA nd kS) (jq (qF (Zq (j4 (oA (vv 3) ki)) rfl T.b_range) (gN nd) (jq (qA nd (oA (j4 (xY kz9 qzh (vv 0) (j4 (oA ki (j4 (oX (j4 (oX ki (vv 9))) (vv 9))))))) (j4 (oX (j4 (oX (vv 7) (j4 (oA (vv 5) ki)))) (j4 (zY WZ Ww (j4 (xV (xZ hr.units) z5 (vv 9) (vv 4) (vK _))) T.b_int W4)))))) (jQ (qA nd (oA (vv 8) (kx (vv 2) (j4 (oM (vv 10) ki)))))))) (jQ (qP (cv 8)))))) (jQ (kK (Kq (kxa rfl) qw0 (vv 6) T.b_sorted qvt)))))))) h
theorem kvt(T:Txt K mg)  (F:Fun K "_law_case" "_law_case" jx3 f fd):FnOk P w K mg base (CXE P w) 1 f fd ["_law_y","_law_keepers","_law_r","_law_k"] (spF K mg 4 m__law_case):=
 v3 F sc__law_case (v6 rfl) λbd A outer s H vs Q E hr h=>have nd:=sc__law_case.nd;v5 rfl
  (jq (qA nd (oM (kx (vv 0) ki) (j4 (qL (vv 1) T.b_len)))) (jq (qA nd (vzs (j4 (oA (kx (vv 1) (vv 2)) (j4 (zY WZ Ww (j4 (xV (xZ hr.units) z5 (vv 3) (kx (vv 1) (vv 2)) (vK _))) T.b_int W4)))) T.b_range T.b_list)) (jq (wV (QW.pt (W1 (QJ (xZ hr.units) z5 (kx (vv 0) ki) ki (vK _) wjx) (Vv (QJ Wz (xQ (g:=λa b=>decide (a<b))) (j4 (qL (vv 5) T.b_len)) (kx (vv 1) (vv 4)) (vK _) K9)))) (jQ (kK kN)) wX) (jq (qA nd (k5 (o:=.rt) j5)) (jq (qF (wv (xX (vv 0) (xw ki) (xw (j4 (oA ki (kx (vv 1) (vv 4))))))) (gN nd) (jQ (qP (vzq (i:=5) (qkx K PySem.F.plainAttrs_list PySem.F.slot_list_pop PySem.F.type_list_pop qwz (pv 5) (wj (j4 (oM (vv 7) (j4 (qL (vv 5) T.b_len)))) xj)))))) (jQ (kK (kz (o:=.no) (j3 (cv 4) (j3 (qT (vv 6) T.b_tuple) j5)))))))))) h
theorem kqj(T:Txt K mg)(ai:jqo P w K mg base)(ao:jxd P w K mg base)(cp:kk9 P w K mg base)(F:Fun K "_law_plain" "_law_plain" jvz f fd):FnOk P w K mg base (CXE P w) 2 f fd ["_law_script","_law_start","_law_signs_here"] (spF K mg 3 m__law_plain):=
 v3 F sc__law_plain (v6 rfl) λbd A outer s H vs Q E hr h=>have nd:=sc__law_plain.nd;v5 rfl
  (jq (qA nd (qC ai hr (j3 (qC ao hr (j3 (cv 0) (j3 (cv 1) j5))) (j3 (oA (j4 (oA (j4 (k5 (o:=.rt) (j3 kI (j3 kI (j3 kI j5))))) (j4 (oX (j4 (k5 (o:=.rt) (j3 kI j5))) ki)))) (j4 (oX (j4 (k5 (o:=.rt) (j3 kI j5))) ki))) j5)))) (jq (qA nd (vX (kx (j4 (k5 (o:=.rt) (j3 (oA ki (j4 (oM (kx (vv 3) ki) ki))) (j3 kI (j3 kI j5))))) (j4 (oX (j4 (zY WZ Ww (j4 (xV (xZ hr.units) z5 (kx (vv 3) ki) ki (vK _))) T.b_int W4)) (j4 (oA ki (j4 (oM (kx (vv 3) ki) ki))))))))) (jq (qA nd (oA (j4 (k5 (o:=.rt) (j3 kI j5))) (j4 (qM .rt 1 [3,4] 14 ["_law_r","_law_head","_law_size"] (vqz ki (vv 4) rfl T.b_range) (λ_ _ _ _ _=>(oM (kx (vv 1) (j4 (oA ki (vv 0)))) (j4 (oA ki (j4 (zY WZ Ww (j4 (z3 (j4 (xV (xZ hr.units) z5 (kx (vv 1) ki) ki (vK _))) (zW (xV Wz (xQ (g:=λa b=>decide (a<b))) (vv 2) ki (vK _))))) T.b_int W4)))))))))) (jq (qA nd (k5 (o:=.rt) j5)) (jq (qA nd (oA (vv 1) ki)) (jq (qF (Zq (vv 4) rfl T.b_range) (gN nd) (jq (qA nd (k5 (o:=.rt) j5)) (jq (qF (Zq (j4 (qL (vv 2) T.b_len)) rfl T.b_range) (gN nd) (jq (qA nd (k5 (o:=.rt) j5)) (jq (qF (Zq (j4 (oA (kx (vv 5) (vv 8)) ki)) rfl T.b_range) (gN nd) (jq (qA nd (qC ai hr (j3 (qC ao hr (j3 (cv 0) (j3 (cv 7) j5))) (j3 (k5 (o:=.rt) (j3 kI (j3 kI (j3 kI (j3 kI (j3 kI j5)))))) j5)))) (jq (qA nd (oA (vv 7) ki)) (jQ (qP (qC cp hr (j3 (cv 13) (j3 (cv 5) (j3 (cv 8) (j3 (cv 12) j5)))))))))) (jQ (qP (cv 11)))))) (jQ (qP (kz (o:=.no) (j3 (vX (kx (vv 5) (vv 8))) (j3 (xV (xZ hr.units) z5 (kx (vv 3) (j4 (oA ki (vv 8)))) ki (vK _)) (j3 (cv 9) j5))))))))) (jQ (kK (kz (o:=.no) (j3 (kz (o:=.no) (j3 (zY (kj4 K) kqz (vv 2) T.b_list Q8) (j3 (cv 6) j5))) (j3 (cv 7) j5))))))))))) h
theorem kkf(T:Txt K mg)  (F:Fun K "_law_copied" "_law_copied" jvl f fd):FnOk P w K mg base (CXE P w) 1 f fd ["_law_plain_here"] (spF K mg 1 Qx):=
 v3 F sc__law_copied (v6 rfl) λbd A outer s H vs Q E hr h=>have nd:=sc__law_copied.nd;v5 rfl
  (jq (qA nd (k5 (o:=.dp) j5)) (jq (qF (wv (vX (kx (vv 0) ki))) (ZV (is:=[2,3,4]) (YQ K (t:=gNs [2,3,4]) (n:=3) (wY (gn nd) (wY (gn nd) (wY (gn nd) W8))))) (jQ (qP (kz (o:=.dp) (q:=false) (j3 (QE.weak (cv 2)) (j3 (QE.weak (cv 3)) (j3 (QE.weak (qM .dp 1 [] 5 ["_law_cases"] (wv (cv 4)) (λ_ _ _ _ _=>(qzz (zY (kj4 K) kqz (vv 0) T.b_list Q8))))) vj2))))))) (jQ (kK (kz (o:=.dp) (q:=false) (j3 (QE.weak (qzz (zY (kj4 K) kqz (kx (vv 0) ki) T.b_list Q8))) (j3 (wks (pv 1)) vj2))))))) h
theorem kvp(T:Txt K mg)(cz:kq0 P w K mg base)(F:Fun K "_law_told" "_law_told" jx0 f fd):FnOk P w K mg base (CXE P w) 9 f fd ["_law_thing","_law_due"] (spF K mg 2 J3):=
 v3 F sc__law_told (v6 rfl) λbd A outer s H vs Q E hr h=>have nd:=sc__law_told.nd;v5 rfl
  (jq (qA nd (qC cz hr (j3 (cv 0) j5))) (jQ (kK (z3 (j4 (QX (vv 2) T.b_isinstance T.b_bool kxc rfl)) (zW (xV (xZ hr.units) z5 (vv 2) (vv 1) (vK _))))))) h
theorem kvu(T:Txt K mg)  (F:Fun K "_law_bare" "_law_bare" jx4 f fd):FnOk P w K mg base (CXE P w) 1 f fd ["_law_keepers","_law_signs_here"] (spF K mg 2 xz):=
 v3 F kve (v6 rfl) λbd A outer s H vs Q E hr h=>v5 rfl
  (jQ (kK (kz (o:=.dp) (q:=false) (j3 (QE.weak (cv 0)) (j3 (QE.weak (q_C vQ (λ_=>vJ))) (j3 (QE.weak (qM .dp 1 [0] 2 ["_law_sign","_law_keepers"] (wv (cv 1)) (λ_ _ _ _ _=>(qzz (oX (j4 (k5 (o:=.rt) (j3 kN j5))) (j4 (oA (vv 1) ki))))))) vj2)))))) h
theorem kqk(T:Txt K mg)(ag:jvr P w K mg base)(F:Fun K "_law_outer" "_law_outer" jw0 f fd):FnOk P w K mg base (CXE P w) 2 f fd ["_law_plain_here","_law_way"] (spF K mg 2 ZW):=
 v3 F sc__law_outer (v6 rfl) λbd A outer s H vs Q E hr h=>have nd:=sc__law_outer.nd;v5 rfl
  (jq (kxz (cv 0) (ZV (is:=[2,3]) (YQ K (t:=gNs [2,3]) (n:=2) (wY (gn nd) (wY (gn nd) W8))))) (jq (qA nd (k5 (o:=.rt) (j3 (k5 (o:=.rt) (j3 (cv 2) (j3 (cv 3) j5))) (j3 (kz (o:=.no) (j3 (cv 2) j5)) (j3 (kz (o:=.no) (j3 (cv 2) (j3 (cv 3) (j3 (k5 (o:=.rt) j5) j5)))) (j3 (kz (o:=.no) (j3 (qT (vv 2) T.b_tuple) (j3 (cv 3) j5))) (j3 (kz (o:=.no) (j3 (k5 (o:=.rt) j5) (j3 (cv 3) j5))) (j3 (kz (o:=.no) (j3 (cv 2) (j3 (qT (vv 3) T.b_tuple) j5))) j5)))))))) (jq (qA nd (oA (vv 4) (j4 (k5 (o:=.rt) (j3 (kz (o:=.no) (j3 (cv 2) (j3 (k5 (o:=.rt) j5) j5))) (j3 (kz (o:=.no) (j3 (cv 2) (j3 (k5 (o:=.rt) (j3 (qC ag hr (j3 kI (j3 (cv 2) j5))) j5)) j5))) (j3 (kz (o:=.no) (j3 (oA (j4 (k5 (o:=.rt) (j3 (k5 (o:=.rt) j5) j5))) (j4 (xX (vv 2) (xw ki) zJ))) (j3 (cv 3) j5))) j5))))))) (jq (qA nd (oA (vv 4) (j4 (k5 (o:=.rt) (j3 (kz (o:=.no) (j3 (oA (j4 (k5 (o:=.rt) (j3 kS j5))) (j4 (xX (vv 2) (xw ki) zJ))) (j3 (cv 3) j5))) (j3 (kz (o:=.no) (j3 (oA (j4 (k5 (o:=.rt) (j3 kS j5))) (j4 (xX (vv 2) (xw ki) zJ))) (j3 (cv 3) j5))) j5)))))) (jq (qA nd (oA (vv 4) (j4 (k5 (o:=.rt) (j3 (kz (o:=.no) (j3 (oA (j4 (k5 (o:=.rt) (j3 (oX ks ki) j5))) (j4 (xX (vv 2) (xw ki) zJ))) (j3 (cv 3) j5))) (j3 (kz (o:=.no) (j3 (oA (j4 (k5 (o:=.rt) (j3 kI j5))) (j4 (xX (vv 2) (xw ki) zJ))) (j3 (cv 3) j5))) j5)))))) (jq (qkj (i:=5) (o:=.rt) (k:=1) (R:=[]) ["_law_room_here"] nd rfl (by first|exact Or.inl rfl|exact Or.inr rfl) (wv (cv 3)) (λ_ _ _ _ _=>(vxx (ZK (i:=0) (show(["_law_room_here"]:List Str).Nodup by decide +kernel) rfl (by first|exact Or.inl rfl|exact Or.inr rfl)))) (λ_ _ _ _ _=>qzy) (λ_ _ _ _ _=>(kz (o:=.no) (j3 (vX (kx (vv 0) ki)) (j3 (vX (kx (vv 0) ki)) (j3 (oA (kx (vv 0) ki) (j4 (xX (kx (vv 0) ki) zJ (xw ki)))) j5))))) WV ⟨_,_,rfl,rfl⟩ (by decide) (show ∀j∈([]:List Nat) ,j<8 by decide)) (jq (qA nd (oA (vv 4) (j4 (k5 (o:=.rt) (j3 (kz (o:=.no) (j3 (oA (vv 2) (j4 (xX (vv 2) zJ (xw ki)))) (j3 (cv 5) j5))) (j3 (kz (o:=.no) (j3 (cv 2) (j3 (oA (vv 3) (j4 (k5 (o:=.rt) (j3 (qC ag hr (j3 kI (j3 (cv 2) j5))) j5)))) j5))) j5)))))) (jq (qA nd (oA (vv 4) (j4 (k5 (o:=.rt) (j3 (kz (o:=.no) (j3 (cv 2) (j3 (oA (vv 3) (j4 (oX (j4 (k5 (o:=.rt) (j3 (qC ag hr (j3 kI (j3 (cv 2) j5))) j5))) (j4 (xY W3 Vw ki (j4 (qL (vv 3) T.b_len))))))) j5))) j5))))) (jq (qkj (i:=6) (o:=.rt) (k:=1) (R:=[]) ["_law_room_here"] nd rfl (by first|exact Or.inl rfl|exact Or.inr rfl) (wv (cv 3)) (λ_ _ _ _ _=>(vxx (ZK (i:=0) (show(["_law_room_here"]:List Str).Nodup by decide +kernel) rfl (by first|exact Or.inl rfl|exact Or.inr rfl)))) (λ_ _ _ _ _=>qzy) (λ_ _ _ _ _=>(qC ag hr (j3 kI (j3 kS j5)))) WV ⟨_,_,rfl,rfl⟩ (by decide) (show ∀j∈([]:List Nat) ,j<8 by decide)) (jq (qA nd (kz (o:=.no) (j3 (k5 (o:=.rt) (j3 kS (j3 kS j5))) (j3 (qM .rt 1 [] 8 ["_law_room_here"] (wv (cv 3)) (λ_ _ _ _ _=>(qC ag hr (j3 kI (j3 kS j5))))) j5)))) (jq (wV (QJ vw1 (xQ (g:=λa b=>decide (b<a))) (j4 (qL (vv 2) T.b_len)) ki (vK _) K9) (jQ (qA nd (kz (o:=.no) (j3 (vqy (vv 2)) (j3 (cv 3) j5))))) wX) (jQ (kK (vX (kx (j4 (oA (vv 4) (j4 (k5 (o:=.rt) (j3 (kz (o:=.no) (j3 (k5 (o:=.rt) (j3 kS (j3 kS (j3 kS (j3 kS j5))))) (j3 (cv 6) j5))) (j3 (cv 7) j5)))))) (vv 1)))))))))))))))) h
theorem kvq(T:Txt K mg)  (F:Fun K "_law_room" "_law_room" jx1 f fd):FnOk P w K mg base (CXE P w) 1 f fd ["_law_room_here","_law_way","_law_x"] (spF K mg 3 jqx):=
 v3 F sc__law_room (v6 rfl) λbd A outer s H vs Q E hr h=>have nd:=sc__law_room.nd;v5 rfl
  (jq (kxz (cv 0) (ZV (is:=[3,4,5]) (YQ K (t:=gNs [3,4,5]) (n:=3) (wY (gn nd) (wY (gn nd) (wY (gn nd) W8)))))) (jq (qA nd (k5 (o:=.rt) (j3 (k5 (o:=.rt) (j3 (cv 3) (j3 (cv 4) (j3 (cv 5) j5)))) (j3 (kz (o:=.no) (j3 (cv 3) (j3 (cv 4) j5))) (j3 (kz (o:=.no) (j3 (cv 3) (j3 (cv 4) (j3 (cv 5) (j3 kI j5))))) (j3 kN (j3 (kz (o:=.no) (j3 (q_C vQ (λ_=>vJ)) (j3 (cv 4) (j3 (cv 5) j5)))) j5))))))) (jq (qA nd (oA (vv 6) (j4 (k5 (o:=.rt) (j3 (kz (o:=.no) (j3 (oA (vv 3) ki) (j3 (cv 4) (j3 (cv 5) j5)))) (j3 (kz (o:=.no) (j3 (xY W3 Vw (vv 3) ki) (j3 (cv 4) (j3 (cv 5) j5)))) (j3 (kz (o:=.no) (j3 (zY qxf vxi (vv 3) T.b_str qzb) (j3 (cv 4) (j3 (cv 5) j5)))) j5))))))) (jq (qA nd (oA (vv 6) (j4 (k5 (o:=.rt) (j3 (kz (o:=.no) (j3 (cv 3) (j3 (zY WZ Ww (vv 4) T.b_int W4) (j3 (cv 5) j5)))) (j3 (kz (o:=.no) (j3 (cv 3) (j3 kN (j3 (cv 5) j5)))) (j3 (kz (o:=.no) (j3 (cv 3) (j3 (cv 4) (j3 (qT (vv 5) T.b_tuple) j5)))) j5))))))) (jq (qA nd (oA (vv 6) (j4 (k5 (o:=.rt) (j3 (kz (o:=.no) (j3 (cv 3) (j3 (cv 4) (j3 (xX (vv 5) (xw ki) zJ) j5)))) (j3 (kz (o:=.no) (j3 (cv 3) (j3 (cv 4) (j3 (oA (vv 5) (j4 (xX (vv 5) zJ (xw ki)))) j5)))) j5)))))) (jq (qA nd (oM (vv 2) (j4 (qL (vv 5) T.b_len)))) (jq (qF (wv (k5 (o:=.rt) (j3 (qT (kx (vv 5) (vv 7)) T.b_tuple) (j3 (oA (kx (vv 5) (vv 7)) (j4 (k5 (o:=.rt) (j3 kN j5)))) (j3 (xX (kx (vv 5) (vv 7)) (xw ki) zJ) (j3 kN j5)))))) (gN nd) (jQ (qP (kz (o:=.no) (j3 (cv 3) (j3 (cv 4) (j3 (oA (j4 (oA (j4 (xX (vv 5) zJ (xw (vv 7)))) (j4 (k5 (o:=.rt) (j3 (cv 8) j5))))) (j4 (xX (vv 5) (xw (j4 (oA (vv 7) ki))) zJ))) j5))))))) (jQ (kK (vX (kx (vv 6) (vv 1)))))))))))) h
theorem kjf(T:Txt K mg)  (F:Fun K "_law_no_case" "_law_no_case" jv4 f fd):FnOk P w K mg base (CXE P w) 1 f fd ["_law_rooms","_law_keepers","_law_last","_law_way"] (spF K mg 4 jko):=
 v3 F sc__law_no_case (v6 rfl) λbd A outer s H vs Q E hr h=>have nd:=sc__law_no_case.nd;vqg rfl
  (kxq (qk6 nd (qX (qL (vv 0) T.b_len)))
   (kxq (qk6 nd (WK (o:=.rt) (jY (WK (o:=.rt) (jY (qX kI) (jY (vw (o:=.no) qQ) qQ))) (jY (WK (o:=.rt) qQ) (jY (vw (o:=.no) qQ) (jY (vw (o:=.no) (jY (qX kI) qQ)) (jY (vw (o:=.no) (jY (qX kI) (jY (vw (o:=.no) qQ) (jY (qX kI) qQ)))) (jY (vw (o:=.no) (jY (qX (cv 4)) (jY (vw (o:=.no) qQ) qQ))) (jY (vw (o:=.no) (jY (qX (wkr qju qze ki)) (jY (vw (o:=.no) qQ) qQ))) (jY (vw (o:=.no) (jY (qX (q_C vQ (λ_=>vJ))) (jY (vw (o:=.no) qQ) qQ))) (jY (vw (o:=.no) (jY (qX kS) (jY (vw (o:=.no) qQ) qQ))) (jY (vw (o:=.no) (jY (qX kI) (jY (WK (o:=.rt) qQ) qQ))) (jY (vw (o:=.no) (jY (qX kI) (jY (vw (o:=.no) (jY (qX kI) qQ)) qQ))) (jY (qX kI) qQ))))))))))))))
   (kxq (qk6 nd (qX (oA (vv 1) (j4 (zY WZ Ww (vv 2) T.b_int W4)))))
   (kxq (vqh (WK (o:=.rt) (jY (vw (o:=.no) (jY (qX kI) (jY (qX kI) qQ))) (jY (vw (o:=.no) (jY (qX (cv 6)) (jY (qX kI) qQ))) (jY (vw (o:=.no) (jY (qX (wkr qju qze ki)) (jY (qX kI) qQ))) (jY (vw (o:=.no) (jY (qX kN) (jY (qX kI) qQ))) (jY (vw (o:=.no) (jY (qX kS) (jY (qX kI) qQ))) (jY (vw (o:=.no) (jY (qX (q_C vQ (λ_=>vJ))) (jY (qX kI) qQ))) (jY (vw (o:=.no) (jY (WK (o:=.rt) qQ) (jY (qX kI) qQ))) qQ)))))))) (gN nd) (qxn (wkd (qP (kz (o:=.no) (j3 (xY W3 Vw (vv 4) ki) (j3 (cv 7) j5)))))))
   (qxn (wkd (kK (vX (kx (vv 5) (j4 (oM (vv 3) (j4 (qL (vv 5) T.b_len))))))))))))) h
theorem kje(T:Txt K mg)(ai:jqo P w K mg base)(ax:jvq P w K mg base)(bg:jwt P w K mg base)(bu:jzu P w K mg base)(cg:kk8 P w K mg base)(ag:jvr P w K mg base)(F:Fun K "_law_spoiled" "_law_spoiled" jv3 f fd):FnOk P w K mg base (CXE P w) 3 f fd ["_law_plain_here","_law_x"] (spF K mg 2 jkn):=
 v3 F sc__law_spoiled (v6 rfl) λbd A outer s H vs Q E hr h=>have nd:=sc__law_spoiled.nd;v5 rfl
  (jq (kxz (qC ai hr (j3 (cv 1) (j3 (k5 (o:=.rt) (j3 kI (j3 kI (j3 kI (j3 kI j5))))) j5))) (ZV (is:=[2,3,4,5]) (YQ K (t:=gNs [2,3,4,5]) (n:=4) (wY (gn nd) (wY (gn nd) (wY (gn nd) (wY (gn nd) W8))))))) (jq (wV (QJ Wz (xQ (g:=λa b=>decide (a<b))) (vv 2) ki (vK _) K9) (jQ (kK (qC bu hr (j3 (cv 0) (j3 (cv 2) j5))))) wX) (jq (vqx (i:=6) (j:=7) (qC ax hr (j3 (cv 0) j5)) (YQ K (t:=gNs [6,7]) (n:=2) (wY (gn nd) (wY (gn nd) W8)))) (jq (qA nd (oM (vv 3) (j4 (qL (vv 7) T.b_len)))) (jq (wV (QJ Wz (xQ (g:=λa b=>decide (a<b))) (vv 2) ki (vK _) K9) (jq (vzo (i:=7) (vzp (i:=7) (pv 7) (vv 3) (qC cg hr (j3 (vX (kx (vv 7) (vv 3))) (j3 (xY W3 Vw (vv 2) ki) (j3 (cv 4) j5)))))) (jQ (kK (kz (o:=.no) (j3 (cv 6) (j3 (cv 7) j5)))))) wX) (q_al (i:=7) (jc:=8) (ik:=5) (ir:=3) (by decide) (by decide) (by decide) nd rfl (by first|exact Or.inl rfl|exact Or.inr rfl) rfl (by first|exact Or.inl rfl|exact Or.inr rfl) (pv 7) (pv 3) (λ_ _=>rfl) (λ_ _=>rfl) (oM (vv 4) (j4 (qL (vv 6) T.b_len))) (λ_ _=>rfl) (oM (vv 5) (j4 (qL (vv 8) T.b_len))) (pv 7) (vj1 ag (hr.mono (by decide)) WV (YZ ki (YZ (vv 6) vv6))) kvy (pv 7) (YZ (kx (kx (vv 7) (vv 3)) ki) (YZ (j4 (xV (xZ hr.units) z5 (vv 5) (kx (kx (vv 7) (vv 3)) ki) (vK _))) (YZ (j4 (xY W3 Vw (vv 2) ki)) vv6))) bg (hr.mono (by decide)) WV (pv 8) (pv 5) (jQ (kK (kz (o:=.no) (j3 (cv 6) (j3 (cv 7) j5))))))))))) h
theorem vw6(T:Txt K mg)(bv:jzs P w K mg base)(ax:jvq P w K mg base)(ao:jxd P w K mg base)(bq:jzt P w K mg base)(b5:kk7 P w K mg base)(bi:jws P w K mg base)(ag:jvr P w K mg base)(F:Fun K "law" "law" qzs f fd):FnOk P w K mg base (CXE P w) 10 f fd ["_law_script"] (spF K mg 1 m_law):=
 v3 F sc_law (v6 rfl) λbd A outer s H vs Q E hr h=>have nd:=sc_law.nd;v5 rfl
  (jq (qA nd (qC bv hr (j3 (qC ao hr (j3 (cv 0) (j3 kI j5))) (j3 (oA ki (j4 (oM (j4 (qC ao hr (j3 (cv 0) (j3 kI j5)))) ki))) j5)))) (jq (qA nd (vX (kx (j4 (qC bq hr (j3 (cv 0) (j3 kI (j3 (cv 1) j5))))) ki))) (jq (qA nd (oA ki (j4 (oM (j4 (qC ao hr (j3 (cv 0) (j3 kI j5)))) (j4 (xY W3 Vw ki (j4 (qL (kx (vv 2) ki) T.b_len)))))))) (jq (qA nd (qC ax hr (j3 (cv 2) j5))) (jq (wV (QW.pt (W1 (wW (z4 (j4 (qC b5 hr (j3 (cv 4) (j3 (q_C vQ (λ_=>vJ)) j5)))))) (Vv (wW (z4 (j4 (qC b5 hr (j3 (qC bi hr (j3 (cv 2) (j3 (qC ao hr (j3 (cv 0) (j3 kI j5))) j5))) (j3 (q_C vQ (λ_=>vJ)) j5))))))))) (jQ (kK (q_C vQ (λ_=>vJ)))) wX) (jq (qA nd (kz (o:=.no) (j3 (zY (kj4 K) kqz (vv 1) T.b_list Q8) (j3 (oA (j4 (oA (kx (j4 (qC ax hr (j3 (cv 2) j5))) ki) (j4 (k5 (o:=.rt) (j3 (qC ag hr (j3 kI (j3 (cv 1) j5))) j5))))) (j4 (oX (j4 (k5 (o:=.rt) (j3 (qC ag hr (j3 kI (j3 (cv 1) j5))) j5))) (j4 (xY W3 Vw (vv 3) ki))))) j5)))) (jq (wV (wW (z4 (j4 (qC b5 hr (j3 (cv 5) (j3 (q_C vQ (λ_=>vJ)) j5)))))) (jQ (kK (q_C vQ (λ_=>vJ)))) wX) (jq (qF (wv (k5 (o:=.rt) (j3 kN (j3 kI (j3 kS (j3 (kz (o:=.no) j5) (j3 (k5 (o:=.rt) j5) (j3 vv4 j5)))))))) (gN nd) (jQ (wV (wW (z4 (j4 (qC b5 hr (j3 (cv 6) (j3 (q_C vQ (λ_=>vJ)) j5)))))) (jQ (kK (q_C vQ (λ_=>vJ)))) wX))) (jQ (kK (z3 (j4 (qC b5 hr (j3 (cv 4) (j3 (q_C vQ (λ_=>vJ)) j5)))) (zW (xV (xZ hr.units) z5 (vv 4) (vv 2) (vK _)))))))))))))) h
end
theorem all_mk{l:PySem.W.OpenLaw}{w:PySem.World}{K:PySem.W.Frag}{h:Heap}{mg:Str->Option Value}{fa:Addr}(X:K.In h)(G:h.Ns mainGlobals mg)(hfa:mg "law"=some (.ref fa)){ff cj d4 d6 ci:Value}
  (g0:Gf K "is_whole" jza)
  (g1:Gf K "is_sign" kj8)
  (g2:Gf K "is_tuple_of" jvj)
  (g3:Gf K "is_below" jzc)
  (g4:Gf K "are_signs" jwy)
  (g5:Gf K "has_plain_frame" jq1)
  (g6:Gf K "is_list_of" jvx)
  (g7:Gf K "are_plain_fills" jq4)
  (g8:Gf K "is_case" kj9)
  (g9:Gf K "are_cases" jwz)
  (g10:Gf K "are_plain_steps" jq2)
  (g11:Gf K "are_plain_rooms" jq3)
  (g12:Gf K "is_plain" jzb)
  (g13:Gf K "_law_draw" jx2)
  (g14:Gf K "_law_digits" jvk)
  (g15:Gf K "_law_signs" jvy)
  (g16:Gf K "_law_case" jx3)
  (g17:Gf K "_law_plain" jvz)
  (g18:Gf K "_law_copied" jvl)
  (g19:Gf K "_law_told" jx0)
  (g20:Gf K "_law_bare" jx4)
  (g21:Gf K "_law_outer" jw0)
  (g22:Gf K "_law_room" jx1)
  (g23:Gf K "_law_no_case" jv4)
  (g24:Gf K "_law_spoiled" jv3)
  (g25:Gf K "law" qzs)
  (q_LETTERS:PySem.W.nsIn K mainGlobals "LETTERS"=some (some ff)) (r_LETTERS:RelV (V.str "abcdefghijklmnopqrstuvwxyz") ff)
  (q_MOST_LETTERS:PySem.W.nsIn K mainGlobals "MOST_LETTERS"=some (some cj)) (r_MOST_LETTERS:RelV (V.int (8)) cj)
  (q_MOST_SIGNS:PySem.W.nsIn K mainGlobals "MOST_SIGNS"=some (some d4)) (r_MOST_SIGNS:RelV (V.int (3)) d4)
  (q_MOST_ROOMS:PySem.W.nsIn K mainGlobals "MOST_ROOMS"=some (some d6)) (r_MOST_ROOMS:RelV (V.int (200)) d6)
  (q_MOST_KEEPERS:PySem.W.nsIn K mainGlobals "MOST_KEEPERS"=some (some ci)) (r_MOST_KEEPERS:RelV (V.int (6)) ci)
  (z_all:PySem.W.nsIn K mainGlobals "all"=some none)
  (z_bool:PySem.W.nsIn K mainGlobals "bool"=some none)
  (z_int:PySem.W.nsIn K mainGlobals "int"=some none)
  (z_isinstance:PySem.W.nsIn K mainGlobals "isinstance"=some none)
  (z_len:PySem.W.nsIn K mainGlobals "len"=some none)
  (z_list:PySem.W.nsIn K mainGlobals "list"=some none)
  (z_range:PySem.W.nsIn K mainGlobals "range"=some none)
  (z_set:PySem.W.nsIn K mainGlobals "set"=some none)
  (z_sorted:PySem.W.nsIn K mainGlobals "sorted"=some none)
  (z_str:PySem.W.nsIn K mainGlobals "str"=some none)
  (z_tuple:PySem.W.nsIn K mainGlobals "tuple"=some none)
  : ∃fd:FuncData,(∀(s:Shared) (v:Value),BindsTo s fd ⟨[v],[]⟩ [("_law_script",v)])/\∀base:Heap,K.In base->base.Ns mainGlobals mg->FnOk l.prog w K mg base (CXE l.prog w) 10 fa fd ["_law_script"] (spF K mg 1 m_law):=by
 have T:Txt K mg:=⟨Y7 X G z_all,Y7 X G z_bool,Y7 X G z_int,Y7 X G z_isinstance,Y7 X G z_len,Y7 X G z_list,Y7 X G z_range,Y7 X G z_set,Y7 X G z_sorted,Y7 X G z_str,Y7 X G z_tuple,⟨_,PySem.W.mg_of X G q_LETTERS,r_LETTERS⟩,⟨_,PySem.W.mg_of X G q_MOST_LETTERS,r_MOST_LETTERS⟩,⟨_,PySem.W.mg_of X G q_MOST_SIGNS,r_MOST_SIGNS⟩,⟨_,PySem.W.mg_of X G q_MOST_ROOMS,r_MOST_ROOMS⟩,⟨_,PySem.W.mg_of X G q_MOST_KEEPERS,r_MOST_KEEPERS⟩⟩;refine g25.law X G hfa fun {base _ _} F=>?_
 have cy:kkz l.prog w K mg base:=g0.d X G (kwx T );have d8:kwi l.prog w K mg base:=g1.d X G (qjb T );have af:Zv l.prog w K mg base:=g2.d X G (kkd T );have az:jwo l.prog w K mg base:=g3.d X G (kwz T cy);have c9:kk5 l.prog w K mg base:=g4.d X G (kvn T d8);have b8:jvd l.prog w K mg base:=g5.d X G (jxr T af az);have b6:jwh l.prog w K mg base:=g6.d X G (kqh T );have b9:jvg l.prog w K mg base:=g7.d X G (jxu T af az);have cu:kwj l.prog w K mg base:=g8.d X G (qjc T b9 af az);have cf:kk6 l.prog w K mg base:=g9.d X G (kvo T b6 cu);have b7:jve l.prog w K mg base:=g10.d X G (jxs T b6 cf);have ba:jvf l.prog w K mg base:=g11.d X G (jxt T b8 b7);have cz:kq0 l.prog w K mg base:=g12.d X G (kwy T af c9 ba);have ao:jxd l.prog w K mg base:=g13.d X G (kvr T );have ai:jqo l.prog w K mg base:=g14.d X G (kke T );have bv:jzs l.prog w K mg base:=g15.d X G (kqi T ai);have cp:kk9 l.prog w K mg base:=g16.d X G (kvt T );have bq:jzt l.prog w K mg base:=g17.d X G (kqj T ai ao cp);have ax:jvq l.prog w K mg base:=g18.d X G (kkf T );have b5:kk7 l.prog w K mg base:=g19.d X G (kvp T cz);have ag:jvr l.prog w K mg base:=g20.d X G (kvu T );have bu:jzu l.prog w K mg base:=g21.d X G (kqk T ag);have cg:kk8 l.prog w K mg base:=g22.d X G (kvq T );have bg:jwt l.prog w K mg base:=g23.d X G (kjf T );have bi:jws l.prog w K mg base:=g24.d X G (kje T ai ax bg bu cg ag);exact vw6 T bv ax ao bq b5 bi ag F
end Nk30
namespace PySem.W.Fast
theorem tw17739178997228828019:True:=⟨⟩
theorem tw8912824305989553454:True:=⟨⟩
theorem tw15518019529902017862:True:=⟨⟩
theorem tw4817349331124537733:True:=⟨⟩
theorem tw276350481700746781:True:=⟨⟩
theorem tw15986840584557530237:True:=⟨⟩
theorem tw15383135654248971601:True:=⟨⟩
theorem tw9646808364970982387:True:=⟨⟩
theorem tw7122468248285520702:True:=⟨⟩
theorem tw7183686561568322436:True:=⟨⟩
theorem tw14208451330918118379:True:=⟨⟩
theorem tw6435455533354321766:True:=⟨⟩
theorem tw9451316864493065147:True:=⟨⟩
theorem tw9321091936926419289:True:=⟨⟩
theorem tw6934425812723606597:True:=⟨⟩
theorem tw15010423827656301437:True:=⟨⟩
theorem tw14754295172314706708:True:=⟨⟩
theorem tw5545936940576279416:True:=⟨⟩
theorem tw8872528162082923574:True:=⟨⟩
theorem tw16670250572233803372:True:=⟨⟩
theorem tw17938311931800235884:True:=⟨⟩
theorem tw10989960481302516503:True:=⟨⟩
theorem tw7527334971983110112:True:=⟨⟩
theorem tw4625568059833708394:True:=⟨⟩
theorem tw8305140658174801278:True:=⟨⟩
theorem tw8389899465743324207:True:=⟨⟩
theorem tw9769164739743555396:True:=⟨⟩
theorem tw4142897842674481970:True:=⟨⟩
theorem tw7958281088211615169:True:=⟨⟩
theorem tw10349692715514409134:True:=⟨⟩
theorem tw17815582687126439716:True:=⟨⟩
theorem tw10703336098275547811:True:=⟨⟩
theorem tw9311707022580417023:True:=⟨⟩
theorem tw15734062815916053403:True:=⟨⟩
theorem tw1213831523024673323:True:=⟨⟩
theorem tw17791563399291648281:True:=⟨⟩
theorem tw13103759928041452198:True:=⟨⟩
theorem tw12415903411602291345:True:=⟨⟩
theorem tw2916430553136782200:True:=⟨⟩
theorem tw14175513861042756913:True:=⟨⟩
theorem tw7140429092695851557:True:=⟨⟩
theorem tw9552461672466817539:True:=⟨⟩
theorem tw3425893797820360187:True:=⟨⟩
theorem tw2037973896598879070:True:=⟨⟩
theorem tw10440492499295399170:True:=⟨⟩
theorem tw11401701243565235368:True:=⟨⟩
theorem tw60574006028860301:True:=⟨⟩
theorem tw10410470655290119930:True:=⟨⟩
theorem tw1273111097056963899:True:=⟨⟩
theorem tw7572811862835328584:True:=⟨⟩
theorem tw667534859859426310:True:=⟨⟩
theorem tw1606085901895603388:True:=⟨⟩
theorem tw8533927864077830064:True:=⟨⟩
theorem tw18141234464330052064:True:=⟨⟩
theorem tw16865468355091195782:True:=⟨⟩
theorem tw1066963267368009020:True:=⟨⟩
theorem tw13331014038396092424:True:=⟨⟩
theorem tw3092114416668247090:True:=⟨⟩
theorem tw9014591395779404459:True:=⟨⟩
theorem tw5993459617851229675:True:=⟨⟩
theorem tw16572562155233054300:True:=⟨⟩
theorem tw1975764253464117623:True:=⟨⟩
theorem tw6485192942381558921:True:=⟨⟩
theorem tw4241678473958164561:True:=⟨⟩
theorem tw9778588869343937665:True:=⟨⟩
theorem tw11552600980026912433:True:=⟨⟩
theorem tw17962143315552039667:True:=⟨⟩
theorem tw13870920252874200657:True:=⟨⟩
theorem tw15642902582889567292:True:=⟨⟩
theorem tw1766330641436203904:True:=⟨⟩
theorem tw8270977218414086985:True:=⟨⟩
end PySem.W.Fast
open PySem PySem.W PyProof.Rows
set_option maxRecDepth 100000 in
set_option maxHeartbeats 0 in
theorem PySem.Challenge.cw_freshrooms_k30_what_is_plain_holds : PySem.Challenge.rw_freshrooms_k30_what_is_plain.Holds := by
 w_on;o_law;k_head;(case hw=>w_witness2)
 k_fill
 refine Q.walkQ (l:=PySem.Challenge.rw_freshrooms_k30_what_is_plain) (n:=63) (k:=10) (x:="_law_script") (f:=Nk30.m_law) rfl (by decide) rfl ⟨rfl,by decide,by decide,rfl⟩ (fun w h Y=>PySem.W.kIn_of Y) ?F Nk30.law_true
 case F =>
  intro w mg fa h KX G hmg
  refine' Nk30.all_mk KX G hmg ?_ ?_ ?_ ?_ ?_ ?_ ?_ ?_ ?_ ?_ ?_ ?_ ?_ ?_ ?_ ?_ ?_ ?_ ?_ ?_ ?_ ?_ ?_ ?_ ?_ ?_ ?q_LETTERS ?r_LETTERS ?q_MOST_LETTERS ?r_MOST_LETTERS ?q_MOST_SIGNS ?r_MOST_SIGNS ?q_MOST_ROOMS ?r_MOST_ROOMS ?q_MOST_KEEPERS ?r_MOST_KEEPERS ?z_all ?z_bool ?z_int ?z_isinstance ?z_len ?z_list ?z_range ?z_set ?z_sorted ?z_str ?z_tuple
  all_goals try (refine' Q.Gf.mk ?a ?b ?c ?d;(case a=>k_is);(case b=>k_is);(case c=>k_is);(case d=>k_is))
  (case q_LETTERS=>k_is)
  (case r_LETTERS=>exact ⟨_,rfl⟩)
  (case q_MOST_LETTERS=>k_is)
  (case r_MOST_LETTERS=>exact ⟨_,rfl⟩)
  (case q_MOST_SIGNS=>k_is)
  (case r_MOST_SIGNS=>exact ⟨_,rfl⟩)
  (case q_MOST_ROOMS=>k_is)
  (case r_MOST_ROOMS=>exact ⟨_,rfl⟩)
  (case q_MOST_KEEPERS=>k_is)
  (case r_MOST_KEEPERS=>exact ⟨_,rfl⟩)
  (case z_all=>k_is)
  (case z_bool=>k_is)
  (case z_int=>k_is)
  (case z_isinstance=>k_is)
  (case z_len=>k_is)
  (case z_list=>k_is)
  (case z_range=>k_is)
  (case z_set=>k_is)
  (case z_sorted=>k_is)
  (case z_str=>k_is)
  (case z_tuple=>k_is)
