import PyProof.Rows.All
import Wide.All
import OpenK.AllK
import Wide.FinOn
import Lean
import PyProof.EqAt
import PyProof.EqKinds
import PyProof.TupleCall
import PyProof.NeKinds
import PyProof.IsiNone
import PyProof.FactsAll.NoneType_1
import KE.KIntText
import PyProof.DictItems
import KE.KPairComp
import PyProof.Rows.TupDisplay
import KE.KDictList
import PyProof.SumWalk
import PyProof.Rows.RuleIs
import KE.KDictOf
import KE.KDictLaws
import PyProof.ReprRoads
import PyProof.AttrMissHeap
import PyProof.Draws
import PyProof.EnumMake
import PySem.Challenge.RW_freshrooms_k37_there_and_back
set_option Elab.async false
set_option linter.all false
set_option maxRecDepth 100000
theorem oq9{α : Type _}{a b : α}(h:some a=some b):a=b:=Option.some.inj h
theorem lr9{α : Type _}{a : α}{b : List α}(c : List α)(h:a ∈ b):a ∈ c ++ b:=List.mem_append_right c h
theorem ll9{α : Type _}{a : α}{b : List α}(c : List α)(h:a ∈ b):a ∈ b ++ c:=List.mem_append_left c h
theorem lc9{α : Type _}{a : α}{l : List α}(b : α)(h:a ∈ l):a ∈ b::l:=List.mem_cons_of_mem b h
section
open PySem PySem.Spec PyProof.Rows
theorem X0:type_of% @List.getElem?_eq_getElem:=@List.getElem?_eq_getElem
theorem X1:type_of% @wpAny_bind:=@wpAny_bind
theorem X2:type_of% @List.getD_eq_getElem?_getD:=@List.getD_eq_getElem?_getD
theorem X3:type_of% @List.length_map:=@List.length_map
theorem X4:type_of% @List.mem_cons_self:=@List.mem_cons_self
theorem X5:type_of% @wpAny_pure:=@wpAny_pure
theorem X6:type_of% @Heap.get?_push_of_some:=@Heap.get?_push_of_some
theorem X7:type_of% @List.length_append:=@List.length_append
theorem X8:type_of% @Nat.le_refl:=@Nat.le_refl
theorem X9:type_of% @decide_eq_false:=@decide_eq_false
theorem Xa:type_of% @List.size_toArray:=@List.size_toArray
theorem Xb:type_of% @decide_eq_true:=@decide_eq_true
theorem Xd:type_of% @List.length_cons:=@List.length_cons
theorem Xe:type_of% @List.nodup_append:=@List.nodup_append
theorem Xf:type_of% @if_pos:=@if_pos
theorem Xg:type_of% @List.mem_map_of_mem:=@List.mem_map_of_mem
theorem Xh:type_of% @Heap.lt_size:=@Heap.lt_size
theorem Xi:type_of% @List.getElem?_map:=@List.getElem?_map
theorem Xj:type_of% @if_neg:=@if_neg
theorem Xk:type_of% @List.getElem_mem:=@List.getElem_mem
theorem Xl:type_of% @Heap.get?_push_size:=@Heap.get?_push_size
theorem Xm:type_of% @List.not_mem_nil:=@List.not_mem_nil
theorem Xn:type_of% @Nat.lt_of_lt_of_le:=@Nat.lt_of_lt_of_le
theorem Xp:type_of% @List.mem_of_getElem?:=@List.mem_of_getElem?
theorem Xq:type_of% @List.append_nil:=@List.append_nil
theorem Xr:type_of% @List.append_assoc:=@List.append_assoc
theorem Xs:type_of% @List.map_append:=@List.map_append
theorem Xu:type_of% @List.mem_cons:=@List.mem_cons
theorem Xv:type_of% @List.nodup_nil:=@List.nodup_nil
theorem Xw:type_of% @Nat.ne_of_lt:=@Nat.ne_of_lt
theorem Xx:type_of% @List.getElem?_append_right:=@List.getElem?_append_right
theorem Xy:type_of% @Int.emod_lt_of_pos:=@Int.emod_lt_of_pos
theorem Xz:type_of% @PyProof.Rows.callWith_type1:=@PyProof.Rows.callWith_type1
theorem Y0:type_of% @wpAny_newObj_type:=@wpAny_newObj_type
theorem Y1:type_of% @List.getElem?_append_left:=@List.getElem?_append_left
theorem Y2:type_of% @Nat.le_trans:=@Nat.le_trans
theorem Y3:type_of% @PySem.W.mg_none_of:=@PySem.W.mg_none_of
theorem Y4:type_of% @Nat.zero_le:=@Nat.zero_le
theorem Y5:type_of% @Int.emod_nonneg:=@Int.emod_nonneg
theorem Y6:type_of% @List.map_map:=@List.map_map
theorem Y7:type_of% @Array.length_toList:=@Array.length_toList
theorem Y8:type_of% @List.getElem?_eq_none:=@List.getElem?_eq_none
theorem Y9:type_of% @List.singleton_append:=@List.singleton_append
theorem Ya:type_of% @List.length_range:=@List.length_range
theorem Yb:type_of% @Int.toNat_natCast:=@Int.toNat_natCast
theorem Yc:type_of% @Nat.lt_irrefl:=@Nat.lt_irrefl
theorem Yd:type_of% @List.length_replicate:=@List.length_replicate
theorem Ye:type_of% @List.length_singleton:=@List.length_singleton
theorem Yf:type_of% @wpAny_call_entry:=@wpAny_call_entry
theorem Yg:type_of% @PySem.mem_of_lookup:=@PySem.mem_of_lookup
theorem Yh:type_of% @List.foldl_cons:=@List.foldl_cons
theorem Yi:type_of% @Array.getElem?_toList:=@Array.getElem?_toList
theorem Yj:type_of% @List.getElem?_set_ne:=@List.getElem?_set_ne
theorem Yk:type_of% @wpAny_typeNameOfWhole_keyiter:=@wpAny_typeNameOfWhole_keyiter
theorem Yl:type_of% @List.flatten_cons:=@List.flatten_cons
theorem Ym:type_of% @of_decide_eq_true:=@of_decide_eq_true
theorem Yn:type_of% @List.prefix_rfl:=@List.prefix_rfl
theorem Yo:type_of% @Heap.get?_update_ne:=@Heap.get?_update_ne
theorem Yp:type_of% @Calls.callWith_builtin:=@Calls.callWith_builtin
theorem Yq:type_of% @wpAny_holding:=@wpAny_holding
theorem Yr:type_of% @PySem.W.mg_of:=@PySem.W.mg_of
theorem Ys:type_of% @wpAny_Call_Name_kw:=@wpAny_Call_Name_kw
theorem Yt:type_of% @wpAny_passesOwn:=@wpAny_passesOwn
theorem Yu:type_of% @List.flatMap_cons:=@List.flatMap_cons
theorem Yv:type_of% @List.lookup_cons:=@List.lookup_cons
theorem Yw:type_of% @List.all_eq_true:=@List.all_eq_true
theorem Yx:type_of% @wpAny_field:=@wpAny_field
end
noncomputable section
namespace L2
open PySem PySem.Spec PyProof.Rows
abbrev Key:=Sum Int Str
def wk7:Key->Value->Bool
 | .inl k,v=>Value.isInt k v
 | .inr x,v=>Value.isStrOf x v
def keyH(w:World):Key->Int
 | .inl k=>hashInt k
 | .inr x=>hashStr w x
theorem jkb:∀{k:Key} {v:Value},wk7 k v=true->(∃i t,k=Sum.inl i/\v=Value.int i t)\/(∃x t,k=Sum.inr x/\v=Value.str x t)
 | .inl i,v,h=>by
  obtain⟨t,e⟩:=Value.isInt_shape (k:=i) (v:=v) h;exact .inl ⟨i,t,rfl,e⟩
 | .inr x,v,h=>by
  obtain⟨t,e⟩:=Value.isStrOf_shape (x:=x) (v:=v) h;exact .inr ⟨x,t,rfl,e⟩
theorem wk6(a b:Int):decide ((Sum.inl a:Key)=Sum.inl b)=(a==b):=by
 by_cases e:a=b
 ·subst e;simp
 ·have h:¬(Sum.inl a:Key)=Sum.inl b:=λq=>e (Sum.inl.inj q)
  rw[X9 h];exact(beq_eq_false_iff_ne.mpr e).symm
theorem wk3(a b:Str):decide ((Sum.inr a:Key)=Sum.inr b)=decide (a=b):=by
 by_cases e:a=b
 ·subst e;simp
 ·have h:¬(Sum.inr a:Key)=Sum.inr b:=λq=>e (Sum.inr.inj q)
  rw[X9 h,X9 e]
theorem wk5(a:Int)(b:Str):decide ((Sum.inl a:Key)=Sum.inr b)=false:=X9 (λq=>nomatch q)
theorem wk4(a:Str)(b:Int):decide ((Sum.inr a:Key)=Sum.inl b)=false:=X9 (λq=>nomatch q)
def kvb(prog:Program)(w:World):PySem.KeyKind prog w Key where
 is:=wk7
 hash:=keyH w
 inj:=λv a b ha hb=>by
  rcases jkb ha with⟨i,t,rfl,rfl⟩| ⟨x,t,rfl,rfl⟩
  ·rcases jkb hb with⟨j,u,rfl,e⟩| ⟨y,u,rfl,e⟩
   ·injection e with e1 _;rw[e1]
   ·exact nomatch e
  ·rcases jkb hb with⟨j,u,rfl,e⟩| ⟨y,u,rfl,e⟩
   ·exact nomatch e
   ·injection e with e1 _;rw[e1]
 byValue:=λk v h=>by
  rcases jkb h with⟨i,t,rfl,rfl⟩| ⟨x,t,rfl,rfl⟩<;>rfl
 pyHash:=λhv h=>by
  rcases jkb hv with⟨i,t,rfl,rfl⟩| ⟨x,t,rfl,rfl⟩
  ·exact wpAny_pyHash_int h
  ·exact wpAny_pyHash_str h
 eqBool:=λhu hv h=>by
  rcases jkb hu with⟨i,t,rfl,rfl⟩| ⟨x,t,rfl,rfl⟩
  ·rcases jkb hv with⟨j,u,rfl,rfl⟩| ⟨y,u,rfl,rfl⟩
   ·rw[wk6]at h;exact wpAny_eqBool_int h
   ·rw[wk5]at h;exact SeqAt.EqAt.int_str i t y u _ _ _ _ h
  ·rcases jkb hv with⟨j,u,rfl,rfl⟩| ⟨y,u,rfl,rfl⟩
   ·rw[wk4]at h;exact SeqAt.EqAt.str_int x t j u _ _ _ _ h
   ·rw[wk3]at h;exact wpAny_eqBool_str h
 «strs»:=λk x t v h=>by
  rcases jkb h with⟨i,u,rfl,e⟩| ⟨y,u,rfl,e⟩
  ·exact nomatch e
  ·injection e with e1 _;subst e1;cases v<;>rfl
inductive V where
 | non | bl (b:Bool)| int (i:Int)| str (x:Str)| byt (b:Array UInt8)| flt (b:UInt64)| ref (a:Addr)| ty (n:String)
 deriving DecidableEq
def RelV:V->Value->Prop
 | .non,u=>u=Value.none
 | .bl b,u=>u=Value.bool b
 | .int i,u=>∃t,u=Value.int i t
 | .str x,u=>∃t,u=Value.str x t
 | .byt b,u=>∃t,u=Value.bytes b t
 | .flt b,u=>∃t,u=Value.float b t
 | .ref a,u=>u=Value.ref a
 | .ty n,u=>u=Value.type n
abbrev Vals:List V->List Value->Prop:=Paired RelV
theorem Vals.length{xs:List V}{us:List Value}(r:Vals xs us):xs.length=us.length:=Paired.length r
theorem Vals.get:∀{xs:List V} {us:List Value} {i:Nat} {x:V},Vals xs us->xs[i]?=some x->∃u,us[i]?=some u/\RelV x u
 | _,_,_,_,.nil,e=>by simp at e
 | _,_,0,_,.cons r _,e=>by simp at e;subst e;exact⟨_,rfl,r⟩
 | _,_,i+1,x,.cons _ t,e=>by
  obtain⟨u,h1,h2⟩:=Vals.get (i:=i) (x:=x) t (by simpa using e);exact⟨u,by simpa using h1,h2⟩
theorem Vals.append:∀{xs ys:List V} {us ws:List Value},Vals xs us->Vals ys ws->Vals (xs++ys) (us++ws)
 | _,_,_,_,.nil,s=>s
 | _,_,_,_,.cons r t,s=>.cons r (Vals.append t s)
theorem Vals.take:∀{xs:List V} {us:List Value} (n:Nat),Vals xs us->Vals (xs.take n) (us.take n)
 | _,_,0,_=>.nil
 | _,_,_+1,.nil=>.nil
 | _,_,n+1,.cons r t=>.cons r (Vals.take n t)
theorem Vals.drop:∀{xs:List V} {us:List Value} (n:Nat),Vals xs us->Vals (xs.drop n) (us.drop n)
 | _,_,0,r=>r
 | _,_,_+1,.nil=>.nil
 | _,_,n+1,.cons _ t=>Vals.drop n t
def wx4:Option V->Option Value->Prop
 | some v,some u=>RelV v u
 | none,none=>True
 | _,_=>False
def KV{κ:Type}:List (κ×V)->List (κ×Value)->Prop:=Paired λ(p:κ×V) (q:κ×Value)=>p.1=q.1/\RelV p.2 q.2
def kV:Key->V
 | .inl i=>.int i
 | .inr x=>.str x
inductive HO where
 | lst (xs:List V)
 | tup (xs:List V)
 | dK (kvs:List (Key×V))| dT (kvs:List (List Key×V))
 | set (S:Int->Bool) (n:Nat)
 | ins (C dx:Addr) (fs:List (Str×V))
 | own (x:Addr)
 | xd (fs:List (Str×V))
 | met (f x:Addr)
 | rng (lo hi:Int)
 | frz (o:Obj) (u:HO)
 | tbl (ps:Array Value)
 | ext (φ:Heap->Prop)
abbrev Hp:=Addr->Option HO
def IsTupD(h:Heap)(a:Addr)(items:Array Value):Prop:=∃o,h.get? a=some o/\o.cls=.type "tuple"/\o.dict=none/\∃n,o.data=.seq items n
theorem IsTupD.tup{h:Heap}{a:Addr}{items:Array Value}(p:IsTupD h a items):IsTup h a items:=by
 obtain⟨o,e,c,_,n,d⟩:=p;exact⟨o,e,c,n,d⟩
theorem IsTupD.new(h:Heap)(xs:Array Value):IsTupD (h.push { cls:=.type "tuple",data:=.seq xs }) h.objs.size xs:=⟨_,Xl _ rfl,rfl,rfl,0,rfl⟩
def upd(H:Hp)(a:Addr)(o:HO):Hp:=λb=>if b=a then some o else H b
theorem jjy{H:Hp}{a:Addr}{o:HO}:upd H a o a=some o:=by unfold upd;rw[Xf rfl]
theorem jjv{H:Hp}{a b:Addr}{o:HO}(h:b≠a):upd H a o b=H b:=by unfold upd;rw[Xj h]
theorem jk6{H:Hp}{a b:Addr}{o:HO}(h:H a=some o)(h':H b=none):a≠b:=by
 intro e;subst e;rw[h]at h';cases h'
section
variable (P:Program)(w:World)
def ObjOk(H : Hp)(h : Heap)(a : Addr): HO -> Prop
  | .lst xs => xs.length<=sizeLine /\ ∃(its : List Value) (n : Nat), Vals xs its /\ h.get? a = some { cls := .type "list", data := .seq its.toArray n }
  | .tup xs => xs.length<=sizeLine /\ ∃its : List Value, Vals xs its /\ IsTupD h a its.toArray
  | .dK kvs => kvs.length<=sizeLine /\ (a==sysModules) = false /\ ∃vs, KV kvs vs /\ h.DictOf (kvb P w) a vs
  | .dT kvs => kvs.length<=sizeLine /\ (a==sysModules) = false /\ ∃xs : List (List Key × Addr × Value),
      Paired (λ(p : List Key × V) (q : List Key × Addr × Value) => p.1 = q.1 /\ H q.2.1 = some (.tup (p.1.map kV)) /\ RelV p.2 q.2.2) kvs xs /\
      ∃o es ep, h.get? a = some o /\ o.ExactDict /\ o.data = .dict es ep /\ es.toList = xs.map (entryOfKey (tupleKind (kvb P w))) /\ (xs.map (·.1)).Nodup
  | .set S n => h.SetOf (intKind P w) a S n
  | .ins C dx fs => H dx = some (.own a) /\ fs.length<=1000 /\ dx≠a /\ h.get? a = some (PySem.W.instObj C dx) /\
      ∃mA, h.Ns1 dx mA /\ (∀f, wx4 (fs.lookup f) (mA f)) /\ PySem.Within mA (fs.map (·.1))
  | .own _ => ∃o, h.get? a = some o
  | .xd fs => ∃mA, h.Ns1 a mA /\ ∀f, wx4 (fs.lookup f) (mA f)
  | .rng lo hi => ∃t u v, h.get? a = some { cls := .type "range", data := .fields #[.int lo t, .int hi u, .int 1 v] }
  | .frz o u => h.get? a = some o /\ ObjOk H h a u
  | .tbl ps => h.get? a = some { cls := .none, data := .fields ps }
  | .met f x => h.get? a = some (PySem.W.methodObj (.ref f) (.ref x))
  | .ext φ => φ h /\ (∃o, h.get? a = some o) /\ ∀h1 h2 : Heap, φ h1 -> (∀o, h1.get? a = some o -> h2.get? a = some o) -> φ h2
def HOk(H:Hp)(h:Heap):Prop:=∀a o,H a=some o->ObjOk P w H h a o
end
section
variable {P:Program}{w:World}{H H':Hp}{h h':Heap}{a:Addr}{o:HO}
theorem ObjOk.lt(x:ObjOk P w H h a o):a<h.objs.size:=by
 cases o with
 | lst xs=>obtain⟨_,_,_,_,e⟩:=x;exact Xh e
 | tup xs=>obtain⟨_,_,_,p⟩:=x;exact p.tup.lt
 | dK kvs=>obtain⟨_,_,_,_,o,_,_,e,_⟩:=x;exact Xh e
 | dT kvs=>obtain⟨_,_,_,_,o,_,_,e,_⟩:=x;exact Xh e
 | set S n=>obtain⟨o,_,_,_,e,_⟩:=x;exact Xh e
 | ins C dx fs=>obtain⟨_,_,_,e,_⟩:=x;exact Xh e
 | own y=>obtain⟨_,e⟩:=x;exact Xh e
 | xd fs=>obtain⟨_,⟨_,_,_,e,_⟩,_⟩:=x;exact Xh e
 | rng lo hi=>obtain⟨_,_,_,e⟩:=x;exact Xh e
 | frz ob u=>obtain⟨e,_⟩:=x;exact Xh e
 | tbl ps=>exact Xh (show h.get? a=some _ from x)
 | met f y=>exact Xh (show h.get? a=some _ from x)
 | ext φ=>obtain⟨_,⟨_,e⟩,_⟩:=x;exact Xh e
theorem Paired.mapP{α β:Type}{F G:α->β->Prop}:∀{l₁:List α} {l₂:List β},Paired F l₁ l₂->(∀a b,F a b->G a b)->Paired G l₁ l₂
 | _,_,.nil,_=>.nil
 | _,_,.cons r t,f=>.cons (f _ _ r) (Paired.mapP t f)
theorem ObjOk.stay(x:ObjOk P w H h a o)(k:∀b u,(b=a\/H b=some (.own a))->h.get? b=some u->h'.get? b=some u)
  (ho:∀b,H b=some (.own a)->H' b=some (.own a)) (ht:∀b xs,H b=some (.tup xs)->H' b=some (.tup xs)):ObjOk P w H' h' a o:=by
 induction o with
 | lst xs=>obtain⟨z,its,n,r,e⟩:=x;exact⟨z,its,n,r,k _ _ (.inl rfl) e⟩
 | tup xs=>obtain⟨z,its,r,ob,e,c⟩:=x;exact⟨z,its,r,ob,k _ _ (.inl rfl) e,c⟩
 | dK kvs=>obtain⟨z,y,vs,r,ob,es,ep,e,c⟩:=x;exact⟨z,y,vs,r,ob,es,ep,k _ _ (.inl rfl) e,c⟩
 | dT kvs =>
  obtain⟨z,y,xs,r,ob,es,ep,e,c⟩:=x;exact⟨z,y,xs,Paired.mapP r λp q z=>⟨z.1,ht _ _ z.2.1,z.2.2⟩,ob,es,ep,k _ _ (.inl rfl) e,c⟩
 | set S n=>obtain⟨ob,es,ep,t,e,c⟩:=x;exact⟨ob,es,ep,t,k _ _ (.inl rfl) e,c⟩
 | ins C dx fs =>
  obtain⟨d,z,ne,e,mA,⟨od,es,ep,e2,c⟩,r⟩:=x;exact⟨ho _ d,z,ne,k _ _ (.inl rfl) e,mA,⟨od,es,ep,k _ _ (.inr d) e2,c⟩,r⟩
 | own y=>obtain⟨ob,e⟩:=x;exact⟨ob,k _ _ (.inl rfl) e⟩
 | xd fs=>obtain⟨mA,⟨od,es,ep,e,c⟩,r⟩:=x;exact⟨mA,⟨od,es,ep,k _ _ (.inl rfl) e,c⟩,r⟩
 | rng lo hi=>obtain⟨t,u,v,e⟩:=x;exact⟨t,u,v,k _ _ (.inl rfl) e⟩
 | frz ob u ih=>obtain⟨e,q⟩:=x;exact⟨k _ _ (.inl rfl) e,ih q⟩
 | tbl ps =>
  have e:h.get? a=some { cls:=.none,data:=.fields ps }:=x;show h'.get? a=some { cls:=.none,data:=.fields ps };exact k a _ (.inl rfl) e
 | met f y =>
  have e:h.get? a=some (PySem.W.methodObj (.ref f) (.ref y)):=x;show h'.get? a=some (PySem.W.methodObj (.ref f) (.ref y));exact k a _ (.inl rfl) e
 | ext φ=>obtain⟨p,⟨o,e⟩,st⟩:=x;exact⟨st _ _ p λo q=>k _ _ (.inl rfl) q,⟨o,k _ _ (.inl rfl) e⟩,st⟩
theorem HOk.lt(x:HOk P w H h)(e:H a=some o):a<h.objs.size:=(x a o e).lt
theorem HOk.fresh(x:HOk P w H h)(e:h.objs.size<=a):H a=none:=by
 cases q:H a with
 | none=>rfl
 | some u=>exact absurd (Xn (x.lt q) e) (Yc _)
theorem HOk.kept(x:HOk P w H h)(k:∀b u,h.get? b=some u->h'.get? b=some u):HOk P w H h':=λa o e =>
 (x a o e).stay (λb u _ q=>k b u q) (λ_ q=>q) λ_ _ q=>q
theorem HOk.laid(x:HOk P w H h)(k:∀b u,h.get? b=some u->h'.get? b=some u)(hp:h.objs.size<=a)(new:ObjOk P w (upd H a o) h' a o):HOk P w (upd H a o) h':=λb u e=>by
 have hn:=x.fresh hp
 by_cases hb:b=a
 ·subst hb;rw[jjy]at e;cases e;exact new
 ·rw[jjv hb]at e;exact(x b u e).stay (λc v _ q=>k c v q) (λc q=>by rw[jjv (jk6 q hn)];exact q) λc xs q=>by rw[jjv (jk6 q hn)];exact q
end
def Rd(H:Hp)(a:Addr)(u:HO):Prop:=H a=some u\/∃o,H a=some (.frz o u)
theorem Rd.ok{P:Program}{w:World}{H:Hp}{h:Heap}{a:Addr}{u:HO}(r:Rd H a u)(x:HOk P w H h):ObjOk P w H h a u:=by
 rcases r with r | ⟨o,r⟩
 ·exact x a u r
 ·obtain⟨_,q⟩:=x a _ r;exact q
def Mut:Option HO->Prop
 | some (.lst _)=>True
 | some (.dK _)=>True
 | some (.dT _)=>True
 | some (.set _ _)=>True
 | some (.ins _ _ _)=>True
 | some (.ext _)=>True
 | _=>False
section
variable {P:Program}{w:World}{H:Hp}{h h':Heap}{x e:Addr}{o':HO}
theorem HOk.write(ok:HOk P w H h)(mu:Mut (H x))(he:e=x\/H e=some (.own x))(k:∀b u,b≠e->h.get? b=some u->h'.get? b=some u)(heo:∃u,h'.get? e=some u)
  (new:ObjOk P w (upd H x o') h' x o'):HOk P w (upd H x o') h':=λb u q=>by
 have nown:∀c y,H c=some (.own y)->c≠x:=λc y r z=>by subst z;rw[r]at mu;exact mu
 have ntup:∀c xs,H c=some (.tup xs)->c≠x:=λc xs r z=>by subst z;rw[r]at mu;exact mu
 by_cases hb:b=x
 ·subst hb;rw[jjy]at q;cases q;exact new
 ·rw[jjv hb]at q
  by_cases hbe:b=e
  ·have q':H b=some (.own x):=by
    rcases he with z | z
    ·exact absurd (hbe.trans z) hb
    ·rw[hbe];exact z
   rw[q]at q';cases q';obtain⟨v,hv⟩:=heo;exact⟨v,by rw[hbe];exact hv⟩
  ·refine(ok b u q).stay (λc v hc r=>k c v ?_ r) (λc r=>by rw[jjv (nown c b r)];exact r) λc xs r=>by rw[jjv (ntup c xs r)];exact r
   rcases hc with rfl | hc
   ·exact hbe
   ·rintro rfl;rcases he with z | z
    ·exact nown c b hc z
    ·rw[hc]at z;cases z;exact hb rfl
end
structure Un (fs ex:List Addr)(H H':Hp)(h h':Heap):Prop where
 keep:∀b o,h.get? b=some o->H b=none->b∉fs->b∉ex->h'.get? b=some o
 slot:∀b o,h.get? b=some o->H b=none->b∈fs->b∉ex->∃sl,h'.get? b=some { o with slots:=sl }
 free:∀b o,h.get? b=some o->H b=none->b∉ex->H' b=none
 there:∀b o,h.get? b=some o->b∉ex->∃o',h'.get? b=some o'
 tups:∀b xs,H b=some (.tup xs)->H' b=some (.tup xs)
 frzs:∀b o u,H b=some (.frz o u)->H' b=some (.frz o u)
 tbls:∀b ps,H b=some (.tbl ps)->∃more,H' b=some (.tbl (ps++more))
section
variable {fs fs' ex ex':List Addr}{H H1 H2:Hp}{h h1 h2 h':Heap}{a x e:Addr}{o:HO}
theorem Un.any(u:Un fs ex H H1 h h1){b:Addr}{ob:Obj}(q:h.get? b=some ob)(n:H b=none)(hx:b∉ex):∃sl,h1.get? b=some { ob with slots:=sl }:=by
 by_cases hb:b∈fs
 ·exact u.slot b ob q n hb hx
 ·exact⟨ob.slots,u.keep b ob q n hb hx⟩
theorem Un.kept(k:∀b u,h.get? b=some u->h'.get? b=some u):Un fs ex H H h h' :=
 ⟨λb ob q _ _ _=>k b ob q,λb ob q _ _ _=>⟨ob.slots,k b ob q⟩,λ_ _ _ n _=>n,λb ob q _=>⟨ob,k b ob q⟩,λ_ _ q=>q,λ_ _ _ q=>q,λ_ ps q=>⟨#[],by rw[q];simp⟩⟩
theorem Un.refl:Un fs ex H H h h:=Un.kept λ_ _ q=>q
theorem Un.laid(k:∀b u,h.get? b=some u->h'.get? b=some u)(hp:h.objs.size<=a)(hn:H a=none):Un fs ex H (upd H a o) h h' where
 keep:=λb u q _ _ _=>k b u q
 slot:=λb u q _ _ _=>⟨u.slots,k b u q⟩
 free:=λb u q n _=>by rw[jjv (Xw (Xn (Xh q) hp))];exact n
 there:=λb u q _=>⟨u,k b u q⟩
 tups:=λb xs q=>by rw[jjv (jk6 q hn)];exact q
 frzs:=λb u xs q=>by rw[jjv (jk6 q hn)];exact q
 tbls:=λb ps q=>⟨#[],by rw[jjv (jk6 q hn),q];simp⟩
theorem Un.write(mu:Mut (H x))(he:e=x\/H e=some (.own x))(k:∀b u,b≠e->h.get? b=some u->h'.get? b=some u)(heo:∃u,h'.get? e=some u):Un fs ex H (upd H x o) h h':=by
 have hx:∀b,H b=none->b≠x:=λb n z=>by subst z;rw[n]at mu;exact mu
 have hb:∀b,H b=none->b≠e:=λb n z=>by
  subst z;rcases he with r | r
  ·exact hx b n r
  ·rw[n]at r;cases r
 have hm:∀b u,H b=some u->¬Mut (some u)->b≠x:=λb u q nm z=>by subst z;rw[q]at mu;exact nm mu
 refine⟨λb u q n _ _=>k b u (hb b n) q,λb u q n _ _=>⟨u.slots,k b u (hb b n) q⟩,λb u q n _=>by rw[jjv (hx b n)];exact n,λb u q _=>?_,
  λb xs q=>by rw[jjv (hm b _ q λz=>z)];exact q,λb u xs q=>by rw[jjv (hm b _ q λz=>z)];exact q,λb ps q=>⟨#[],by rw[jjv (hm b _ q λz=>z),q];simp⟩⟩
 by_cases hbe:b=e
 ·subst hbe;exact heo
 ·exact⟨u,k b u hbe q⟩
end
def trk(h:Heap)(H:Hp):List Addr:=(List.range h.objs.size).filter λa=>(H a).isSome
def vj2(h:Heap)(H:Hp):Heap:=PySem.W.hideAll h (trk h H)
theorem qwa(h:Heap)(H:Hp):(vj2 h H).objs.size=h.objs.size:=PySem.W.hideAll_size _ _
theorem vj1{h:Heap}{H:Hp}{b:Addr}{o:Obj}(e:h.get? b=some o)(n:H b=none):(vj2 h H).get? b=some o :=
 PySem.W.hideAll_get _ e λhm=>by
  have q:(H b).isSome=true:=(List.mem_filter.mp hm).2;rw[n]at q;simp at q
theorem vvp{h:Heap}{H:Hp}{b:Addr}{o:Obj}(e:(vj2 h H).get? b=some o):h.get? b=some o/\H b=none:=by
 have e':h.get? b=some o:=PySem.W.of_hideAll (trk h H) e;refine⟨e',?_⟩;cases q:H b with
 | none=>rfl
 | some x =>
  have hm:b∈trk h H:=List.mem_filter.mpr ⟨List.mem_range.mpr (Xh e'),by simp[q]⟩;have z:(vj2 h H).get? b=none:=PySem.W.hideAll_none (trk h H) hm;rw[z]at e;cases e
def vx0(g h:Heap)(L:Addr):List (Addr×Obj):=(List.range h.objs.size).filterMap λa=>if a=L\/(g.get? a).isSome=true then none else(h.get? a).map λo=>(a,o)
def jkp(g h:Heap)(L d:Addr):List (Addr×Obj):=(vx0 g h L).filter λp=>decide (p.1≠d)
structure Mod (K:PySem.W.Frag)(mg:Str->Option Value)(base:Heap):Prop where
 kin:K.In base
 glob:base.Ns mainGlobals mg
 blt:∃mb,base.Ns builtinsNs mb/\∀x:Str,x≠"__name__"->mb x=bootBuiltins x
 nolimit:base.NoLimit
structure Cx where
 prog:Program
 w:World
 K:PySem.W.Frag
 mg:Str->Option Value
 base:Heap
 A:Around
 N:List Str
 s₀:Shared
 H₀:Hp
 env:Env
 outer:List Env
 stack:List Env
 ex:List Addr
 fn:Str->Bool
 calm:Bool
 pn:List (Addr×Obj)
 xe:Value->Shared->Prop
def frs(l:List Env):List Addr:=l.filterMap (·.frame)
abbrev Cx.fs(X:Cx):List Addr:=frs X.outer
def Vis(sc:Scope)(x:Str):Prop:=sc.names.lookup x=some .local\/sc.names.lookup x=some .cell\/sc.names.lookup x=some .free
def Loc(sc:Scope)(x:Str):Prop:=sc.names.lookup x=some .local\/sc.names.lookup x=some .cell
def Look(env:Env)(h:Heap)(m:Str->Option Value)(x:Str)(u:Value):Prop :=
 (env.kindOf x=some .local/\m x=some u)\/((env.kindOf x=some .cell\/env.kindOf x=some .free)/\∃c,env.cells.lookup x=some c/\h.IsCell c (some u))
structure Cx.Ok (X:Cx):Prop where
 mod:Mod X.K X.mg X.base
 kind:X.env.scope.kind=.function
 glob:X.env.globals=mainGlobals
 blt:X.env.builtins=builtinsNs
 above:X.s₀.heap.objs.size<=X.env.locals
 inj:∀x y c,X.env.cells.lookup x=some c->X.env.cells.lookup y=some c->x=y
 has:∀x,(X.env.kindOf x=some .cell\/X.env.kindOf x=some .free)->∃c,X.env.cells.lookup x=some c
 cab:∀x c,X.fn x=true->X.env.cells.lookup x=some c->X.s₀.heap.objs.size<=c
 hd:X.calm=true->X.A.handled=none
 frames:X.A.frames=some X.stack
 stk:X.stack=X.outer\/(X.stack=X.env::X.outer/\X.env.frame=some X.env.locals)
 exf:∀b∈X.ex,b≠X.env.locals/\∀x c,X.env.cells.lookup x=some c->c≠b
 bs:∀b o,X.base.get? b=some o->X.s₀.heap.get? b=some o/\X.H₀ b=none
 bsz:X.base.objs.size<=X.s₀.heap.objs.size
 noex:∀b o,X.base.get? b=some o->b∉X.ex
 exfs:∀b∈X.ex,b∉X.fs
 funs:X.s₀.heap.FunFrames X.base X.outer
 frf:∀b∈X.fs,X.H₀ b=none
structure Inv (X:Cx)(pins:List (Addr×Obj))(σ:List (Option V))(H:Hp)(s:Shared):Prop where
 ok:X.Ok
 os:s.os=X.s₀.os
 bare:AllBare s.gens
 base:Un X.fs X.ex X.H₀ H X.s₀.heap s.heap
 loc:∃m,s.heap.Ns X.env.locals m/\∀(i:Nat) (x:Str) (v:V),X.N[i]?=some x->σ[i]?=some (some v)->Vis X.env.scope x->∃u,RelV v u/\Look X.env s.heap m x u
 cell:∀x c,X.env.cells.lookup x=some c->∃v,s.heap.IsCell c v
 free:H X.env.locals=none
 freeC:∀x c,X.env.cells.lookup x=some c->H c=none
 pin:∀p∈X.pn++pins,s.heap.get? p.1=some p.2/\H p.1=none/\p.1≠X.env.locals/\p.1∉X.fs/\∀v,p.2.data≠.cell v
 hok:HOk X.prog X.w H s.heap
 len:σ.length=X.N.length
section
variable {X:Cx}{pins:List (Addr×Obj)}{σ:List (Option V)}{H H':Hp}{s:Shared}{h':Heap}
theorem Cx.Ok.nofr(ok:X.Ok){b:Addr}{o:Obj}(e:X.base.get? b=some o):b∉X.fs:=λhb=>by
 have:=(ok.funs.mem hb).1;rw[e]at this;cases this
theorem Inv.bs(I:Inv X pins σ H s):∀b o,X.base.get? b=some o->s.heap.get? b=some o/\H b=none:=λb o e =>
 ⟨I.base.keep b o (I.ok.bs b o e).1 (I.ok.bs b o e).2 (I.ok.nofr e) (I.ok.noex b o e),I.base.free b o (I.ok.bs b o e).1 (I.ok.bs b o e).2 (I.ok.noex b o e)⟩
theorem Inv.bk(I:Inv X pins σ H s):∀b o,X.base.get? b=some o->s.heap.get? b=some o:=λb o e=>(I.bs b o e).1
theorem Inv.mod(I:Inv X pins σ H s):Mod X.K X.mg X.base:=I.ok.mod
theorem Inv.kIn(I:Inv X pins σ H s):X.K.In s.heap:=I.ok.mod.kin.keeps I.bk
theorem Inv.lt(I:Inv X pins σ H s):X.env.locals<s.heap.objs.size:=let ⟨_,hn,_⟩:=I.loc;hn.lt
theorem Inv.sz(I:Inv X pins σ H s):X.s₀.heap.objs.size<=s.heap.objs.size:=Y2 I.ok.above (Nat.le_of_lt I.lt)
theorem Inv.nofs(I:Inv X pins σ H s){a:Addr}(h:s.heap.objs.size<=a):a∉X.fs:=λhb=>by
 obtain⟨_,o,ho,_⟩:=I.ok.funs.mem hb;exact absurd (Xn (Xh ho) (Y2 I.sz h)) (Yc _)
theorem Inv.cne(I:Inv X pins σ H s):∀x c,X.env.cells.lookup x=some c->c≠X.env.locals:=λx c e z=>by
 obtain⟨v,o,ho,hd⟩:=I.cell x c e;obtain⟨m,⟨o',es,ep,ho',hd',_⟩,_⟩:=I.loc;rw[z,ho']at ho;cases ho;rw[hd']at hd;cases hd
theorem Inv.funs(I:Inv X pins σ H s):s.heap.FunFrames X.base X.outer:=by
 have all:∀(l:List Env),(∀b∈frs l,b∈X.fs)->X.s₀.heap.FunFrames X.base l->s.heap.FunFrames X.base l:=by
  intro l
  induction l with
  | nil=>intro _ _;trivial
  | cons env r ih =>
   intro hs hl;obtain⟨hk,⟨L,o,hf,hn,ho,hd⟩,hr⟩:=hl;have hL:L∈X.fs:=hs L (by unfold frs;rw[List.filterMap_cons,hf];exact X4);obtain⟨sl,e⟩:=I.base.slot L o ho (I.ok.frf L hL) hL λz=>I.ok.exfs L z hL
   exact⟨hk,⟨L,_,hf,hn,e,hd⟩,ih (λb hb=>hs b (by unfold frs;rw[List.filterMap_cons,hf];exact lc9 _ hb)) hr⟩
 exact all X.outer (λ_ hb=>hb) I.ok.funs
theorem Inv.stack(I:Inv X pins σ H s):s.heap.FunFrames X.base X.stack:=by
 rcases I.ok.stk with e | ⟨e,hf⟩
 ·rw[e];exact I.funs
 ·rw[e];obtain⟨m,hn,_⟩:=I.loc;refine .cons (by rw[I.ok.kind];decide) hf hn ?_ I.funs;exact Heap.get?_none_of_le (Y2 I.ok.bsz I.ok.above)
theorem Inv.stkSub(I:Inv X pins σ H s):∀b∈frs X.stack,b∈X.env.locals::X.fs:=λb hb=>by
 rcases I.ok.stk with e | ⟨e,hf⟩
 ·rw[e]at hb;exact lc9 _ hb
 ·rw[e]at hb;unfold frs at hb;rw[List.filterMap_cons,hf]at hb;exact hb
theorem Inv.stkFree(I:Inv X pins σ H s):∀b∈frs X.stack,H b=none:=λb hb=>by
 rcases List.mem_cons.mp (I.stkSub b hb)with e | hb
 ·rw[e];exact I.free
 ·obtain⟨_,o,ho,_⟩:=I.ok.funs.mem hb;exact I.base.free b o ho (I.ok.frf b hb) λz=>I.ok.exfs b z hb
theorem Inv.step{g':Array GenState}{t':Nat}{d':Drawn}{ch:List Addr}(I:Inv X pins σ H s)
  (hch:∀b∈ch,(b∈X.ex\/X.s₀.heap.objs.size<=b)/\b≠X.env.locals/\(∀x c,X.env.cells.lookup x=some c->c≠b)/\∀p∈X.pn++pins,p.1≠b)
  (keep:∀b o,b≠X.env.locals->b∉X.fs->b∉ch->s.heap.get? b=some o->H b=none->h'.get? b=some o)
  (slot:∀b o,b≠X.env.locals->b∈X.fs->b∉ch->s.heap.get? b=some o->H b=none->∃sl,h'.get? b=some { o with slots:=sl }) (free:∀b o,b∉ch->s.heap.get? b=some o->H b=none->H' b=none)
  (there:∀b o,b∉ch->s.heap.get? b=some o->∃o',h'.get? b=some o')
  (tups:∀b xs,H b=some (.tup xs)->H' b=some (.tup xs)) (frzs:∀b o u,H b=some (.frz o u)->H' b=some (.frz o u)) (tbls:∀b ps,H b=some (.tbl ps)->∃more,H' b=some (.tbl (ps++more)))
  (ns:∀m,s.heap.Ns X.env.locals m->h'.Ns X.env.locals m) (hok:HOk X.prog X.w H' h') (hg:AllBare g'):
  Inv X pins σ H' { s with heap:=h',gens:=g',drawn:=d',toks:=t' }:=by
 have neL:∀b o,X.s₀.heap.get? b=some o->b≠X.env.locals:=λb o e=>Xw (Xn (Xh e) I.ok.above)
 have neC:∀b o,X.s₀.heap.get? b=some o->b∉X.ex->b∉ch:=λb o e hx hb=>by
  rcases(hch b hb).1 with z | z
  ·exact hx z
  ·exact absurd (Xn (Xh e) z) (Yc _)
 have cellK:∀x c,X.env.cells.lookup x=some c->∀v,s.heap.IsCell c v->h'.IsCell c v:=λx c e v ⟨o,ho,hd⟩=>by
  have nch:c∉ch:=λz=>(hch c z).2.2.1 x c e rfl
  by_cases hc:c∈X.fs
  ·obtain⟨sl,q⟩:=slot c o (I.cne x c e) hc nch ho (I.freeC x c e);exact⟨_,q,hd⟩
  ·exact⟨o,keep c o (I.cne x c e) hc nch ho (I.freeC x c e),hd⟩
 refine⟨I.ok,I.os,hg,⟨λb o e n hb hx=>?_,λb o e n hb hx=>?_,λb o e n hx=>?_,λb o e hx=>?_,λb xs e=>tups b xs (I.base.tups b xs e),λb o xs e=>frzs b o xs (I.base.frzs b o xs e),λb ps e=>?_⟩,?_,λx c e=>?_,?_,λx c e=>?_,λp hp=>?_,hok,I.len⟩
 ·exact keep b o (neL b o e) hb (neC b o e hx) (I.base.keep b o e n hb hx) (I.base.free b o e n hx)
 ·obtain⟨sl,e1⟩:=I.base.slot b o e n hb hx;obtain⟨sl',e2⟩:=slot b _ (neL b o e) hb (neC b o e hx) e1 (I.base.free b o e n hx);exact⟨sl',e2⟩
 ·obtain⟨o',e1⟩:=I.base.there b o e hx;exact free b o' (neC b o e hx) e1 (I.base.free b o e n hx)
 ·obtain⟨o',e1⟩:=I.base.there b o e hx;exact there b o' (neC b o e hx) e1
 ·obtain⟨m1,e1⟩:=I.base.tbls b ps e;obtain⟨m2,e2⟩:=tbls b _ e1;exact⟨m1++m2,by rw[e2,Array.append_assoc]⟩
 ·obtain⟨m,hn,hl⟩:=I.loc;refine⟨m,ns m hn,λi x v e1 e2 e3=>?_⟩;obtain⟨u,r,l⟩:=hl i x v e1 e2 e3;refine⟨u,r,?_⟩;rcases l with l | ⟨k,c,e,z⟩
  ·exact .inl l
  ·exact .inr ⟨k,c,e,cellK x c e _ z⟩
 ·obtain⟨v,z⟩:=I.cell x c e;exact⟨v,cellK x c e v z⟩
 ·obtain⟨m,⟨o,_,_,ho,_⟩,_⟩:=I.loc;exact free _ o (λz=>(hch _ z).2.1 rfl) ho I.free
 ·obtain⟨v,o,ho,hd⟩:=I.cell x c e;exact free c o (λz=>(hch c z).2.2.1 x c e rfl) ho (I.freeC x c e)
 ·obtain⟨e,n,ne,nf,d⟩:=I.pin p hp;have nch:p.1∉ch:=λz=>(hch p.1 z).2.2.2 p hp rfl
  exact⟨keep p.1 p.2 ne nf nch e n,free p.1 p.2 nch e n,ne,nf,d⟩
theorem Inv.un{t':Nat}(I:Inv X pins σ H s)(u:Un X.fs [] H H' s.heap h')(hok:HOk X.prog X.w H' h'):Inv X pins σ H' { s with heap:=h',toks:=t' }:=by
 obtain⟨m,⟨o,es,ep,ho,r⟩,_⟩:=id I.loc;obtain⟨sl,hL⟩:=u.any ho I.free (by simp);exact I.step (g':=s.gens) (d':=s.drawn) (ch:=[]) (λ_ z=>nomatch z) (λb o _ hb _ e n=>u.keep b o e n hb (by simp)) (λb o _ hb _ e n=>u.slot b o e n hb (by simp)) (λb o _ e n=>u.free b o e n (by simp)) (λb o _ e=>u.there b o e (by simp)) u.tups u.frzs u.tbls (λm' hm=>by
  obtain⟨o',es',ep',ho',r'⟩:=hm;rw[ho]at ho';cases ho';exact⟨_,es',ep',hL,r'⟩) hok I.bare
theorem Inv.call{g':Array GenState}{t':Nat}{d':Drawn}{ch:List Addr}(I:Inv X pins σ H s)(u:Un (frs X.stack) ch H H' s.heap h')(hok:HOk X.prog X.w H' h')(hg:AllBare g')
  (hch:∀b∈ch,(b∈X.ex\/X.s₀.heap.objs.size<=b)/\b≠X.env.locals/\(∀x c,X.env.cells.lookup x=some c->c≠b)/\∀p∈X.pn++pins,p.1≠b):
  Inv X pins σ H' { s with heap:=h',gens:=g',drawn:=d',toks:=t' }:=by
 obtain⟨m,⟨o,es,ep,ho,r⟩,_⟩:=id I.loc;obtain⟨sl,hL⟩:=u.any ho I.free λz=>(hch _ z).2.1 rfl
 exact I.step (ch:=ch) hch (λb o hL hb hc e n=>u.keep b o e n (λz=>(List.mem_cons.mp (I.stkSub b z)).elim hL hb) hc) (λb o _ _ hc e n=>u.any e n hc) (λb o hc e n=>u.free b o e n hc) (λb o hc e=>u.there b o e hc) u.tups u.frzs u.tbls (λm' hm=>by
  obtain⟨o',es',ep',ho',r'⟩:=hm;rw[ho]at ho';cases ho';exact⟨_,es',ep',hL,r'⟩) hok hg
theorem Inv.turned{t':Nat}{it:Addr}(I:Inv X pins σ H s)(k:∀b o,b≠it->s.heap.get? b=some o->h'.get? b=some o)(hn:H it=none)(hL:it≠X.env.locals)
  (h1:it∈X.ex\/X.s₀.heap.objs.size<=it) (h2:∀x c,X.env.cells.lookup x=some c->c≠it) (h3:∀p∈X.pn++pins,p.1≠it):Inv X pins σ H { s with heap:=h',toks:=t' }:=by
 have nit:∀b u,H b=some u->b≠it:=λb u e z=>by rw[z,hn]at e;cases e
 refine I.step (g':=s.gens) (d':=s.drawn) (ch:=[it]) (λb hb=>?_) (λb o _ _ hc e _=>k b o (λz=>hc (by simp[z])) e) (λb o _ _ hc e _=>⟨o.slots,k b o (λz=>hc (by simp[z])) e⟩) (λ_ _ _ _ n=>n)
  (λb o hc e=>⟨o,k b o (λz=>hc (by simp[z])) e⟩) (λ_ _ e=>e) (λ_ _ _ e=>e) (λb ps e=>⟨#[],by rw[e];simp⟩) (λm hm=>?_) (λb u e=>?_) I.bare
 ·have e:b=it:=by simpa using hb
  subst e;exact⟨h1,hL,h2,h3⟩
 ·obtain⟨o,es,ep,ho,r⟩:=hm;exact⟨o,es,ep,k _ o (Ne.symm hL) ho,r⟩
 ·refine(I.hok b u e).stay (λc v hc q=>k c v ?_ q) (λ_ q=>q) λ_ _ q=>q
  rcases hc with z | z
  ·rw[z];exact nit b u e
  ·exact nit c _ z
theorem Inv.tok(I:Inv X pins σ H s)(t:Nat):Inv X pins σ H { s with toks:=t }:=I.un (h':=s.heap) (t':=t) Un.refl I.hok
theorem Inv.kept{t':Nat}(I:Inv X pins σ H s)(k:∀b u,s.heap.get? b=some u->h'.get? b=some u):Inv X pins σ H { s with heap:=h',toks:=t' }:=I.un (Un.kept k) (I.hok.kept k)
theorem Inv.laid{a:Addr}{o:HO}{t':Nat}(I:Inv X pins σ H s)(k:∀b u,s.heap.get? b=some u->h'.get? b=some u)(hp:s.heap.objs.size<=a)(new:ObjOk X.prog X.w (upd H a o) h' a o):
  Inv X pins σ (upd H a o) { s with heap:=h',toks:=t' }:=I.un (Un.laid k hp (I.hok.fresh hp)) (I.hok.laid k hp new)
theorem Inv.write{x e:Addr}{o:HO}{t':Nat}(I:Inv X pins σ H s)(mu:Mut (H x))(he:e=x\/H e=some (.own x))(k:∀b u,b≠e->s.heap.get? b=some u->h'.get? b=some u)(heo:∃u,h'.get? e=some u)
  (new:ObjOk X.prog X.w (upd H x o) h' x o):Inv X pins σ (upd H x o) { s with heap:=h',toks:=t' }:=I.un (Un.write mu he k heo) (I.hok.write mu he k heo new)
theorem Inv.pins_of{pins':List (Addr×Obj)}(I:Inv X pins σ H s)(h:∀p∈pins',s.heap.get? p.1=some p.2/\H p.1=none/\p.1≠X.env.locals/\p.1∉X.fs/\∀v,p.2.data≠.cell v):Inv X pins' σ H s :=
 ⟨I.ok,I.os,I.bare,I.base,I.loc,I.cell,I.free,I.freeC,λp hp=>(List.mem_append.mp hp).elim (λz=>I.pin p (ll9 _ z)) (h p),I.hok,I.len⟩
theorem qj3{N:List Str}(hN:N.Nodup){i j:Nat}{x:Str}(a:N[i]?=some x)(b:N[j]?=some x):i=j:=by
 obtain⟨h1,e1⟩:=List.getElem?_eq_some_iff.mp a;obtain⟨h2,e2⟩:=List.getElem?_eq_some_iff.mp b;exact(List.getElem_inj hN).mp (e1.trans e2.symm)
theorem qq7{M:Model}{A:Around}{E:Value->Shared->Prop}{i:Nat}{x:Str}{v:V}{u:Value}{Q:Unit->Shared->Prop}(I:Inv X pins σ H s)(hN:X.N.Nodup)(hi:X.N[i]?=some x)(hx:Loc X.env.scope x)(r:RelV v u)
  (h:∀s',Inv X pins (σ.set i (some v)) H s'->(∃a,Heap.SameBut a s.heap s'.heap/\(a=X.env.locals\/X.env.cells.lookup x=some a))->Q () s') (hf:X.fn x=true\/X.env.scope.names.lookup x=some .local:=by first | exact .inl rfl | exact .inr rfl | assumption):wpAny M A (storeName X.env x u) Q E s:=by
 obtain⟨m,hn,hl⟩:=id I.loc;have hcls:(X.env.scope.kind == .class||(X.env.scope.kind == .module&&X.env.locals != X.env.globals))=false:=by rw[I.ok.kind];rfl
 have hiσ:i < σ.length:=by rw[I.len];exact(List.getElem?_eq_some_iff.mp hi).1
 have cne:=I.cne;have tracked:∀{a:Addr} {h':Heap},(∃o,s.heap.get? a=some o/\H a=none)->Heap.SameBut a s.heap h'->HOk X.prog X.w H h':=fun {a h'} ha hs b ob e=>by
  obtain⟨_,_,hfree⟩:=ha;refine(I.hok b ob e).stay (λc w' hc q=>(hs.2 c ?_).trans q) (λ_ q=>q) λ_ _ q=>q
  rintro rfl;rcases hc with rfl | hc
  ·rw[hfree]at e;cases e
  ·rw[hfree]at hc;cases hc
 rcases hx with hk | hk
 ·refine wpAny_storeName_local hk hn (λh' hn' hs=>?_) hcls;obtain⟨oL,_,_,hoL,_⟩:=id hn;refine h _ ⟨I.ok,I.os,I.bare,⟨λb o e n hb hx=>?_,λb o e n hb hx=>?_,I.base.free,λb o e hx=>?_,I.base.tups,I.base.frzs,I.base.tbls⟩,⟨_,hn',λj y v' e1 e2 e3=>?_⟩,λy c e=>?_,I.free,I.freeC,λp hp=>?_,tracked ⟨oL,hoL,I.free⟩ hs,by simpa using I.len⟩ ⟨_,hs,.inl rfl⟩
  ·exact(hs.2 b (Xw (Xn (Xh e) I.ok.above))).trans (I.base.keep b o e n hb hx)
  ·obtain⟨sl,e1⟩:=I.base.slot b o e n hb hx;exact⟨sl,(hs.2 b (Xw (Xn (Xh e) I.ok.above))).trans e1⟩
  ·obtain⟨o',e1⟩:=I.base.there b o e hx;exact⟨o',(hs.2 b (Xw (Xn (Xh e) I.ok.above))).trans e1⟩
  ·by_cases hj:j=i
   ·subst hj;rw[hi]at e1;cases e1;rw[List.getElem?_set_self hiσ]at e2;cases e2;exact⟨u,r,.inl ⟨hk,by simp⟩⟩
   ·rw[Yj (Ne.symm hj)]at e2;obtain⟨u',r',q⟩:=hl j y v' e1 e2 e3;refine⟨u',r',?_⟩;rcases q with⟨k,e⟩| ⟨k,c,e,z⟩
    ·refine .inl ⟨k,?_⟩;have:y≠x:=λe=>hj (qj3 hN e1 (e▸hi))
     simp[this,e]
    ·exact .inr ⟨k,c,e,z.sameBut hs (cne y c e)⟩
  ·obtain⟨w',z⟩:=I.cell y c e;exact⟨w',z.sameBut hs (cne y c e)⟩
  ·obtain⟨e,n,ne,nf,d⟩:=I.pin p hp;exact⟨(hs.2 p.1 ne).trans e,n,ne,nf,d⟩
 ·have hfn:X.fn x=true:=by
   rcases hf with z | z
   ·exact z
   ·rw[z]at hk;cases hk
  obtain⟨c,hc⟩:=I.ok.has x (.inl hk);obtain⟨w',z⟩:=I.cell x c hc;refine wpAny_storeName_cell I.ok.kind hk hc z (λh' hc' hs=>?_);obtain⟨oc,hoc,hocd⟩:=id z;refine h { s with heap:=h' } ⟨I.ok,I.os,I.bare,⟨λb o e n hb hx=>?_,λb o e n hb hx=>?_,I.base.free,λb o e hx=>?_,I.base.tups,I.base.frzs,I.base.tbls⟩,⟨m,hn.sameBut hs (Ne.symm (cne x c hc)),λj y v' e1 e2 e3=>?_⟩,λy c' e=>?_,I.free,I.freeC,λp hp=>?_,tracked ⟨oc,hoc,I.freeC x c hc⟩ hs,by simpa using I.len⟩ ⟨c,hs,.inr hc⟩
  ·exact(hs.2 b (Xw (Xn (Xh e) (I.ok.cab x c hfn hc)))).trans (I.base.keep b o e n hb hx)
  ·obtain⟨sl,e1⟩:=I.base.slot b o e n hb hx;exact⟨sl,(hs.2 b (Xw (Xn (Xh e) (I.ok.cab x c hfn hc)))).trans e1⟩
  ·obtain⟨o',e1⟩:=I.base.there b o e hx;exact⟨o',(hs.2 b (Xw (Xn (Xh e) (I.ok.cab x c hfn hc)))).trans e1⟩
  ·by_cases hj:j=i
   ·subst hj;rw[hi]at e1;cases e1;rw[List.getElem?_set_self hiσ]at e2;cases e2;exact⟨u,r,.inr ⟨.inl hk,c,hc,hc'⟩⟩
   ·rw[Yj (Ne.symm hj)]at e2;obtain⟨u',r',q⟩:=hl j y v' e1 e2 e3;refine⟨u',r',?_⟩;rcases q with q | ⟨k,c',e,z'⟩
    ·exact .inl q
    ·refine .inr ⟨k,c',e,z'.sameBut hs ?_⟩;rintro rfl;exact hj (qj3 hN e1 (I.ok.inj _ _ _ e hc▸hi))
  ·by_cases hcc:c'=c
   ·subst hcc;exact⟨_,hc'⟩
   ·obtain⟨w2,z2⟩:=I.cell y c' e;exact⟨w2,z2.sameBut hs hcc⟩
  ·obtain⟨e,n,ne,nf,d⟩:=I.pin p hp;refine⟨(hs.2 p.1 ?_).trans e,n,ne,nf,d⟩;intro q;rw[q,hoc]at e;have q':oc=p.2:=oq9 e;exact d w' (by rw[<-q'];exact hocd)
theorem kj2{M:Model}{A:Around}{E:Value->Shared->Prop}{i:Nat}{x:Str}{v:V}{u:Value}{Q:Unit->Shared->Prop}(I:Inv X pins σ H s)(hN:X.N.Nodup)(hi:X.N[i]?=some x)(hx:Loc X.env.scope x)(r:RelV v u)
  (h:∀s',Inv X pins (σ.set i (some v)) H s'->Q () s') (hf:X.fn x=true\/X.env.scope.names.lookup x=some .local:=by first | exact .inl rfl | exact .inr rfl | assumption):wpAny M A (storeName X.env x u) Q E s :=
 qq7 I hN hi hx r (λs' I' _=>h s' I') hf
theorem Inv.call'{s':Shared}{ch:List Addr}(I:Inv X pins σ H s)(ho:s'.os=s.os)(u:Un (frs X.stack) ch H H' s.heap s'.heap)(hok:HOk X.prog X.w H' s'.heap)(hg:AllBare s'.gens)
  (hch:∀b∈ch,(b∈X.ex\/X.s₀.heap.objs.size<=b)/\b≠X.env.locals/\(∀x c,X.env.cells.lookup x=some c->c≠b)/\∀p∈X.pn++pins,p.1≠b):Inv X pins σ H' s':=by
 obtain⟨h',g',d',t',o'⟩:=s';have e:o'=s.os:=ho;subst e;exact I.call (g':=g') (t':=t') (d':=d') u hok hg hch
end
abbrev XK:=Value->Option Addr->Hp->Prop
abbrev St:=List (Option V)
abbrev VK:=V->Hp->Prop
abbrev TE:=St->Hp->VK->Prop
abbrev TT:=St->Hp->(Bool->Hp->Prop)->Prop
abbrev TA:=St->Hp->(List V->Hp->Prop)->Prop
structure Ends where
 nx:St->Hp->Prop
 rt:VK
 bk:St->Hp->Prop:=λ_ _=>False
 ct:St->Hp->Prop:=λ_ _=>False
abbrev TS:=Ends->St->Hp->Prop
def EP(X:Cx)(pins:List (Addr×Obj))(σ:St)(Q:VK)(u:Value)(s':Shared):Prop:=∃v H',Inv X pins σ H' s'/\RelV v u/\Q v H'
def TP(X:Cx)(pins:List (Addr×Obj))(σ:St)(Q:Bool->Hp->Prop)(b:Bool)(s':Shared):Prop:=∃H',Inv X pins σ H' s'/\Q b H'
def AP(X:Cx)(pins:List (Addr×Obj))(σ:St)(Q:List V->Hp->Prop)(us:List Value)(s':Shared):Prop:=∃vs H',Inv X pins σ H' s'/\Vals vs us/\Q vs H'
def SP(X:Cx)(pins:List (Addr×Obj))(D:Ends)(f:Flow)(s':Shared):Prop :=
 match f with
 | .next=>∃ σ' H',Inv X pins σ' H' s'/\D.nx σ' H'
 | .brk=>∃ σ' H',Inv X pins σ' H' s'/\D.bk σ' H'
 | .cont=>∃ σ' H',Inv X pins σ' H' s'/\D.ct σ' H'
 | .ret u=>∃v σ' H',Inv X pins σ' H' s'/\RelV v u/\D.rt v H'
def PE(X:Cx)(e:Expr)(t:TE):Prop :=
 ∀(pins:List (Addr×Obj)) (s:Shared) (σ:St) (H:Hp) (Q:VK),Inv X pins σ H s->t σ H Q->wpAny (model X.prog X.w) X.A (eval e X.env) (EP X pins σ Q) X.xe s
def PT(X:Cx)(e:Expr)(t:TT):Prop :=
 ∀(pins:List (Addr×Obj)) (s:Shared) (σ:St) (H:Hp) (Q:Bool->Hp->Prop),Inv X pins σ H s->t σ H Q->wpAny (model X.prog X.w) X.A (isTrue e X.env (eval e X.env)) (TP X pins σ Q) X.xe s
def PW(X:Cx)(e:Expr)(t:TT):Prop :=
 ∀(whole:Sem Value) (pins:List (Addr×Obj)) (s:Shared) (σ:St) (H:Hp) (Q:Bool->Hp->Prop),Inv X pins σ H s->t σ H Q->wpAny (model X.prog X.w) X.A (isTrue e X.env whole) (TP X pins σ Q) X.xe s
theorem PW.pt{X:Cx}{e:Expr}{t:TT}(h:PW X e t):PT X e t:=h _
def PA(X:Cx)(es:List Expr)(t:TA):Prop :=
 ∀(pos:Pos) (pins:List (Addr×Obj)) (s:Shared) (σ:St) (H:Hp) (Q:List V->Hp->Prop),Inv X pins σ H s->t σ H Q->wpAny (model X.prog X.w) X.A (spliced (backTo pos (starEach es X.env))) (AP X pins σ Q) X.xe s
def PS(X:Cx)(st:Stmt)(t:TS):Prop :=
 ∀(pins:List (Addr×Obj)) (s:Shared) (σ:St) (H:Hp) (D:Ends),Inv X pins σ H s->t D σ H->wpAny (model X.prog X.w) X.A (exec st X.env) (SP X pins D) X.xe s
def PSs(X:Cx)(st:List Stmt)(t:TS):Prop :=
 ∀(pins:List (Addr×Obj)) (s:Shared) (σ:St) (H:Hp) (D:Ends),Inv X pins σ H s->t D σ H->wpAny (model X.prog X.w) X.A (execs st X.env) (SP X pins D) X.xe s
theorem thn{α:Type}{t:Sem α}{Q Q':α->Shared->Prop}{M:Model}{A:Around}{E:Value->Shared->Prop}{s:Shared}(h:wpAny M A t Q E s)(hQ:∀a s,Q a s->Q' a s):wpAny M A t Q' E s:=wpAny_mono h hQ λ_ _ x=>x
section
variable {X:Cx}
abbrev qxv(i:Nat):TE:=fun σ H Q=>∃v,σ[i]?=some (some v)/\Q v H
abbrev tC(v:V):TE:=λ_ H Q=>Q v H
theorem vzz{i:Nat}{x:Str}{pos:Pos}(hN:X.N[i]?=some x)(hv:Vis X.env.scope x)(hd:(x==("__debug__":Str))=false:=by decide)(hcd:(x==("__classdict__":Str))=false:=by decide):PE X (.Name x pos) (qxv i):=by
 intro pins s σ H Q I h;obtain⟨v,e,h⟩:=h;obtain⟨m,hn,hl⟩:=I.loc;obtain⟨u,r,l⟩:=hl i x v hN e hv;have fin:EP X pins σ Q u s:=⟨v,H,I,r,h⟩;rcases l with⟨hk,hm⟩| ⟨hk,c,hc,hcell⟩
 ·exact wpAny_Name (wpAny_loadName_local I.ok.kind hk hn hm fin) hd
 ·rcases hk with hk | hk
  ·exact wpAny_Name (wpAny_loadName_cell I.ok.kind hk hc hcell fin) hd
  ·exact wpAny_Name (wpAny_loadName_free I.ok.kind hk hc hcell fin hcd) hd
theorem wj5{i j pos}:PE X (.Constant (.int i) j pos) (tC (.int i)):=λ_ _ _ H _ I h=>wpAny_Constant_int ⟨.int i,H,I.tok _,⟨_,rfl⟩,h⟩
theorem kxo{b j pos}:PE X (.Constant (.bool b) j pos) (tC (.bl b)):=λ_ _ _ H _ I h=>Constant_bool ⟨.bl b,H,I,rfl,h⟩
theorem wj2{j pos}:PE X (.Constant .none j pos) (tC .non):=λ_ _ _ H _ I h=>Constant_none ⟨.non,H,I,rfl,h⟩
theorem qv9{x j pos}:PE X (.Constant (.str x) j pos) (tC (.str x)):=λ_ _ _ H _ I h=>Calls.Constant_str ⟨.str x,H,I.tok _,⟨_,rfl⟩,h⟩
def Gl(X:Cx)(x:Str):Prop:=X.env.kindOf x=some .globalImplicit
theorem kjv{E:Value->Shared->Prop}{pins:List (Addr×Obj)}{s:Shared}{σ:St}{H:Hp}{x:Str}{u:Value}{pos:Pos}{Q:Value->Shared->Prop}(I:Inv X pins σ H s)(hg:Gl X x)(hm:X.mg x=some u)(h:Q u s)
  (hd:(x==("__debug__":Str))=false:=by decide):wpAny (model X.prog X.w) X.A (eval (.Name x pos) X.env) Q E s :=
 Calls.Name_function_global I.ok.kind hg (Calls.loadGlobal_global (by rw[I.ok.glob];exact I.mod.glob.keeps I.bk) hm h) hd
theorem jxg{E:Value->Shared->Prop}{pins:List (Addr×Obj)}{s:Shared}{σ:St}{H:Hp}{x:Str}{u:Value}{pos:Pos}{Q:Value->Shared->Prop}(I:Inv X pins σ H s)(hg:Gl X x)(hm:X.mg x=none)(hv:bootBuiltins x=some u)(h:Q u s)
  (hn:x≠"__name__":=by decide) (hd:(x==("__debug__":Str))=false:=by decide):wpAny (model X.prog X.w) X.A (eval (.Name x pos) X.env) Q E s:=by
 obtain⟨mb,h1,h2⟩:=I.mod.blt;exact Calls.Name_function_global I.ok.kind hg (Calls.loadGlobal_builtin (by rw[I.ok.glob];exact I.mod.glob.keeps I.bk) hm (by rw[I.ok.blt];exact h1.keeps I.bk) ((h2 x hn).trans hv) h) hd
theorem vva{x:Str}{v:V}{u:Value}{pos:Pos}(hg:Gl X x)(hm:X.mg x=some u)(r:RelV v u)(hd:(x==("__debug__":Str))=false:=by decide):PE X (.Name x pos) (tC v):=
 λ_ _ _ H _ I h=>kjv I hg hm ⟨v,H,I,r,h⟩ hd
variable {a b:Expr}{ta tb:TE}{pos:Pos}
variable {tA tB':TT}{jkp:List Expr}
abbrev tAnd(t u:TT):TT:=fun σ H Q=>t σ H λc H1=>if c=true then u σ H1 Q else Q false H1
abbrev tOr(t u:TT):TT:=fun σ H Q=>t σ H λc H1=>if c=true then Q true H1 else u σ H1 Q
abbrev tNot(t:TT):TT:=fun σ H Q=>t σ H λc H1=>Q (!c) H1
theorem vqt(ha:PT X a tA):PW X (.BoolOp .And [a] pos) tA:=by
 intro wh pins s σ H Q I h;refine isTrue_and (thn (ha pins s σ H Q I h) λc s1 e=>?_);cases c with
 | true=>exact isTrue_and_nil e
 | false=>exact e
theorem vzp(ha:PT X a tA):PW X (.BoolOp .Or [a] pos) tA:=by
 intro wh pins s σ H Q I h;refine isTrue_or (thn (ha pins s σ H Q I h) λc s1 e=>?_);cases c with
 | false=>exact isTrue_or_nil e
 | true=>exact e
theorem vzq(ha:PT X a tA)(hb:PW X (.BoolOp .And (b::jkp) pos) tB'):PW X (.BoolOp .And (a::b::jkp) pos) (tAnd tA tB'):=by
 intro wh pins s σ H Q I h;refine isTrue_and (thn (ha pins s σ H _ I h) λc s1 ⟨H1,I1,q1⟩=>?_);cases c with
 | true=>exact hb wh pins s1 σ H1 Q I1 q1
 | false=>exact⟨H1,I1,q1⟩
theorem wv9(ha:PT X a tA)(hb:PW X (.BoolOp .Or (b::jkp) pos) tB'):PW X (.BoolOp .Or (a::b::jkp) pos) (tOr tA tB'):=by
 intro wh pins s σ H Q I h;refine isTrue_or (thn (ha pins s σ H _ I h) λc s1 ⟨H1,I1,q1⟩=>?_);cases c with
 | true=>exact⟨H1,I1,q1⟩
 | false=>exact hb wh pins s1 σ H1 Q I1 q1
theorem vzr(ha:PT X a tA):PT X (.UnaryOp .Not a pos) (tNot tA):=by
 intro pins s σ H Q I h;exact isTrue_not (ha pins s σ H (λc H1=>Q (!c) H1) I h)
abbrev wqr(ta tb:TE):TE:=fun σ H Q=>ta σ H λx H1=>∃c,x=.bl c/\if c=true then tb σ H1 Q else Q (.bl false) H1
abbrev tOrV(ta tb:TE):TE:=fun σ H Q=>ta σ H λx H1=>∃c,x=.bl c/\if c=true then Q (.bl true) H1 else tb σ H1 Q
theorem wj1{op}{t:TE}(h:PE X a t):PE X (.BoolOp op [a] pos) t:=λpins s σ H Q I hw=>BoolOp_one (h pins s σ H Q I hw)
theorem wj8(ha:PE X a ta)(hb:PE X (.BoolOp .And (b::jkp) pos) tb):PE X (.BoolOp .And (a::b::jkp) pos) (wqr ta tb):=by
 intro pins s σ H Q I h;refine BoolOp_and (thn (ha pins s σ H _ I h) λv s1 ⟨x,H1,I1,r1,q1⟩=>?_);obtain⟨c,rfl,q1⟩:=q1;cases r1;refine wpAny_truthy_bool ?_;cases c with
 | true=>exact hb pins s1 σ H1 Q I1 q1
 | false=>exact⟨.bl false,H1,I1,rfl,q1⟩
theorem wvf(ha:PE X a ta)(hb:PE X (.BoolOp .Or (b::jkp) pos) tb):PE X (.BoolOp .Or (a::b::jkp) pos) (tOrV ta tb):=by
 intro pins s σ H Q I h;refine BoolOp_or (thn (ha pins s σ H _ I h) λv s1 ⟨x,H1,I1,r1,q1⟩=>?_);obtain⟨c,rfl,q1⟩:=q1;cases r1;refine wpAny_truthy_bool ?_;cases c with
 | false=>exact hb pins s1 σ H1 Q I1 q1
 | true=>exact⟨.bl true,H1,I1,rfl,q1⟩
abbrev tIf(t:TT)(ta tb:TE):TE:=fun σ H Q=>t σ H λc H1=>if c=true then ta σ H1 Q else tb σ H1 Q
theorem qzm{c:Expr}(hc:PT X c tA)(ha:PE X a ta)(hb:PE X b tb):PE X (.IfExp c a b pos) (tIf tA ta tb):=by
 intro pins s σ H Q I h;refine wpAny_IfExp (thn (hc pins s σ H _ I h) λd s1 ⟨H1,I1,q1⟩=>?_);cases d with
 | true=>exact ha pins s1 σ H1 Q I1 q1
 | false=>exact hb pins s1 σ H1 Q I1 q1
end
def SqL(K:PySem.W.Frag)(H:Hp)(a:Addr)(xs:List V):Prop :=
 Rd H a (.lst xs) \/
  ∃(o:Obj) (its:Array Value) (n:Nat),K.lookup a=some o/\o.cls=.type "list"/\o.dict=none/\o.data=.seq its n/\its.size<=sizeLine/\Vals xs its.toList
def SqT(K:PySem.W.Frag)(H:Hp)(a:Addr)(xs:List V):Prop :=
 Rd H a (.tup xs) \/
  ∃(o:Obj) (its:Array Value) (n:Nat),K.lookup a=some o/\o.cls=.type "tuple"/\o.dict=none/\o.data=.seq its n/\its.size<=sizeLine/\Vals xs its.toList
def absV:Value->Option V
 | .none=>some .non
 | .bool b=>some (.bl b)
 | .int i _=>some (.int i)
 | .str x _=>some (.str x)
 | .bytes b _=>some (.byt b)
 | .float b _=>some (.flt b)
 | .ref a=>some (.ref a)
 | .type n=>some (.ty n)
 | _=>none
theorem RelV.abs{x:V}{u:Value}(r:RelV x u):absV u=some x:=by
 cases x with
 | non=>cases r;rfl
 | bl _=>cases r;rfl
 | int _=>obtain⟨t,rfl⟩:=r;rfl
 | str _=>obtain⟨t,rfl⟩:=r;rfl
 | byt _=>obtain⟨t,rfl⟩:=r;rfl
 | flt _=>obtain⟨t,rfl⟩:=r;rfl
 | ref _=>cases r;rfl
 | ty _=>cases r;rfl
theorem RelV.inj{x y:V}{u:Value}(r:RelV x u)(q:RelV y u):x=y:=oq9 (r.abs.symm.trans q.abs)
theorem Vals.inj:∀{xs ys:List V} {us:List Value},Vals xs us->Vals ys us->xs=ys
 | _,_,_,.nil,.nil=>rfl
 | _,_,_,.cons r t,.cons r' t'=>by rw[r.inj r',Vals.inj t t']
section
variable {X:Cx}{pins:List (Addr×Obj)}{σ:St}{H:Hp}{s:Shared}{a:Addr}{xs ys:List V}
theorem SqL.of{K:PySem.W.Frag}(h:H a=some (.lst xs)):SqL K H a xs:=.inl (.inl h)
theorem SqT.of{K:PySem.W.Frag}(h:H a=some (.tup xs)):SqT K H a xs:=.inl (.inl h)
theorem Inv.list(I:Inv X pins σ H s)(h:SqL X.K H a xs):∃its:List Value,Vals xs its/\PlainL s.heap a its.toArray/\xs.length<=sizeLine:=by
 rcases h with h | ⟨o,its,n,hk,hc,hd,hs,hz,r⟩
 ·obtain⟨z,its,n,r,e⟩:=h.ok I.hok;exact⟨its,r,⟨_,n,e,rfl,rfl,rfl⟩,z⟩
 ·refine⟨its.toList,r,⟨o,n,I.kIn a o hk,hc,hd,by simpa using hs⟩,?_⟩;have e:=r.length;simp only[Y7]at e;omega
theorem Inv.tuple(I:Inv X pins σ H s)(h:SqT X.K H a xs):∃its:List Value,Vals xs its/\IsTup s.heap a its.toArray/\xs.length<=sizeLine:=by
 rcases h with h | ⟨o,its,n,hk,hc,_,hs,hz,r⟩
 ·obtain⟨z,its,r,p⟩:=h.ok I.hok;exact⟨its,r,p.tup,z⟩
 ·refine⟨its.toList,r,⟨o,I.kIn a o hk,hc,n,by simpa using hs⟩,?_⟩;have e:=r.length;simp only[Y7]at e;omega
theorem Inv.tupleD(I:Inv X pins σ H s)(h:SqT X.K H a xs):∃o,s.heap.get? a=some o/\o.dict=none:=by
 rcases h with h | ⟨o,its,n,hk,hc,hd,hs,hz,r⟩
 ·obtain⟨z,its,r,o,e,_,d,_⟩:=h.ok I.hok;exact⟨o,e,d⟩
 ·exact⟨o,I.kIn a o hk,hd⟩
theorem Inv.list_inj(I:Inv X pins σ H s)(h:SqL X.K H a xs)(h':SqL X.K H a ys):xs=ys:=by
 obtain⟨its,r,⟨o,n,e,_,_,d⟩,_⟩:=I.list h;obtain⟨its',r',⟨o',n',e',_,_,d'⟩,_⟩:=I.list h';rw[e]at e';cases e';rw[d]at d';injection d' with d1 _;have:its=its':=by simpa using congrArg Array.toList d1
 subst this;exact r.inj r'
theorem Inv.tuple_inj(I:Inv X pins σ H s)(h:SqT X.K H a xs)(h':SqT X.K H a ys):xs=ys:=by
 obtain⟨its,r,⟨o,e,_,n,d⟩,_⟩:=I.tuple h;obtain⟨its',r',⟨o',e',_,n',d'⟩,_⟩:=I.tuple h';rw[e]at e';cases e';rw[d]at d';injection d' with d1 _;have:its=its':=by simpa using congrArg Array.toList d1
 subst this;exact r.inj r'
end
abbrev Cx.wish(X:Cx)(E:Value->Shared->Prop):Cx:={ X with xe:=E }
abbrev Cx.nox(X:Cx):Cx:=X.wish λ_ _=>False
theorem Cx.Ok.wish{X:Cx}(ok:X.Ok)(E:Value->Shared->Prop):(X.wish E).Ok :=
 ⟨ok.mod,ok.kind,ok.glob,ok.blt,ok.above,ok.inj,ok.has,ok.cab,ok.hd,ok.frames,ok.stk,ok.exf,ok.bs,ok.bsz,ok.noex,ok.exfs,ok.funs,ok.frf⟩
theorem Cx.Ok.unwish{X:Cx}{E:Value->Shared->Prop}(ok:(X.wish E).Ok):X.Ok :=
 ⟨ok.mod,ok.kind,ok.glob,ok.blt,ok.above,ok.inj,ok.has,ok.cab,ok.hd,ok.frames,ok.stk,ok.exf,ok.bs,ok.bsz,ok.noex,ok.exfs,ok.funs,ok.frf⟩
section
variable {X:Cx}{pins:List (Addr×Obj)}{σ:St}{H:Hp}{s:Shared}{E:Value->Shared->Prop}
theorem Inv.wish(I:Inv X pins σ H s)(E:Value->Shared->Prop):Inv (X.wish E) pins σ H s:=⟨I.ok.wish E,I.os,I.bare,I.base,I.loc,I.cell,I.free,I.freeC,I.pin,I.hok,I.len⟩
theorem Inv.unwish(I:Inv (X.wish E) pins σ H s):Inv X pins σ H s:=⟨I.ok.unwish,I.os,I.bare,I.base,I.loc,I.cell,I.free,I.freeC,I.pin,I.hok,I.len⟩
theorem SP.unwish{D:Ends}{f:Flow}{s':Shared}(h:SP (X.wish E) pins D f s'):SP X pins D f s':=by
 cases f with
 | next=>obtain⟨σ',H',I,q⟩:=h;exact⟨σ',H',I.unwish,q⟩
 | brk=>obtain⟨σ',H',I,q⟩:=h;exact⟨σ',H',I.unwish,q⟩
 | cont=>obtain⟨σ',H',I,q⟩:=h;exact⟨σ',H',I.unwish,q⟩
 | ret u=>obtain⟨v,σ',H',I,r,q⟩:=h;exact⟨v,σ',H',I.unwish,r,q⟩
end
section
variable {X:Cx}{st:Stmt}{jkp:List Stmt}{t u:TS}{e:Expr}{te:TE}{pos:Pos}
abbrev wqo:TS:=λD σ H=>D.nx σ H
abbrev tSeq(t u:TS):TS:=λD σ H=>t { D with nx:=u D } σ H
theorem vv0:PSs X [] wqo:=λ_ _ σ H _ I h=>wpAny_execs_nil ⟨σ,H,I,h⟩
theorem qzd(h1:PS X st t)(h2:PSs X jkp u):PSs X (st::jkp) (tSeq t u):=by
 intro pins s σ H D I h;refine wpAny_execs_cons (thn (h1 pins s σ H { D with nx:=u D } I h) λf s1 q=>?_);cases f with
 | next =>
  obtain⟨σ',H',I',q⟩:=q;exact h2 pins s1 σ' H' D I' q
 | ret v=>exact q
 | brk=>exact q
 | cont=>exact q
theorem vqz(h1:PS X st t):PSs X [st] t:=by
 intro pins s σ H D I h;refine wpAny_execs_cons (thn (h1 pins s σ H D I h) λf s1 q=>?_);cases f with
 | next=>exact wpAny_execs_nil q
 | ret v=>exact q
 | brk=>exact q
 | cont=>exact q
theorem Inv.quiet{pins:List (Addr×Obj)}{σ:St}{H:Hp}{s:Shared}(I:Inv X pins σ H s):interactive X.env=false:=by simp[interactive,I.ok.kind]
abbrev vxr(te:TE):TS:=λD σ H=>te σ H λ_ H1=>D.nx σ H1
theorem qv2(he:PE X e te)(hs:swapsWith e none pos.line X.env=pure false:=by rfl):PS X (.Expr e pos) (vxr te):=by
 intro pins s σ H D I h;exact wpAny_Expr_any (thn (he pins s σ H _ I h) λv s1 ⟨x,H1,I1,r1,q1⟩=>⟨σ,H1,I1,q1⟩) I.quiet hs
abbrev tRet(te:TE):TS:=λD σ H=>te σ H D.rt
theorem vzt(he:PE X e te):PS X (.Return (some e) pos) (tRet te):=by
 intro pins s σ H D I h;exact wpAny_Return_some (thn (he pins s σ H _ I h) λv s1 ⟨x,H1,I1,r1,q1⟩=>⟨x,σ,H1,I1,r1,q1⟩)
abbrev tIfS(c:TT)(t u:TS):TS:=λD σ H=>c σ H λb H1=>if b=true then t D σ H1 else u D σ H1
theorem wva{c:Expr}{a b:List Stmt}{tc:TT}(hc:PT X c tc)(ha:PSs X a t)(hb:PSs X b u):PS X (.If c a b pos) (tIfS tc t u):=by
 intro pins s σ H D I h;refine wpAny_If (thn (hc pins s σ H _ I h) λd s1 ⟨H1,I1,q1⟩=>?_);cases d with
 | true=>exact ha pins s1 σ H1 D I1 q1
 | false=>exact hb pins s1 σ H1 D I1 q1
end
abbrev TG:=V->St->Hp->(St->Hp->Prop)->Prop
abbrev TGs:=List V->St->Hp->(St->Hp->Prop)->Prop
def PG(X:Cx)(target:Expr)(t:TG):Prop :=
 ∀(pins:List (Addr×Obj)) (s:Shared) (σ:St) (H:Hp) (v:V) (u:Value) (Q:St->Hp->Prop),Inv X pins σ H s->RelV v u->t v σ H Q ->
  wpAny (model X.prog X.w) X.A (assign target X.env u) (λ_ s'=>∃ σ' H',Inv X pins σ' H' s'/\Q σ' H') X.xe s
def PGs(X:Cx)(ts:List Expr)(t:TGs):Prop :=
 ∀(pins:List (Addr×Obj)) (s:Shared) (σ:St) (H:Hp) (vs:List V) (us:List Value) (Q:St->Hp->Prop),Inv X pins σ H s->Vals vs us->t vs σ H Q ->
  wpAny (model X.prog X.w) X.A (assignInOrder ((assignEach ts X.env).map (·.2)) us) (λ_ s'=>∃ σ' H',Inv X pins σ' H' s'/\Q σ' H') X.xe s
section
variable {X:Cx}{pos:Pos}
abbrev qki(i:Nat):TG:=λv σ H Q=>Q (σ.set i (some v)) H
theorem jkh{i:Nat}{x:Str}(hN:X.N.Nodup)(hi:X.N[i]?=some x)(hx:Loc X.env.scope x)(hf:X.fn x=true\/X.env.scope.names.lookup x=some .local:=by first | exact .inl rfl | exact .inr rfl | assumption):PG X (.Name x pos) (qki i):=by
 intro pins s σ H v u Q I r h;exact wpAny_assign_Name (kj2 I hN hi hx r (λs' I'=>⟨_,H,I',h⟩) hf)
abbrev wx0:TGs:=λvs σ H Q=>vs=[]/\Q σ H
abbrev wki(t:TG)(u:TGs):TGs:=λvs σ H Q=>∃v r,vs=v::r/\t v σ H fun σ' H'=>u r σ' H' Q
theorem jz8:PGs X [] wx0:=by
 intro pins s σ H vs us Q I r h;obtain⟨e,h⟩:=h;subst e;cases r;exact assignInOrder_nil ⟨σ,H,I,h⟩
theorem jkl{e:Expr}{es:List Expr}{t:TG}{u:TGs}(h1:PG X e t)(h2:PGs X es u)
  (hs:(assignEach (e::es) X.env).map (·.2)=assign e X.env::(assignEach es X.env).map (·.2):=by rfl):PGs X (e::es) (wki t u):=by
 intro pins s σ H vs us Q I r h;obtain⟨v,vr,e1,h⟩:=h;subst e1;cases r with
 | cons r rr =>
  rw[hs];refine assignInOrder_cons (thn (h1 pins s σ H _ _ _ I r h) λ_ s1 ⟨σ1,H1,I1,q1⟩=>?_);exact h2 pins s1 σ1 H1 _ _ Q I1 rr q1
abbrev wqq(te:TE)(g:TG):TS:=λD σ H=>te σ H λx H1=>g x σ H1 D.nx
theorem vzv{tg e:Expr}{te:TE}{g:TG}(he:PE X e te)(hg:PG X tg g)(hs:swapsWithSole [tg] e pos.line X.env=pure false:=by rfl)(hw:swappedStores [tg] e X.env=pure none:=by rfl)
  (h1:(assignEach [tg] X.env).map (·.2)=[assign tg X.env]:=by rfl):PS X (.Assign [tg] e pos) (wqq te g):=by
 intro pins s σ H D I h;refine wpAny_Assign_stores (thn (he pins s σ H _ I h) λv s1 ⟨x,H1,I1,r1,q1⟩=>?_) hs hw;rw[h1];exact thn (hg pins s1 σ H1 x v _ I1 r1 q1) λ_ s2 q=>q
theorem vzs{i:Nat}{x:Str}{e:Expr}{te:TE}{pos':Pos}(hN:X.N.Nodup)(hi:X.N[i]?=some x)(hx:Loc X.env.scope x)(he:PE X e te)(hs:swapsWith e (some (.Name x pos')) pos.line X.env=pure false:=by rfl)(hf:X.fn x=true\/X.env.scope.names.lookup x=some .local:=by first | exact .inl rfl | exact .inr rfl | assumption):
  PS X (.Assign [.Name x pos'] e pos) (wqq te (qki i)):=by
 intro pins s σ H D I h;refine wpAny_Assign_Name (thn (he pins s σ H _ I h) λv s1 ⟨y,H1,I1,r1,q1⟩=>?_) hs;exact kj2 I1 hN hi hx r1 (λs2 I2=>⟨_,H1,I2,q1⟩) hf
end
section
variable {X:Cx}{pos:Pos}
abbrev vxn(c:TT)(tb:TS):TS:=λD σ H=>∃W:Nat->St->Hp->Prop,(∃m,W m σ H)/\∀m σ H,W m σ H ->
 c σ H λb H1=>if b=true then ∃N:St->Hp->Prop,(∀ σ' H',N σ' H'->∃m',m'<m/\W m' σ' H')/\tb { D with nx:=N,ct:=N,bk:=D.nx } σ H1 else D.nx σ H1
theorem qze{c:Expr}{body:List Stmt}{tc:TT}{tb:TS}(hp:PassesOwn (model X.prog X.w) X.A X.env X.xe)(hc:PT X c tc)(hb:PSs X body tb):PS X (.While c body [] pos) (vxn tc tb):=by
 intro pins s σ H D I h;obtain⟨W,⟨m0,w0⟩,turn⟩:=h;refine wpAny_While (codeAny_whileLoop (λn s'=>∃ σ' H',Inv X pins σ' H' s'/\W n σ' H') ?_ m0 ⟨σ,H,I,w0⟩);rintro n s1 ⟨σ1,H1,I1,w1⟩;refine Yt hp (thn (hc pins s1 σ1 H1 _ I1 (turn n σ1 H1 w1)) λb s2 ⟨H2,I2,q2⟩=>?_);cases b with
 | true =>
  obtain⟨N,hN,q2⟩:=q2;rw[Xf rfl];refine Yt hp (thn (hb pins s2 σ1 H2 _ I2 q2) λf s3 q3=>?_);cases f with
  | next =>
   obtain⟨σ3,H3,I3,n3⟩:=q3;obtain⟨m',hm,w3⟩:=hN σ3 H3 n3;exact⟨m',hm,σ3,H3,I3,w3⟩
  | cont =>
   obtain⟨σ3,H3,I3,n3⟩:=q3;obtain⟨m',hm,w3⟩:=hN σ3 H3 n3;exact⟨m',hm,σ3,H3,I3,w3⟩
  | brk=>exact q3
  | ret v=>exact q3
 | false =>
  rw[Xj Bool.false_ne_true];exact wpAny_execs_nil ⟨σ1,H2,I2,q2⟩
end
structure It where
 go:Nat->Hp->Prop
 yld:Nat->Hp->V->Hp->Prop
 stop:Nat->Hp->Prop
def kku(X:Cx)(pins:List (Addr×Obj))(H:Hp)(b:Addr):Prop :=
 H b=none/\b≠X.env.locals/\b∉X.fs/\(b∈X.ex\/X.s₀.heap.objs.size<=b)/\(∀x c,X.env.cells.lookup x=some c->c≠b)/\∀p∈X.pn++pins,p.1≠b
theorem Inv.fpOk{X:Cx}{pins:List (Addr×Obj)}{σ:St}{H H':Hp}{s:Shared}{b:Addr}(I:Inv X pins σ H s)(hb:s.heap.objs.size<=b)(hn:H' b=none):kku X pins H' b:=by
 refine⟨hn,Nat.ne_of_gt (Xn I.lt hb),I.nofs hb,.inr (Y2 I.sz hb),λx c e z=>?_,λp hp z=>?_⟩
 ·obtain⟨v,q⟩:=I.cell x c e;exact absurd (Xn q.lt (by rw[z];exact hb)) (Yc _)
 ·exact absurd (Xn (Xh (I.pin p hp).1) (by rw[z];exact hb)) (Yc _)
structure Turn (P:Program)(w:World)(K:PySem.W.Frag)(tg:Expr)(J:It)(fp:List Addr)(it:Addr)(tn:Nat->Heap->Prop):Prop where
 mem:it∈fp
 obj:∀i h,tn i h->∀b∈fp,∃o,h.get? b=some o/\∀v,o.data≠.cell v
 keep:∀i h h',tn i h->(∀b∈fp,∀o,h.get? b=some o->h'.get? b=some o)->tn i h'
 item:∀(X:Cx),X.prog=P->X.w=w->X.K=K->X.calm=true->∀(i:Nat) (pins:List (Addr×Obj)) (s:Shared) (σ:St) (H:Hp) (E:Value->Shared->Prop),Inv X pins σ H s->(∀b∈fp,kku X pins H b)->tn i s.heap->J.go i H ->
  wpAny (model P w) X.A (pyNext (.ref it)) (λr s1=>∃u,r=some u /\
   wpAny (model P w) X.A (letOwnedTupleGo tg (.ref it) u) (λ_ s2=>∃x H',Inv X pins σ H' s2/\RelV x u/\J.yld i H x H'/\tn (i+1) s2.heap/\∀b∈fp,H' b=none) E s1) E s
 done:∀(X:Cx),X.prog=P->X.w=w->X.K=K->X.calm=true->∀(i:Nat) (pins:List (Addr×Obj)) (s:Shared) (σ:St) (H:Hp) (E:Value->Shared->Prop),Inv X pins σ H s->(∀b∈fp,kku X pins H b)->tn i s.heap->J.stop i H ->
  wpAny (model P w) X.A (pyNext (.ref it)) (λr s1=>r=none/\Inv X pins σ H s1) E s
 self:∀(A:Around) (i:Nat) (s:Shared) (Q:Value->Shared->Prop) (E:Value->Shared->Prop),tn i s.heap->Q (.ref it) s->wpAny (model P w) A (pyIter (.ref it)) Q E s
abbrev TI:=St->Hp->(It->Hp->Prop)->Prop
def PIE(X:Cx)(pins:List (Addr×Obj))(σ:St)(tg:Expr)(R:It->Hp->Prop)(itv:Value)(s2:Shared):Prop :=
 ∃(it:Addr) (fp:List Addr) (tn:Nat->Heap->Prop) (J:It) (H':Hp),itv=.ref it/\Inv X pins σ H' s2/\Turn X.prog X.w X.K tg J fp it tn/\tn 0 s2.heap/\(∀b∈fp,kku X pins H' b)/\R J H'
def PI(X:Cx)(tg iter:Expr)(wi:TI):Prop :=
 ∀(pins:List (Addr×Obj)) (s:Shared) (σ:St) (H:Hp) (R:It->Hp->Prop),Inv X pins σ H s->wi σ H R ->
  wpAny (model X.prog X.w) X.A (eval iter X.env) (λv s1=>wpAny (model X.prog X.w) X.A (pyIter v) (PIE X pins σ tg R) X.xe s1) X.xe s
theorem vj4 {M : Model} {A : Around} {E : Value -> Shared -> Prop} {s : Shared} {tg : Expr} {it : Addr} {u : Value} {o : Obj} {n : String} {vs : Array Value} {Q : Unit -> Shared -> Prop} (ho : s.heap.get? it = some o) (hc : o.cls = .type n) (hd : o.data = .fields vs)
    (hn : ["enumerate", "zip", "dict_itemiterator", "dict_reverseitemiterator", "odict_iterator", "itertools.zip_longest", "itertools.pairwise"].contains n = false) (hQ : Q () s): wpAny M A (letOwnedTupleGo tg (.ref it) u) Q E s := by
  unfold letOwnedTupleGo;cases tg <;> first
    | exact X5 hQ
    | (cases u <;> first
        | exact X5 hQ
        | (refine X1 (wpAny_load ho ?_)
           rw[hc, hd];show wpAny M A (if(["enumerate", "zip", "dict_itemiterator", "dict_reverseitemiterator", "odict_iterator", "itertools.zip_longest", "itertools.pairwise"].contains n&&vs[0]? == some (rawInt _)) = true then _ else _) Q E s;rw[Xj (by intro h; rw[hn, Bool.false_and]at h; cases h)];exact X5 hQ))
def Itl(K:PySem.W.Frag)(a:Addr):It :=
 ⟨λi H=>∃xs x,SqL K H a xs/\xs[i]?=some x,λi H x H'=>H'=H/\∀xs,SqL K H a xs->xs[i]?=some x,λi H=>∃xs,SqL K H a xs/\xs.length<=i⟩
def Itt(K:PySem.W.Frag)(a:Addr):It :=
 ⟨λi H=>∃xs x,SqT K H a xs/\xs[i]?=some x,λi H x H'=>H'=H/\∀xs,SqT K H a xs->xs[i]?=some x,λi H=>∃xs,SqT K H a xs/\xs.length<=i⟩
def Itr(lo:Int)(n:Nat):It:=⟨λi _=>i<n,λi H x H'=>H'=H/\x=.int (lo+i),λi _=>n<=i⟩
theorem qq2{P:Program}{w:World}{K:PySem.W.Frag}{tg:Expr}(a it:Addr):Turn P w K tg (Itl K a) [it] it (λi h=>h.IsListIter it a i) where
 mem:=by simp
 obj:=λi h st b hb=>by
  have e:b=it:=by simpa using hb
  subst e;obtain⟨o,e,c,d⟩:=st;exact⟨o,e,λv z=>by rw[d]at z;cases z⟩
 keep:=λi h h' st k=>st.at λo e=>k it (by simp) o e
 item:=by
  intro X hP hw hK hc i pins s σ H E I hf st hg;subst hP hw hK;obtain⟨xs,x,hq,hx⟩:=hg;obtain⟨its,rv,p,hz⟩:=I.list hq;obtain⟨u,hu,ru⟩:=rv.get hx;obtain⟨f0,f1,f2,f3,f4,f5⟩:=hf it (by simp);refine wpAny_pyNext_list_item st p.isList (x:=u) (by simpa using hu) λh' st' sb=>?_
  have I1:Inv X pins σ H { s with heap:=h' }:=I.turned (t':=s.toks) (λb o hb e=>(sb.2 b hb).trans e) f0 f1 f3 f4 f5;obtain⟨o,e,c,d⟩:=id st';exact⟨u,rfl,vj4 (s:={ s with heap:=h' }) e c d (by decide) ⟨x,H,I1,ru,⟨rfl,λys hy=>by rw[I.list_inj hy hq];exact hx⟩,st',λb hb=>(hf b hb).1⟩⟩
 done:=by
  intro X hP hw hK hc i pins s σ H E I hf st hg;subst hP hw hK;obtain⟨xs,hq,hx⟩:=hg;obtain⟨its,rv,p,hz⟩:=I.list hq;obtain⟨f0,f1,f2,f3,f4,f5⟩:=hf it (by simp);have hl:=rv.length;exact wpAny_pyNext_list_end (I.ok.hd hc) st p.isList (by simp;omega) λh' eb=>⟨rfl,I.turned (t':=s.toks) (λb o hb e=>eb b o hb e) f0 f1 f3 f4 f5⟩
 self:=λ_ _ _ _ _ st h=>wpAny_pyIter_listiter st h
theorem qk0{P:Program}{w:World}{K:PySem.W.Frag}{tg:Expr}(a it:Addr):Turn P w K tg (Itt K a) [it] it (λi h=>h.IsTupleIter it a i) where
 mem:=by simp
 obj:=λi h st b hb=>by
  have e:b=it:=by simpa using hb
  subst e;obtain⟨o,e,c,d⟩:=st;exact⟨o,e,λv z=>by rw[d]at z;cases z⟩
 keep:=λi h h' st k=>st.at λo e=>k it (by simp) o e
 item:=by
  intro X hP hw hK hc i pins s σ H E I hf st hg;subst hP hw hK;obtain⟨xs,x,hq,hx⟩:=hg;obtain⟨its,rv,p,hz⟩:=I.tuple hq;obtain⟨u,hu,ru⟩:=rv.get hx;obtain⟨f0,f1,f2,f3,f4,f5⟩:=hf it (by simp);refine wpAny_pyNext_tuple_item st (show s.heap.IsTuple a its.toArray from p) (x:=u) (by simpa using hu) λh' st' sb=>?_
  have I1:Inv X pins σ H { s with heap:=h' }:=I.turned (t':=s.toks) (λb o hb e=>(sb.2 b hb).trans e) f0 f1 f3 f4 f5;obtain⟨o,e,c,d⟩:=id st';exact⟨u,rfl,vj4 (s:={ s with heap:=h' }) e c d (by decide) ⟨x,H,I1,ru,⟨rfl,λys hy=>by rw[I.tuple_inj hy hq];exact hx⟩,st',λb hb=>(hf b hb).1⟩⟩
 done:=by
  intro X hP hw hK hc i pins s σ H E I hf st hg;subst hP hw hK;obtain⟨xs,hq,hx⟩:=hg;obtain⟨its,rv,p,hz⟩:=I.tuple hq;obtain⟨f0,f1,f2,f3,f4,f5⟩:=hf it (by simp);have hl:=rv.length;exact wpAny_pyNext_tuple_end (I.ok.hd hc) st (show s.heap.IsTuple a its.toArray from p) (by simp;omega) λh' eb=>⟨rfl,I.turned (t':=s.toks) (λb o hb e=>eb b o hb e) f0 f1 f3 f4 f5⟩
 self:=λ_ _ _ _ _ st h=>wpAny_pyIter_tupleiter st h
theorem qk1{P:Program}{w:World}{K:PySem.W.Frag}{tg:Expr}(it:Addr)(lo:Int)(n:Nat):Turn P w K tg (Itr lo n) [it] it (λi h=>IsRangeIter h it (lo+(i:Nat)*1) ((n:Int) - (i:Nat)) 1) where
 mem:=by simp
 obj:=λi h st b hb=>by
  have e:b=it:=by simpa using hb
  subst e;exact⟨_,st,λv z=>by
   have z':Data.fields _=Data.cell v:=z;cases z'⟩
 keep:=λi h h' st k=>k it (by simp) _ st
 item:=by
  intro X hP hw hK hc i pins s σ H E I hf st hg;subst hP hw hK;obtain⟨f0,f1,f2,f3,f4,f5⟩:=hf it (by simp);have W:=Walks.range (prog:=X.prog) (w:=X.w) (I.ok.hd hc) it lo 1 n;refine W.item i s _ _ hg st λv h' tk hv st' kk=>?_
  obtain⟨t,rfl⟩:=hv;have I1:Inv X pins σ H { s with heap:=h',toks:=tk }:=I.turned (λb o hb e=>kk b o (by simpa using hb) e) f0 f1 f3 f4 f5;refine⟨_,rfl,vj4 (s:={ s with heap:=h',toks:=tk }) (n:="range_iterator") st' rfl rfl (by decide) ⟨.int (lo+i),H,I1,⟨t,?_⟩,⟨rfl,rfl⟩,st',λb hb=>(hf b hb).1⟩⟩;rw[Int.mul_one]
 done:=by
  intro X hP hw hK hc i pins s σ H E I hf st hg;subst hP hw hK;obtain⟨f0,f1,f2,f3,f4,f5⟩:=hf it (by simp);exact wpAny_pyNext_range_end (I.ok.hd hc) st (by have:n<=i:=hg;omega) λh' eb=>⟨rfl,I.turned (t':=s.toks) (λb o hb e=>eb b o hb e) f0 f1 f3 f4 f5⟩
 self:=λ_ _ _ _ _ st h=>wpAny_pyIter_rangeiter st h
section
variable {X:Cx}{tg:Expr}
theorem qz9{pins:List (Addr×Obj)}{σ:St}{H:Hp}{s:Shared}{R:It->Hp->Prop}{E:Value->Shared->Prop}{lo hi:Int}{t u v:Tok}{tk:Nat}(I:Inv X pins σ H s)(h1:-(2 ^ 62)<=lo)(h2:lo<2 ^ 62)(h3:-(2 ^ 62)<=hi)(h4:hi<2 ^ 62)
  (q:R (Itr lo (hi - lo).toNat) H):wpAny (model X.prog X.w) X.A (pyIter (.ref s.heap.objs.size)) (PIE X pins σ tg R) E { s with heap:=s.heap.push { cls:=.type "range",data:=.fields #[.int lo t,.int hi u,.int 1 v] },toks:=tk }:=by
 refine wpAny_pyIter_range (IsRange.new ..) (small_one h1 h2 h3 h4) ?_;have I1:Inv X pins σ H { s with heap:=s.heap.push { cls:=.type "range",data:=.fields #[.int lo t,.int hi u,.int 1 v] },toks:=tk }:=I.kept λb o e=>X6 _ e
 refine⟨(s.heap.push { cls:=.type "range",data:=.fields #[.int lo t,.int hi u,.int 1 v] }).objs.size,[(s.heap.push { cls:=.type "range",data:=.fields #[.int lo t,.int hi u,.int 1 v] }).objs.size],_,_,H,rfl,
  I1.kept (t':=tk) λb o e=>X6 _ e,qk1 _ lo (hi - lo).toNat,?_,λb hb=>?_,q⟩
 ·have e1:lo+((0:Nat):Int)*1=lo:=by simp
  have e2:(((hi - lo).toNat:Nat):Int) - ((0:Nat):Int)=Builtin.Range.rangeSize lo hi 1:=by rw[rangeSize_one];split<;>omega
  show IsRangeIter _ _ (lo+((0:Nat):Int)*1) ((((hi - lo).toNat:Nat):Int) - ((0:Nat):Int)) 1;rw[e1,e2];exact Xl _ rfl
 ·have e:b=(s.heap.push { cls:=.type "range",data:=.fields #[.int lo t,.int hi u,.int 1 v] }).objs.size:=by simpa using hb
  subst e;exact I1.fpOk (X8 _) (I1.hok.fresh (X8 _))
abbrev wvt(ta:TA):TI:=fun σ H R=>ta σ H λvs H1=>∃j:Int,vs=[.int j]/\-(2 ^ 62)<=j/\j<2 ^ 62/\R (Itr 0 j.toNat) H1
theorem qv6{a:Expr}{ta:TA}{p pos:Pos}(hg:Gl X "range")(hm:X.mg "range"=none)(ha:PA X [a] ta)(hs:starEach [a] X.env=[(false,eval a X.env)]:=by rfl):PI X tg (.Call (.Name "range" p) [a] [] pos) (wvt ta):=by
 intro pins s σ H R I h;refine Call_ (jxg I hg hm boot_range (Xz (thn (ha pos pins s σ H _ I h) λus s1 ⟨vs,H1,I1,r1,q1⟩=>?_) hs rfl));obtain⟨j,e,q1,q2,q⟩:=q1;subst e;cases r1 with
 | cons r rr =>
  cases rr;obtain⟨t,rfl⟩:=r;exact call_range_1 (qz9 I1 (by omega) (by omega) q1 q2 (by simpa using q))
abbrev tFor(wi:TI)(g:TG)(tb:TS):TS:=λD σ H=>wi σ H λJ H1=>∃W:Nat->Nat->St->Hp->Prop,(∃m,W 0 m σ H1)/\∀i m σ H,W i m σ H ->
 (J.stop i H/\D.nx σ H)\/(J.go i H/\∃N:St->Hp->Prop,(∀ σ' H',N σ' H'->∃m',m'<m/\W (i+1) m' σ' H')/\∀x H',J.yld i H x H'->g x σ H' fun σ2 H2=>tb { D with nx:=N,ct:=N,bk:=D.nx } σ2 H2)
def jxc(fp:List Addr)(h:Heap):List (Addr×Obj):=fp.filterMap λb=>(h.get? b).map λo=>(b,o)
theorem jzc{fp:List Addr}{h:Heap}{b:Addr}{o:Obj}(hb:b∈fp)(e:h.get? b=some o):(b,o)∈jxc fp h:=List.mem_filterMap.mpr ⟨b,hb,by rw[e];rfl⟩
theorem kwj{fp:List Addr}{h:Heap}{p:Addr×Obj}(hp:p∈jxc fp h):p.1∈fp/\h.get? p.1=some p.2:=by
 obtain⟨b,hb,e⟩:=List.mem_filterMap.mp hp;cases q:h.get? b with
 | none=>rw[q]at e;cases e
 | some o =>
  rw[q]at e;have e':(b,o)=p:=oq9 e;subst e';exact⟨hb,q⟩
theorem Inv.pinned{pins:List (Addr×Obj)}{σ:St}{H:Hp}{s:Shared}{fp:List Addr}(I:Inv X pins σ H s)(hf:∀b∈fp,kku X pins H b)(ho:∀b∈fp,∃o,s.heap.get? b=some o/\∀v,o.data≠.cell v):Inv X (pins++jxc fp s.heap) σ H s :=
 I.pins_of λp hp=>(List.mem_append.mp hp).elim (λz=>I.pin p (lr9 _ z)) λz=>by
  obtain⟨hb,e⟩:=kwj z;obtain⟨f0,f1,f2,_⟩:=hf p.1 hb;obtain⟨o,e',d⟩:=ho p.1 hb;rw[e]at e';cases e';exact⟨e,f0,f1,f2,d⟩
theorem Inv.unpinned{pins pl:List (Addr×Obj)}{σ:St}{H:Hp}{s:Shared}(I:Inv X (pins++pl) σ H s):Inv X pins σ H s:=I.pins_of λp hp=>I.pin p (lr9 _ (ll9 _ hp))
theorem vzu{iter:Expr}{body:List Stmt}{wi:TI}{g:TG}{tb:TS}{pos:Pos}(hp:PassesOwn (model X.prog X.w) X.A X.env X.xe)(hc:X.calm=true)(hi:PI X tg iter wi)(hg:PG X tg g)(hb:PSs X body tb)
  (hs:∀x,foldedSetIterable iter X.env x=pure x:=by intro _;rfl):PS X (.For tg iter body [] pos) (tFor wi g tb):=by
 intro pins s σ H D I h;refine wpAny_For (thn (hi pins s σ H _ I h) λv s1 h1=>thn h1 λitv s2 h2=>?_) hs;obtain⟨it,fp,tn,J,H2,e,I2,T,st2,f2,W,⟨m0,w0⟩,turn⟩:=h2;subst e;have stat:∀{H':Hp},(∀b∈fp,H' b=none)->∀b∈fp,kku X pins H' b:=λhn b hb=>⟨hn b hb,(f2 b hb).2⟩
 refine codeAny_forLoop_any (λn s'=>∃i σ' H',Inv X pins σ' H' s'/\tn i s'.heap/\(∀b∈fp,H' b=none)/\W i n σ' H') ?_ m0 ⟨0,σ,H2,I2,st2,λb hb=>(f2 b hb).1,w0⟩;rintro n s3 ⟨i,σ3,H3,I3,st3,fr3,w3⟩;rcases turn i n σ3 H3 w3 with⟨stop,qn⟩| ⟨go,N,hN,step⟩
 ·refine Yt hp (thn (T.done X rfl rfl rfl hc i pins s3 σ3 H3 X.xe I3 (stat fr3) st3 stop) λr s4 ⟨hr,I4⟩=>?_);subst hr;exact wpAny_execs_nil ⟨σ3,H3,I4,qn⟩
 ·refine Yt hp (thn (T.item X rfl rfl rfl hc i pins s3 σ3 H3 X.xe I3 (stat fr3) st3 go) λr s4 ⟨u,hr,h4⟩=>?_);subst hr;refine Yt hp (thn h4 λ_ s5 ⟨x,H5,I5,r5,y5,st5,fr5⟩=>?_);have I5':=I5.pinned (stat fr5) (T.obj _ _ st5);refine Yt hp (thn (hg _ s5 σ3 H5 x u _ I5' r5 (step x H5 y5)) λ_ s6 ⟨σ6,H6,I6,q6⟩=>?_);refine Yt hp (thn (hb _ s6 σ6 H6 _ I6 q6) λf s7 q7=>?_);have again:∀{σ7:St} {H7:Hp},Inv X (pins++jxc fp s5.heap) σ7 H7 s7->N σ7 H7->∃m,m<n/\∃i σ' H',Inv X pins σ' H' s7/\tn i s7.heap/\(∀b∈fp,H' b=none)/\W i m σ' H':=fun {σ7 H7} I7 n7=>by
   obtain⟨m',hm,w7⟩:=hN σ7 H7 n7;refine⟨m',hm,i+1,σ7,H7,I7.unpinned,T.keep _ _ _ st5 λb hb o e=>(I7.pin (b,o) (lr9 _ (lr9 _ (jzc hb e)))).1,λb hb=>?_,w7⟩;obtain⟨o,e,d⟩:=T.obj _ _ st5 b hb;exact(I7.pin (b,o) (lr9 _ (lr9 _ (jzc hb e)))).2.1
  cases f with
  | next=>obtain⟨σ7,H7,I7,n7⟩:=q7;exact again I7 n7
  | cont=>obtain⟨σ7,H7,I7,n7⟩:=q7;exact again I7 n7
  | brk=>obtain⟨σ7,H7,I7,q7⟩:=q7;exact⟨σ7,H7,I7.unpinned,q7⟩
  | ret v=>obtain⟨x7,σ7,H7,I7,r7,q7⟩:=q7;exact⟨x7,σ7,H7,I7.unpinned,r7,q7⟩
end
abbrev R2:=V->V->Hp->VK->Prop
def OpR(X:Cx)(f:Value->Value->Sem Value)(r:R2):Prop :=
 ∀(pins:List (Addr×Obj)) (s:Shared) (σ:St) (H:Hp) (x y:V) (v u:Value) (Q:VK),Inv X pins σ H s->RelV x v->RelV y u->r x y H Q ->
  wpAny (model X.prog X.w) X.A (f v u) (EP X pins σ Q) X.xe s
def CallR(X:Cx)(f:Value)(r:List V->Hp->VK->Prop):Prop :=
 ∀(pins:List (Addr×Obj)) (s:Shared) (σ:St) (H:Hp) (xs:List V) (us:List Value) (Q:VK),Inv X pins σ H s->Vals xs us->r xs H Q ->
  wpAny (model X.prog X.w) X.A (call f us) (EP X pins σ Q) X.xe s
def TruR(X:Cx)(r:V->Hp->(Bool->Hp->Prop)->Prop):Prop :=
 ∀(pins:List (Addr×Obj)) (s:Shared) (σ:St) (H:Hp) (x:V) (v:Value) (Q:Bool->Hp->Prop),Inv X pins σ H s->RelV x v->r x H Q ->
  wpAny (model X.prog X.w) X.A (truthy v) (TP X pins σ Q) X.xe s
abbrev tOp(r:R2)(ta tb:TE):TE:=fun σ H Q=>ta σ H λx H1=>tb σ H1 λy H2=>r x y H2 Q
abbrev tUn(r:V->Hp->VK->Prop)(ta:TE):TE:=fun σ H Q=>ta σ H λx H1=>r x H1 Q
def rI(C:Int->Int->Prop)(g:Int->Int->V):R2:=λx y H Q=>∃i j,x=.int i/\y=.int j/\C i j/\Q (g i j) H
def rI0(g:Int->Int->V):R2:=λx y H Q=>∃i j,x=.int i/\y=.int j/\Q (g i j) H
section
variable {X:Cx}{a b c:Expr}{ta tb tc:TE}{pos:Pos}
theorem ww9(ha:PE X a ta)(hb:PE X b tb){pins:List (Addr×Obj)}{s:Shared}{σ:St}{H:Hp}{R:V->V->Hp->Prop}(I:Inv X pins σ H s)
  (h:ta σ H λx H1=>tb σ H1 λy H2=>R x y H2) {Q:Value->Shared->Prop} {f:Value->Value->Sem Value}
  (hf:∀v u s2 x y H2,Inv X pins σ H2 s2->RelV x v->RelV y u->R x y H2->wpAny (model X.prog X.w) X.A (f v u) Q X.xe s2):
  wpAny (model X.prog X.w) X.A (eval a X.env) (λv s₁=>wpAny (model X.prog X.w) X.A (eval b X.env) (λu s₂=>wpAny (model X.prog X.w) X.A (f v u) Q X.xe s₂) X.xe s₁) X.xe s:=by
 refine thn (ha pins s σ H _ I h) λv s1 ⟨x,H1,I1,r1,q1⟩=>?_
 refine thn (hb pins s1 σ H1 _ I1 q1) λu s2 ⟨y,H2,I2,r2,q2⟩=>?_
 exact hf v u s2 x y H2 I2 r1 r2 q2
theorem wvg{op:Operator}{r:R2}(ho:OpR X (binaryOp op) r)(ha:PE X a ta)(hb:PE X b tb):PE X (.BinOp a op b pos) (tOp r ta tb):=by
 intro pins s σ H Q I h;exact wpAny_BinOp (ww9 ha hb I h λv u s2 x y H2 I2 rx ry q=>ho pins s2 σ H2 x y v u Q I2 rx ry q)
theorem opI{f:Value->Value->Sem Value}{C:Int->Int->Prop}{g:Int->Int->Int}
  (rule:∀(i j:Int) (t u:Tok) (s:Shared) (Q:Value->Shared->Prop) (E:Value->Shared->Prop),C i j->Q (.int (g i j) s.toks) { s with toks:=s.toks+1 }->wpAny (model X.prog X.w) X.A (f (.int i t) (.int j u)) Q E s):
  OpR X f (rI C λi j=>.int (g i j)):=by
 intro pins s σ H x y v u Q I rx ry h;obtain⟨i,j,rfl,rfl,hc,q⟩:=h;obtain⟨t,rfl⟩:=rx;obtain⟨t',rfl⟩:=ry;exact rule i j t t' s _ _ hc ⟨.int (g i j),H,I.tok _,⟨_,rfl⟩,q⟩
theorem opI0{f:Value->Value->Sem Value}{g:Int->Int->Int}
  (rule:∀(i j:Int) (t u:Tok) (s:Shared) (Q:Value->Shared->Prop) (E:Value->Shared->Prop),Q (.int (g i j) s.toks) { s with toks:=s.toks+1 }->wpAny (model X.prog X.w) X.A (f (.int i t) (.int j u)) Q E s):
  OpR X f (rI0 λi j=>.int (g i j)):=by
 intro pins s σ H x y v u Q I rx ry h;obtain⟨i,j,rfl,rfl,q⟩:=h;obtain⟨t,rfl⟩:=rx;obtain⟨t',rfl⟩:=ry;exact rule i j t t' s _ _ ⟨.int (g i j),H,I.tok _,⟨_,rfl⟩,q⟩
theorem wvl{f:Value->Value->Sem Value}{g:Int->Int->Bool}
  (rule:∀(i j:Int) (t u:Tok) (s:Shared) (Q:Value->Shared->Prop) (E:Value->Shared->Prop),Q (.bool (g i j)) s->wpAny (model X.prog X.w) X.A (f (.int i t) (.int j u)) Q E s):
  OpR X f (rI0 λi j=>.bl (g i j)):=by
 intro pins s σ H x y v u Q I rx ry h;obtain⟨i,j,rfl,rfl,q⟩:=h;obtain⟨t,rfl⟩:=rx;obtain⟨t',rfl⟩:=ry;exact rule i j t t' s _ _ ⟨.bl (g i j),H,I,rfl,q⟩
def wx6(i j:Int):Prop:=0<=j/\j<=1000000/\i.natAbs<2 ^ 64
theorem op_add:OpR X (binaryOp .Add) (rI0 λi j=>.int (i+j)):=opI0 λ_ _ _ _ _ _ _ q=>add_int q
theorem wjc:OpR X (binaryOp .Mod) (rI (λ_ j=>0<j) λi j=>.int (i % j)):=opI λi j _ _ _ _ _ hc q=>by
 have h1:(0:Int)<j:=hc;exact mod_int' (by omega) (by rw[Int.fmod_eq_emod_of_nonneg i (by omega)];exact q)
theorem vk3:OpR X (binaryOp .Pow) (rI wx6 λi j=>.int (i ^ j.toNat)):=opI λ_ _ _ _ _ _ _ hc q=>pow_int_small hc.1 hc.2.1 hc.2.2 q
end
section
variable {X:Cx}{a b c:Expr}{ta tb tc:TE}{pos:Pos}
theorem qjj{pins:List (Addr×Obj)}{σ:St}{H:Hp}{s:Shared}{Q:VK}{k k':Bool}(I:Inv X pins σ H s)(q:Q (.bl k) H)(e:k=k'):EP X pins σ Q (.bool k') s:=by
 subst e;exact⟨.bl k,H,I,rfl,q⟩
theorem wjd:OpR X (compareOp .Lt) (rI0 λi j=>.bl (decide (i<j))):=wvl λ_ _ _ _ _ _ _ q=>lt_int q
theorem wje:OpR X (compareOp .LtE) (rI0 λi j=>.bl (decide (i<=j))):=wvl λ_ _ _ _ _ _ _ q=>le_int q
theorem kjp:OpR X (compareOp .Gt) (rI0 λi j=>.bl (decide (j<i))):=wvl λ_ _ _ _ _ _ _ q=>gt_int q
theorem qvf:OpR X (compareOp .In) (λx y H Q=>∃i j,x=.str i/\y=.str j/\Q (.bl (!(Builtin.Str.occurrences j i 0 j.length 1).isEmpty)) H):=by
 intro pins s σ H x y v u Q I rx ry h;obtain⟨i,j,rfl,rfl,q⟩:=h;obtain⟨t,rfl⟩:=rx;obtain⟨t',rfl⟩:=ry;exact in_str (qjj I q rfl)
theorem qve : OpR X (compareOp .Is) (λx y H Q => y = .non /\ Q (.bl (decide (x = .non))) H):= by
  intro pins s σ H x y v u Q I rx ry h;obtain⟨rfl, q⟩:= h;cases ry;refine is_none_gen (qjj I q ?_);cases x <;> first
    | (cases rx; rfl)
    | (obtain⟨t, rfl⟩:= rx; rfl)
theorem kqy : OpR X (compareOp .IsNot) (λx y H Q => y = .non /\ Q (.bl (!decide (x = .non))) H):= by
  intro pins s σ H x y v u Q I rx ry h;obtain⟨rfl, q⟩:= h;cases ry;refine isnot_none_gen (qjj I q ?_);cases x <;> first
    | (cases rx; rfl)
    | (obtain⟨t, rfl⟩:= rx; rfl)
theorem OpR.or{f:Value->Value->Sem Value}{r r':R2}(h:OpR X f r)(h':OpR X f r'):OpR X f (λx y H Q=>r x y H Q\/r' x y H Q):=by
 intro pins s σ H x y v u Q I rx ry q;rcases q with q | q
 ·exact h pins s σ H x y v u Q I rx ry q
 ·exact h' pins s σ H x y v u Q I rx ry q
theorem jjf(b:Expr){op:CmpOp}(h:op≠.In:=by decide)(h2:op≠.NotIn:=by decide):behindInMarks op b=false:=by
 have e1:(op==CmpOp.In)=false:=by cases op<;>first | rfl | exact absurd rfl h
 have e2:(op==CmpOp.NotIn)=false:=by cases op<;>first | rfl | exact absurd rfl h2
 cases b<;>simp[behindInMarks,e1,e2]
theorem vvc{op:CmpOp}{r:R2}(ho:OpR X (compareOp op) r)(ha:PE X a ta)(hb:PE X b tb)(hm:behindInMarks op b=false):PE X (.Compare a [op] [b] pos) (tOp r ta tb):=by
 intro pins s σ H Q I h;exact wpAny_Compare1 (ww9 ha hb I h λv u s2 x y H2 I2 rx ry q=>ho pins s2 σ H2 x y v u Q I2 rx ry q) hm
abbrev wqn(t:TE):TT:=fun σ H Q=>t σ H λx H'=>∃k,x=.bl k/\Q k H'
theorem vqx{op:CmpOp}{r:R2}(ho:OpR X (compareOp op) r)(ha:PE X a ta)(hb:PE X b tb)(hm:behindInMarks op b=false):PT X (.Compare a [op] [b] pos) (wqn (tOp r ta tb)):=by
 intro pins s σ H Q I h;refine wpAny_isTrue_Compare1 (thn (ha pins s σ H _ I h) λv s1 ⟨x,H1,I1,r1,q1⟩=>thn (hb pins s1 σ H1 _ I1 q1) λu s2 ⟨y,H2,I2,r2,q2⟩ =>
  thn (ho pins s2 σ H2 x y v u _ I2 r1 r2 q2) λc s3 ⟨z,H3,I3,r3,k,e,q3⟩=>?_) hm
 subst e;cases r3;exact wpAny_truthy_bool ⟨H3,I3,q3⟩
def wwc(K:PySem.W.Frag)(x:V)(H:Hp)(k:Bool):Prop :=
 match x with
 | .non=>k=false
 | .bl b=>k=b
 | .int i=>k=(i != 0)
 | .str y=>y.length<=sizeLine/\k=((y.length:Int) != 0)
 | .byt y=>y.size<=sizeLine/\k=((y.size:Int) != 0)
 | .ref p=>(∃xs,SqL K H p xs/\k=!xs.isEmpty)\/(∃xs,SqT K H p xs/\k=!xs.isEmpty)\/∃kvs,H p=some (.dK kvs)/\k=!kvs.isEmpty
 | _=>False
theorem qkg{κ:Type}{kvs:List (κ×V)}{vs:List (κ×Value)}(r:KV kvs vs):(!vs.isEmpty)=!kvs.isEmpty:=by
 cases r<;>rfl
theorem kq4{xs:List V}{its:List Value}(r:Vals xs its):(!its.toArray.isEmpty)=!xs.isEmpty:=by
 cases r<;>simp
theorem kq1:(sizeLine:Nat)<2 ^ 63:=by rw[sizeLine_eq];decide
theorem vxm:TruR X (λx H Q=>∃k,wwc X.K x H k/\Q k H):=by
 intro pins s σ H x v Q I rx h;obtain⟨k,e,q⟩:=h;have hl:=kq1;have hs:sizeLine=16777216:=sizeLine_eq;cases x with
 | non =>
  cases rx;have e':k=false:=e;subst e';exact truthy_none ⟨H,I,q⟩
 | bl b =>
  cases rx;have e':k=b:=e;subst e';exact wpAny_truthy_bool ⟨H,I,q⟩
 | int i =>
  obtain⟨t,rfl⟩:=rx;have e':k=(i != 0):=e;subst e';exact PySem.P.truthy_int ⟨H,I,q⟩
 | str y =>
  obtain⟨t,rfl⟩:=rx;obtain⟨hy,e'⟩:y.length<=sizeLine/\k=((y.length:Int) != 0):=e;subst e';exact PySem.P.truthy_str (by omega) ⟨H,I.tok _,q⟩
 | byt y =>
  obtain⟨t,rfl⟩:=rx;obtain⟨hy,e'⟩:y.size<=sizeLine/\k=((y.size:Int) != 0):=e;subst e';exact PySem.W.truthy_bytes (by omega) ⟨H,I.tok _,q⟩
 | ref p =>
  cases rx;have e':(∃xs,SqL X.K H p xs/\k=!xs.isEmpty)\/(∃xs,SqT X.K H p xs/\k=!xs.isEmpty)\/∃kvs,H p=some (.dK kvs)/\k=!kvs.isEmpty:=e;rcases e' with⟨xs,hx,e'⟩| ⟨xs,hx,e'⟩| ⟨kvs,hx,e'⟩
  ·subst e';obtain⟨its,r,pl,hz⟩:=I.list hx;have hlen:=r.length;exact wpAny_truthy_list pl.isList (by simp only[Xa];omega) ⟨H,I.tok _,by rw[kq4 r];exact q⟩
  ·subst e';obtain⟨its,r,pl,hz⟩:=I.tuple hx;have hlen:=r.length;exact truthy_tuple pl (by simp only[Xa];omega) ⟨H,I.tok _,by rw[kq4 r];exact q⟩
  ·subst e';obtain⟨hz,hS,vs,r,m⟩:kvs.length<=sizeLine/\(p==sysModules)=false/\∃vs,KV kvs vs/\s.heap.DictOf (kvb X.prog X.w) p vs:=I.hok p _ hx;have hlen:kvs.length=vs.length:=Paired.length r;exact wpAny_truthy_dict hS m (by omega) ⟨H,I.tok _,by rw[qkg r];exact q⟩
 | _=>exact(show False from e).elim
theorem qzb(ha:PE X a ta)(he:∀whole,isTrue a X.env whole=(do let v <-whole;standAt a.pos;holding [v] (truthy v))):
  PT X a (fun σ H Q=>ta σ H λx H'=>∃k,wwc X.K x H' k/\Q k H'):=by
 intro pins s σ H Q I h;exact isTrue_plain (thn (ha pins s σ H _ I h) λv s1 ⟨x,H1,I1,r1,q1⟩=>vxm pins s1 σ H1 x v Q I1 r1 q1) (he _)
theorem op_add_str:OpR X (binaryOp .Add) (λx y H Q=>∃i j,x=.str i/\y=.str j/\i.length+j.length<=sizeLine/\Q (.str (i++j)) H):=by
 intro pins s σ H x y v u Q I rx ry h;obtain⟨i,j,rfl,rfl,hz,q⟩:=h;obtain⟨t,rfl⟩:=rx;obtain⟨t',rfl⟩:=ry;exact add_str (λt' tk=>⟨.str (i++j),H,I.tok _,⟨_,rfl⟩,q⟩) hz
theorem jx3{x:V}{us:List Value}(r:Vals [x] us):∃u,us=[u]/\RelV x u:=by
 cases r with
 | cons r1 r2=>cases r2;exact⟨_,rfl,r1⟩
theorem wql{x y:V}{us:List Value}(r:Vals [x,y] us):∃u w',us=[u,w']/\RelV x u/\RelV y w':=by
 cases r with
 | cons r1 r2 =>
  cases r2 with
  | cons r3 r4=>cases r4;exact⟨_,_,rfl,r1,r3⟩
theorem qx5:CallR X (.type "int") (λxs H Q=>(∃i,xs=[.int i]/\Q (.int i) H)\/∃k,xs=[.bl k]/\Q (.int (if k then 1 else 0)) H):=by
 intro pins s σ H xs us Q I r h;rcases h with⟨i,rfl,q⟩| ⟨k,rfl,q⟩
 ·obtain⟨u,rfl,t,rfl⟩:=jx3 r;exact call_int_int ⟨.int i,H,I,⟨_,rfl⟩,q⟩
 ·obtain⟨u,rfl,r1⟩:=jx3 r;cases r1;exact call_int_bool ⟨.int (if k then 1 else 0),H,I.tok _,⟨_,rfl⟩,q⟩
end
structure Cls (K:PySem.W.Frag)(C:Addr):Prop where
 pg:PySem.W.plainGet K C Str.empty=true
 hd:PySem.W.hasDictIn K C=true
 po:PySem.W.plainOver K C=true
 sa:PySem.W.findIn K (.ref C) "__setattr__"=some (some (.builtin "object.__setattr__"))
section
variable {X:Cx}{pins:List (Addr×Obj)}{σ:St}{H:Hp}{s:Shared}{A:Around}{E:Value->Shared->Prop}{Q:Value->Shared->Prop}{c:Value}{b:Bool}
inductive TyOf (K:PySem.W.Frag)(H:Hp):V->Value->Prop where
 | non:TyOf K H .non (.type "NoneType")
 | bl (x:Bool):TyOf K H (.bl x) (.type "bool")
 | int (i:Int):TyOf K H (.int i) (.type "int")
 | str (x:Str):TyOf K H (.str x) (.type "str")
 | flt (x:UInt64):TyOf K H (.flt x) (.type "float")
 | lst {a:Addr} {xs:List V} (e:H a=some (.lst xs)):TyOf K H (.ref a) (.type "list")
 | frz {a:Addr} {o:Obj} {xs:List V} (e:H a=some (.frz o (.lst xs))):TyOf K H (.ref a) (.type "list")
 | tup {a:Addr} {xs:List V} (e:H a=some (.tup xs)):TyOf K H (.ref a) (.type "tuple")
 | dK {a:Addr} {kvs:List (Key×V)} (e:H a=some (.dK kvs)):TyOf K H (.ref a) (.type "dict")
 | dT {a:Addr} {kvs:List (List Key×V)} (e:H a=some (.dT kvs)):TyOf K H (.ref a) (.type "dict")
 | ins {a C dx:Addr} {fs:List (Str×V)} (e:H a=some (.ins C dx fs)) (cl:Cls K C) (ha:PySem.W.findIn K (.ref C) "__class__"=some (some (.builtin "object.__class__")))
   (hn:PySem.W.specialIn K (.builtin "object.__class__") "__get__"=some (some (.builtin "getset_descriptor.__get__"))) (htk:PySem.W.takesIn K (.builtin "object.__class__")=some true)
   (hm:PySem.W.mroIn K C (.type "object")=some true):TyOf K H (.ref a) (.ref C)
end
structure Room (k:Nat)(A:Around):Prop where
 hd:A.handled=none
 dp:A.depth+3*k+5<recursionLimit
 un:A.units+16*k+200<cLine
 gd:A.guards=some []
theorem Room.mono{j k:Nat}{A:Around}(r:Room k A)(h:j<=k):Room j A:=⟨r.hd,by have:=r.dp;omega,by have:=r.un;omega,r.gd⟩
theorem Room.deeper{k:Nat}{A:Around}(r:Room (k+1) A)(env:Env):Room k (A.deeper env):=
 ⟨r.hd,by have:=r.dp;show A.depth+1+3*k+5<_;omega,by have:=r.un;show A.units+3+16*k+200<_;omega,r.gd⟩
theorem Room.depth{k:Nat}{A:Around}(r:Room k A):A.depth<recursionLimit:=by have:=r.dp;omega
theorem Room.units{k:Nat}{A:Around}(r:Room k A):A.units+64<cLine:=by have:=r.un;omega
abbrev wwf:TA:=λ_ H Q=>Q [] H
abbrev vxs(ta:TE)(tr:TA):TA:=fun σ H Q=>ta σ H λx H1=>tr σ H1 λxs H2=>Q (x::xs) H2
section
variable {X:Cx}{e:Expr}{es:List Expr}{te:TE}{t:TA}{pos:Pos}
theorem jqe:PA X [] wwf:=λ_ _ _ _ H Q I h=>Calls.spliced_nil ⟨[],H,I,.nil,h⟩
theorem jko(ha:PE X e te)(hr:PA X es t)(hs:starEach (e::es) X.env=(false,eval e X.env)::starEach es X.env:=by rfl):PA X (e::es) (vxs te t):=by
 intro pos pins s σ H Q I h;rw[hs];show wpAny _ _ (spliced ((false,eval e X.env)::backTo pos (starEach es X.env))) _ _ s;refine Calls.spliced_cons (thn (ha pins s σ H _ I h) λu s1 ⟨x,H1,I1,r1,q1⟩=>?_);exact thn (hr pos pins s1 σ H1 _ I1 q1) λus s2 ⟨xs,H2,I2,r2,q2⟩=>⟨x::xs,H2,I2,.cons r1 r2,q2⟩
abbrev tTup(t:TA):TE:=fun σ H Q=>t σ H λxs H1=>xs.length<=sizeLine/\∀p,H1 p=none->Q (.ref p) (upd H1 p (.tup xs))
abbrev tLst(t:TA):TE:=fun σ H Q=>t σ H λxs H1=>xs.length<=sizeLine/\∀p,H1 p=none->Q (.ref p) (upd H1 p (.lst xs))
theorem wj0{x1}(h:PA X es t):PE X (.Tuple es x1 pos) (tTup t):=by
 intro pins s σ H Q I hq;refine wpAny_Tuple_spliced (thn (h pos pins s σ H _ I hq) λus s1 ⟨xs,H1,I1,r,z,q⟩=>⟨by rw[<-r.length];exact z,?_⟩);have hf:H1 s1.heap.objs.size=none:=I1.hok.fresh (X8 _);refine⟨.ref s1.heap.objs.size,upd H1 s1.heap.objs.size (.tup xs),I1.laid (t':=s1.toks) (λb u e=>X6 _ e) (X8 _) ?_,rfl,q _ hf⟩;exact⟨z,us,r,⟨_,Xl _ rfl,rfl,rfl,_,rfl⟩⟩
theorem wj3(h:PA X es t):PE X (.List es pos) (tLst t):=by
 intro pins s σ H Q I hq;refine wpAny_List_spliced (thn (h pos pins s σ H _ I hq) λus s1 ⟨xs,H1,I1,r,z,q⟩=>⟨by rw[<-r.length];exact z,?_⟩);have hf:H1 s1.heap.objs.size=none:=I1.hok.fresh (X8 _);refine⟨.ref s1.heap.objs.size,upd H1 s1.heap.objs.size (.lst xs),I1.laid (t':=s1.toks) (λb u e=>X6 _ e) (X8 _) ?_,rfl,q _ hf⟩;exact⟨z,us,0,r,Xl _ rfl⟩
end
abbrev Sp:=List V->Hp->VK->XK->Prop
abbrev CXT:=List Env->Hp->Shared->XK->Value->Shared->Prop
structure Env0 (P:Program)(w:World)(K:PySem.W.Frag)(mg:Str->Option Value)(base:Heap)(A:Around)(outer:List Env)(s:Shared)(H:Hp):Prop where
 frames:A.frames=some outer
 mod:Mod K mg base
 bs:∀b o,base.get? b=some o->s.heap.get? b=some o/\H b=none
 bsz:base.objs.size<=s.heap.objs.size
 funs:s.heap.FunFrames base outer
 frf:∀b∈frs outer,H b=none
 hok:HOk P w H s.heap
 bare:AllBare s.gens
def CE(outer:List Env)(P:Program)(w:World)(H:Hp)(s:Shared)(Q:VK)(u:Value)(s':Shared):Prop :=
 ∃v H',s'.os=s.os/\AllBare s'.gens/\Un (frs outer) [] H H' s.heap s'.heap/\HOk P w H' s'.heap/\RelV v u/\Q v H'
def CR(CX:CXT)(outer:List Env)(P:Program)(w:World)(H:Hp)(s:Shared)(Q:VK)(E:XK)(r:Result)(s':Shared):Prop :=
 match r with
 | .ok (.ret u)=>CE outer P w H s Q u s'
 | .ok _=>False
 | .error e=>CX outer H s E e s'
structure FnOk (P:Program)(w:World)(K:PySem.W.Frag)(mg:Str->Option Value)(base:Heap)(CX:CXT)(k:Nat)(f:Addr)(fd:FuncData)(ps:List Str)(sp:Sp):Prop where
 len:∀vs H Q E,sp vs H Q E->vs.length=ps.length
 run:∀(A:Around) (outer:List Env) (s:Shared) (H:Hp) (args:Args) (us:List Value) (vs:List V) (Q:VK) (E:XK),Room k A->Env0 P w K mg base A outer s H->BindsTo s fd args (ps.zip us)->Vals vs us->sp vs H Q E ->
  codeAny (model P w) A (.call (.ref f) args) (CR CX outer P w H s Q E) s
section
variable {X:Cx}{pins:List (Addr×Obj)}{σ:St}{H:Hp}{s s':Shared}
theorem Inv.env0(I:Inv X pins σ H s):Env0 X.prog X.w X.K X.mg X.base X.A X.stack s H :=
 ⟨I.ok.frames,I.ok.mod,I.bs,Y2 I.ok.bsz I.sz,I.stack,I.stkFree,I.hok,I.bare⟩
theorem Inv.after{Q:VK}{u:Value}(I:Inv X pins σ H s)(h:CE X.stack X.prog X.w H s Q u s'):EP X pins σ Q u s':=by
 obtain⟨v,H',os,bare,un,hok,r,q⟩:=h;obtain⟨hh,g,d,t,os'⟩:=s';obtain rfl:os'=s.os:=os;exact⟨v,H',I.call (h':=hh) (g':=g) (d':=d) (t':=t) (ch:=[]) un hok bare (λb z=>absurd z (by simp)),r,q⟩
end
abbrev vq9(sp:Sp)(dvs:List V)(E:XK)(t:TA):TE:=fun σ H Q=>t σ H λvs H1=>sp (vs++dvs) H1 Q E
def Binds(K:PySem.W.Frag)(fd:FuncData)(ps:List Str)(ds:List Value):Prop :=
 ∀(s:Shared) (us:List Value),K.In s.heap->(us++ds).length=ps.length->BindsTo s fd ⟨us,[]⟩ (ps.zip (us++ds))
theorem Binds.all{K:PySem.W.Frag}{fd:FuncData}{ps:List Str}(h:∀us:List Value,us.length=ps.length->bindArgs fd ⟨us,[]⟩=pure (ps.zip us)):Binds K fd ps []:=λs us _ hl=>by
 rw[Xq]at hl ⊢;exact .of_eq (h us hl)
def qxj(CX:CXT)(X:Cx)(E:XK):Prop:=∀(pins:List (Addr×Obj)) (σ:St) (H:Hp) (s:Shared) (e:Value) (s':Shared),Inv X pins σ H s->CX X.stack H s E e s'->X.xe e s'
section
variable {X:Cx}{CX:CXT}{k:Nat}{f C:Addr}{fd:FuncData}{ps:List Str}{sp:Sp}{dvs:List V}{ds:List Value}{E:XK}{x m:Str}{p pos apos:Pos}{e o:Expr}{es:List Expr}{ta:TE}{t:TA}
theorem vz2{pins:List (Addr×Obj)}{σ:St}{H:Hp}{s:Shared}{Q:VK}{us:List Value}{vs:List V}(F:FnOk X.prog X.w X.K X.mg X.base CX k f fd ps sp)(hr:Room k X.A)(hb:Binds X.K fd ps ds)(hd:Vals dvs ds)(hx:qxj CX X E)
  (I:Inv X pins σ H s) (r:Vals vs us) (h:sp (vs++dvs) H Q E):wpAny (model X.prog X.w) X.A (call (.ref f) us) (EP X pins σ Q) X.xe s:=by
 have r2:Vals (vs++dvs) (us++ds):=r.append hd;have hl:(us++ds).length=ps.length:=by rw[<-r2.length];exact F.len _ _ _ _ h
 refine wpAny_call (codeAny_mono (F.run X.A X.stack s H ⟨us,[]⟩ (us++ds) (vs++dvs) Q E hr I.env0 (hb s us I.kIn hl) r2 h) λr s' hq=>?_);cases r with
 | error e=>exact hx pins σ H s e s' I hq
 | ok fl =>
  cases fl with
  | ret u=>exact I.after hq
  | next=>exact False.elim hq
  | brk=>exact False.elim hq
  | cont=>exact False.elim hq
theorem vvd(F:FnOk X.prog X.w X.K X.mg X.base CX k f fd ps sp)(hr:Room k X.A)(hg:Gl X x)(hm:X.mg x=some (.ref f))(hk:PySem.W.keepIn X.K (.ref f)=true)(hb:Binds X.K fd ps ds)(hd:Vals dvs ds)(hx:qxj CX X E)
  (ha:PA X (e::es) t) (hdb:(x==("__debug__":Str))=false:=by decide) (he:starEach (e::es) X.env=(false,eval e X.env)::starEach es X.env:=by rfl) (hpl:(backTo pos (starEach es X.env)).any (·.1)=false:=by rfl):
  PE X (.Call (.Name x p) (e::es) [] pos) (vq9 sp dvs E t):=by
 intro pins s σ H Q I h;refine Ys (kjv I hg hm ?_ hdb);refine PySem.W.callWith_K (h₀:=X.base) I.ok.mod.kin hk (thn (ha pos pins s σ H _ I h) λus s1 ⟨vs,H1,I1,r,q⟩=>⟨I1.kIn,?_⟩) he hpl;exact vz2 F hr hb hd hx I1 r q
end
structure FnScope (N P:List Str)(sc:Scope):Prop where
 kind:sc.kind=.function
 co:sc.isCoroutine=false
 gen:sc.isGenerator=false
 nd:N.Nodup
 pre:N.take P.length=P
 par:∀x∈P,sc.names.lookup x=some .local\/sc.names.lookup x=some .cell
 nofree:∀y∈sc.names,y.2≠.free
theorem kx4{kindOf : Str -> Option NameKind}{x : Str}: ∀{binds : List (Str × Value)} {m : Str -> Option Value}, (∀v, (x, v)∉binds) -> bindL kindOf binds m x = m x
  | [], _, _ => rfl
  | (n, v)::r, m, h => by
    unfold bindL;rw[kx4 λw hw => h w (lc9 _ hw)]
    split
    · have : x≠n := by rintro rfl; exact h v X4
      simp[this]
    · rfl
theorem kx6{kindOf : Str -> Option NameKind}{x : Str}: ∀{binds : List (Str × Value)} {m : Str -> Option Value}, (∀v, (x, v)∉binds) -> bindC kindOf binds m x = m x
  | [], _, _ => rfl
  | (n, v)::r, m, h => by
    unfold bindC;rw[kx6 λw hw => h w (lc9 _ hw)]
    split
    · rfl
    · have : x≠n := by rintro rfl; exact h v X4
      simp[this]
theorem kx5{kindOf:Str->Option NameKind}{x:Str}{v:Value}:∀{P:List Str} {vs:List Value} {i:Nat} {m:Str->Option Value},P.Nodup->P[i]?=some x->vs[i]?=some v->kindOf x=some .local ->
  bindL kindOf (P.zip vs) m x=some v
 | [],_,_,_,_,h,_,_=>by simp at h
 | _::_,[],_,_,_,_,h,_=>by simp at h
 | p::P,w::vs,0,m,nd,h1,h2,hk=>by
  simp at h1 h2;subst h1;subst h2;show bindL kindOf ((p,w)::P.zip vs) m p=_;unfold bindL;rw[kx4 λv hv=>(List.nodup_cons.mp nd).1 (List.of_mem_zip hv).1,Xf hk];simp
 | p::P,w::vs,i+1,m,nd,h1,h2,hk=>by
  show bindL kindOf ((p,w)::P.zip vs) m x=_;unfold bindL;exact kx5 (i:=i) (List.nodup_cons.mp nd).2 (by simpa using h1) (by simpa using h2) hk
theorem kx7{kindOf:Str->Option NameKind}{x:Str}{v:Value}:∀{P:List Str} {vs:List Value} {i:Nat} {m:Str->Option Value},P.Nodup->P[i]?=some x->vs[i]?=some v->kindOf x≠some .local ->
  bindC kindOf (P.zip vs) m x=some v
 | [],_,_,_,_,h,_,_=>by simp at h
 | _::_,[],_,_,_,_,h,_=>by simp at h
 | p::P,w::vs,0,m,nd,h1,h2,hk=>by
  simp at h1 h2;subst h1;subst h2;show bindC kindOf ((p,w)::P.zip vs) m p=_;unfold bindC;rw[kx6 λv hv=>(List.nodup_cons.mp nd).1 (List.of_mem_zip hv).1,Xj hk];simp
 | p::P,w::vs,i+1,m,nd,h1,h2,hk=>by
  show bindC kindOf ((p,w)::P.zip vs) m x=_;unfold bindC;exact kx7 (i:=i) (List.nodup_cons.mp nd).2 (by simpa using h1) (by simpa using h2) hk
def start(N:List Str)(vs:List V):St:=vs.map some++List.replicate (N.length - vs.length) none
def qwy(CX:CXT)(P:Program)(w:World)(K:PySem.W.Frag)(mg:Str->Option Value)(base:Heap)(N:List Str)(qual:Str)(scope:Scope)(f:Addr)(cd:Value)(A:Around)(outer:List Env)(s:Shared)(H:Hp)(E:XK):Cx where
 prog:=P
 w:=w
 K:=K
 mg:=mg
 base:=base
 A:=A.deeper (envOfC qual scope s.heap.objs.size f cd)
 N:=N
 s₀:=s
 H₀:=H
 env:=envOfC qual scope s.heap.objs.size f cd
 outer:=outer
 stack:=envOfC qual scope s.heap.objs.size f cd::outer
 ex:=[]
 calm:=true
 fn:=λ_=>true
 pn:=[]
 xe:=λe s'=>wpAny (model P w) (A.deeper (envOfC qual scope s.heap.objs.size f cd)) (leaving (envOfC qual scope s.heap.objs.size f cd) e) (λ_ s''=>CX outer H s E e s'') (λe' s''=>CX outer H s E e' s'') s'
theorem qjn{sc:Scope}{n:Nat}{x:Str}(h:sc.names.lookup x=some .cell):∃c,(cellsFrom n sc.names []).lookup x=some c:=by
 have q:=PySem.W.cellsFrom_some sc.names n [] (.inl h);exact Option.isSome_iff_exists.mp q
theorem qw6{CX:CXT}{P:Program}{w:World}{K:PySem.W.Frag}{mg:Str->Option Value}{base:Heap}{N ps:List Str}{qual:Str}{scope:Scope}{f:Addr}{cd:Value}{A:Around}{outer:List Env}{s s1:Shared}{H:Hp}{E:XK}{us:List Value}{vs:List V}
  (S:FnScope N ps scope) (hd:A.handled=none) (e0:Env0 P w K mg base A outer s H) (hl:vs.length=ps.length) (r:Vals vs us)
  (x:InCallC s s.heap.objs.size (bindL (envOfC qual scope s.heap.objs.size f cd).kindOf (ps.zip us) λ_=>none) (cellsFrom (s.heap.objs.size+1) scope.names []) (bindC (envOfC qual scope s.heap.objs.size f cd).kindOf (ps.zip us) λ_=>none) s1):
  Inv (qwy CX P w K mg base N qual scope f cd A outer s H E) [] (start N vs) H s1:=by
 have hpl:ps.length<=N.length:=by have:=congrArg List.length S.pre;rw[List.length_take]at this;omega
 obtain⟨h1,tk,rfl,hk⟩:=x.done;have noA:∀b:Addr,b∉(qwy CX P w K mg base N qual scope f cd A outer s H E).ex:=λb z=>absurd (show b∈([]:List Addr)from z) (by simp)
 refine⟨⟨e0.mod,S.kind,rfl,rfl,X8 _,λy z c h1 h2=>?_,λy hy=>?_,λy c _ h=>?_,λ_=>hd,Around.frames_deeper e0.frames,.inr ⟨rfl,rfl⟩,λb z=>absurd z (noA b),e0.bs,e0.bsz,λb _ _=>noA b,λb z=>absurd z (noA b),e0.funs,e0.frf⟩,
  rfl,e0.bare,Un.kept hk,⟨_,x.toInCall.ns,λi y v h1 h2 h3=>?_⟩,λy c h=>⟨_,x.cell y c h⟩,e0.hok.fresh (X8 _),λy c h=>?_,λp hp=>absurd (show p∈([]:List (Addr×Obj))from hp) (by simp),e0.hok.kept hk,?_⟩
 ·exact name_of_addr x.apart (Yg h1) (Yg h2)
 ·have hy:scope.names.lookup y=some .cell\/scope.names.lookup y=some .free:=hy;rcases hy with hy | hy
  ·exact qjn hy
  ·exact absurd rfl (S.nofree _ (Yg hy))
 ·exact Nat.le_of_lt (x.above y c (Yg h))
 ·have hi:i<vs.length:=by
   unfold start at h2
   by_cases hi:i<vs.length
   ·exact hi
   ·rw[Xx (by simpa using hi)]at h2;rw[List.getElem?_replicate]at h2
    split at h2<;>cases h2
  have ha:vs[i]?=some v:=by
   unfold start at h2;rw[Y1 (by simpa using hi),Xi]at h2;cases e:vs[i]? with
   | none=>rw[e]at h2;cases h2
   | some a=>rw[e]at h2;cases h2;rfl
  obtain⟨u,hu,rv⟩:=r.get ha;have hp:ps[i]?=some y:=by
   rw[<-S.pre,List.getElem?_take_of_lt (by omega)];exact h1
  have ndP:ps.Nodup:=by rw[<-S.pre];exact S.nd.sublist (List.take_sublist _ _)
  refine⟨u,rv,?_⟩;rcases S.par y (Xp hp)with k | k
  ·exact .inl ⟨k,kx5 ndP hp hu k⟩
  ·obtain⟨c,e⟩:=qjn (n:=s.heap.objs.size+1) k;refine .inr ⟨.inl k,c,e,?_⟩;have q:=x.cell y c e;rw[kx7 ndP hp hu (by show scope.names.lookup y≠_;rw[k];decide)]at q;exact q
 ·exact e0.hok.fresh (Nat.le_of_lt (x.above y c (Yg h)))
 ·unfold start;show _=N.length;rw[X7,X3,Yd];omega
theorem wvy{CX:CXT}{P:Program}{w:World}{K:PySem.W.Frag}{mg:Str->Option Value}{base:Heap}{k:Nat}{f:Addr}{name qual:Str}{params:Arguments}{body:List Stmt}{scope:Scope}{dV kV doc pm cdv ct oc:Value}{an od:Option Addr}
  {osl:Array (Option Value)} {N ps:List Str} {sp:Sp} (lk:K.lookup f=some ⟨oc,od,.func (PySem.W.fnOf name qual params body scope dV kV doc pm an cdv ct),osl⟩) (hcd:PySem.W.codeIn K cdv qual=true) (S:FnScope N ps scope)
  (len:∀vs H Q E,sp vs H Q E->vs.length=ps.length)
  (hbody:∀(A:Around) (outer:List Env) (s:Shared) (H:Hp) (vs:List V) (Q:VK) (E:XK),Room k (A.deeper (envOfC qual scope s.heap.objs.size f cdv))->sp vs H Q E ->
   ∃t,PSs (qwy CX P w K mg base N qual scope f cdv A outer s H E) body t/\t { nx:=λ_ H'=>Q .non H',rt:=Q } (start N vs) H):
  FnOk P w K mg base CX (k+1) f (PySem.W.fnOf name qual params body scope dV kV doc pm an cdv ct) ps sp:=by
 refine⟨len,λA outer s H args us vs Q E hr e0 hb r hsp=>?_⟩;have hl:=len _ _ _ _ hsp;have KX:K.In s.heap:=e0.mod.kin.keeps λb o e=>(e0.bs b o e).1
 have lim:s.heap.NoLimit:=e0.mod.nolimit.keeps λb o e=>(e0.bs b o e).1
 have hkind:∀y∈ps.zip us,scope.names.lookup y.1=some .local\/(scope.names.lookup y.1=some .cell/\((cellsFrom (s.heap.objs.size+1) scope.names []).lookup y.1).isSome=true):=λ⟨n,v⟩ hy=>by
  rcases S.par n (List.of_mem_zip hy).1 with q | q
  ·exact .inl q
  ·exact .inr ⟨q,PySem.W.cellsFrom_some _ _ _ (.inl q)⟩
 refine codeAny_call_function hr.depth (KX _ _ lk) rfl S.co S.gen rfl (PySem.W.codeRec_of KX hcd) (hb _ _ _ _ ?_);refine wpAny_newFunctionEnv_cells S.kind hkind λenv he s1 x=>?_
 subst he;refine⟨lim.keeps x.toInCall.keep,codeAny_func ?_⟩;obtain⟨t,ht,hq⟩:=hbody A outer s H vs Q E (hr.deeper _) hsp;have I:Inv (qwy CX P w K mg base N qual scope f cdv A outer s H E) [] (start N vs) H s1:=qw6 S hr.hd e0 hl r x;refine wpAny_mono (ht [] s1 (start N vs) H _ I hq) (λfl s' hs=>?_) λe s' hs=>hs
 have fin:∀{σ':St} {H':Hp} {v:V} {u:Value},Inv (qwy CX P w K mg base N qual scope f cdv A outer s H E) [] σ' H' s'->RelV v u->Q v H'->CE outer P w H s Q u s' :=
  fun {σ' H' v u} J rv q=>⟨v,H',J.os,J.bare,J.base,J.hok,rv,q⟩
 cases fl with
 | ret u =>
  obtain⟨v,σ',H',J,rv,q⟩:=hs;exact fin J rv q
 | next =>
  obtain⟨σ',H',J,q⟩:=hs;exact fin (v:=V.non) (u:=Value.none) J rfl q
 | brk =>
  obtain⟨_,_,_,q⟩:=hs;exact False.elim q
 | cont =>
  obtain⟨_,_,_,q⟩:=hs;exact False.elim q
section
variable {X:Cx}{x:Str}{p pos:Pos}{e:Expr}{es:List Expr}{t:TA}{id T:String}{r:List V->Hp->VK->Prop}
abbrev tCB(r:List V->Hp->VK->Prop)(t:TA):TE:=fun σ H Q=>t σ H λvs H1=>r vs H1 Q
theorem qzn(hc:CallR X (.builtin id) r)(hg:Gl X x)(hm:X.mg x=none)(hv:bootBuiltins x=some (.builtin id))(ha:PA X (e::es) t)(hn:x≠"__name__":=by decide)(hdb:(x==("__debug__":Str))=false:=by decide)
  (he:starEach (e::es) X.env=(false,eval e X.env)::starEach es X.env:=by rfl) (hpl:(backTo pos (starEach es X.env)).any (·.1)=false:=by rfl):PE X (.Call (.Name x p) (e::es) [] pos) (tCB r t):=by
 intro pins s σ H Q I h;refine Ys (jxg I hg hm hv ?_ hn hdb);exact PyProof.Rows.callWith_builtin1 (thn (ha pos pins s σ H _ I h) λus s1 ⟨vs,H1,I1,r1,q1⟩=>hc pins s1 σ H1 vs us Q I1 r1 q1) he hpl
theorem qvb(hc:CallR X (.type T) r)(hg:Gl X x)(hm:X.mg x=none)(hv:bootBuiltins x=some (.type T))(ha:PA X (e::es) t)(hn:x≠"__name__":=by decide)(hdb:(x==("__debug__":Str))=false:=by decide)
  (he:starEach (e::es) X.env=(false,eval e X.env)::starEach es X.env:=by rfl) (hpl:(backTo pos (starEach es X.env)).any (·.1)=false:=by rfl):PE X (.Call (.Name x p) (e::es) [] pos) (tCB r t):=by
 intro pins s σ H Q I h;refine Ys (jxg I hg hm hv ?_ hn hdb);exact Xz (thn (ha pos pins s σ H _ I h) λus s1 ⟨vs,H1,I1,r1,q1⟩=>hc pins s1 σ H1 vs us Q I1 r1 q1) he hpl
end
end L2
namespace HT
open PySem PyProof.Rows
section
variable {prog:Program}{w:World}{A:Around}{E:Value->Shared->Prop}{s:Shared}
theorem cat_tup{t b:Addr}{vs ws:List Value}{Q:Value->Shared->Prop}(ht:IsTup s.heap t vs.toArray)(hb:IsTup s.heap b ws.toArray)(hv:vs≠[])
  (h1:ws=[]->Q (.ref t) s) (h2:ws≠[]->Q (.ref s.heap.objs.size) { s with heap:=s.heap.push { cls:=.type "tuple",data:=.seq (vs++ws).toArray } })
  (hsz:vs.length+ws.length<=sizeLine):wpAny (model prog w) A (binaryOp .Add (.ref t) (.ref b)) Q E s:=by
 obtain⟨⟨cls,dd,data,sl⟩,ho,hc,n,hd⟩:=id ht;obtain⟨⟨cls2,dd2,data2,sl2⟩,ho2,hc2,n2,hd2⟩:=id hb;simp only at hc hd hc2 hd2;subst hc hd hc2 hd2;have e:vs.toArray++ws.toArray=(vs++ws).toArray:=by simp
 by_cases hw:ws=[]
 ·exact concat_meets ⟨_,ho,rfl⟩ ⟨_,ho2,rfl⟩ noFill_tuple_add seq_tuple_add PySem.F.slot_tuple_add PySem.F.entry_tuple_add (PySem.F.args_tuple_add_2 _ _)
   (tuple_addW1 t b vs.toArray ws.toArray n n2 dd dd2 sl sl2 (by simpa using hv) (by simp[hw])) ⟨ho,ho2,h1 hw⟩
 ·refine concat_meets ⟨_,ho,rfl⟩ ⟨_,ho2,rfl⟩ noFill_tuple_add seq_tuple_add PySem.F.slot_tuple_add PySem.F.entry_tuple_add (PySem.F.args_tuple_add_2 _ _)
   (tuple_addW2 t b vs.toArray ws.toArray n n2 dd dd2 sl sl2 (by simpa using hv) (by simpa using hw) (by rw[Xa,Xa];exact hsz)) ⟨ho,ho2,?_⟩
  rw[e];exact h2 hw
def sIx(n d:Nat):Option Int->Nat
 | none=>d
 | some v=>if v<0 then(v+(n:Int)).toNat else min v.toNat n
theorem vz0(n d:Nat)(hd:d<=n)(o:Option Int):sIx n d o<=n:=by
 cases o with
 | none=>exact hd
 | some v =>
  show(if v<0 then(v+(n:Int)).toNat else min v.toNat n)<=n
  by_cases hv:v<0
  ·rw[Xf hv];omega
  ·rw[Xj hv];exact Nat.min_le_right _ _
theorem qx1(v:Int)(n d:Nat):(if v<0 then max (v+(n:Int)) 0 else min v (n:Int))=((sIx n d (some v):Nat):Int):=by
 show(if v<0 then max (v+(n:Int)) 0 else min v (n:Int))=(((if v<0 then(v+(n:Int)).toNat else min v.toNat n):Nat):Int)
 by_cases hv:v<0
 ·simp only[Xf hv];omega
 ·simp only[Xj hv];omega
theorem qkq(lo hi:Option Int)(n:Nat):Builtin.Slice.sliceAdjust lo hi 1 (n:Int)=(((sIx n 0 lo:Nat):Int),((sIx n n hi:Nat):Int)):=by
 have h1:¬((1:Int)<0):=by omega
 unfold Builtin.Slice.sliceAdjust;simp only[h1,if_false];refine Prod.ext ?_ ?_
 ·cases lo with
  | none=>rfl
  | some v=>exact qx1 v n 0
 ·cases hi with
  | none=>rfl
  | some v=>exact qx1 v n n
theorem qk7(i j:Nat):Builtin.Slice.slicePlaces (i:Int) (j:Int) 1=j - i:=by
 unfold Builtin.Slice.slicePlaces;have h1:(1:Int)>0:=by omega
 simp only[h1,if_true,Int.ediv_one]
 split<;>omega
theorem kkv{v:Value}{o:Option Int}{Q:Option Int->Shared->Prop}(p:IsPart v o)(h:Q o s):wpAny (model prog w) A (Builtin.Slice.slicePartIndex v) Q E s:=by
 cases p with
 | none=>exact slicePart_none h
 | int i t=>exact slicePart_int h
theorem jzx{sl:Addr}{vl vu:Value}{lo hi:Option Int}{n:Nat}{Q:Int×Int×Nat->Shared->Prop}(hs:s.heap.IsSliceOf sl vl vu .none)(pl:IsPart vl lo)(pu:IsPart vu hi)
  (h:Q (((sIx n 0 lo:Nat):Int),1,sIx n n hi - sIx n 0 lo) s):wpAny (model prog w) A (Builtin.Slice.sliceApplied (.ref sl) (pure (n:Int))) Q E s:=by
 obtain⟨os,hos,hcs,hds⟩:=id hs;unfold Builtin.Slice.sliceApplied Builtin.Slice.sliceFields;refine X1 (X1 (Yx hos hds (x:=vl) rfl (X1 (Yx hos hds (x:=vu) rfl (X1 (Yx hos hds (x:=.none) rfl (X5 ?_)))))));refine X1 (slicePart_none ?_);show wpAny _ _ (if((1:Int)==0)=true then _ else _) _ _ s;rw[Xj (by decide)];refine X1 (kkv pl (X1 (kkv pu (X1 (X5 ?_)))));show wpAny _ _ (match Builtin.Slice.sliceAdjust lo hi 1 (n:Int)with | (lo,hi)=>pure (lo,(1:Int),Builtin.Slice.slicePlaces lo hi 1)) _ _ s;rw[qkq lo hi n];show wpAny _ _ (pure (((sIx n 0 lo:Nat):Int),(1:Int),Builtin.Slice.slicePlaces ((sIx n 0 lo:Nat):Int) ((sIx n n hi:Nat):Int) 1)) _ _ s;rw[qk7];exact X5 h
theorem qzi(xs:Array Value)(i k:Nat):((List.range k).filterMap λ(m:Nat)=>xs[((i:Int)+(m:Int)*1).toNat]?).toArray=((xs.toList.drop i).take k).toArray:=by
 have e:(λ(m:Nat)=>xs[((i:Int)+(m:Int)*1).toNat]?)=λm=>xs[i+m]?:=by
  funext m;have:((i:Int)+(m:Int)*1).toNat=i+m:=by omega
  rw[this]
 rw[e];have:=pick_run xs i k;rw[List.filterMap_map]at this;have e2:((λx=>xs[x]?)∘λx=>i+x)=λm=>xs[i+m]?:=rfl
 rw[e2]at this;rw[this]
theorem getItem_tuple_cut{t sl:Addr}{items:Array Value}{vl vu:Value}{lo hi:Option Int}{Q:Value->Shared->Prop}(ht:IsTup s.heap t items)(hs:s.heap.IsSliceOf sl vl vu .none)(pl:IsPart vl lo)(pu:IsPart vu hi)
  (hw:¬(sIx items.size 0 lo=0/\sIx items.size items.size hi=items.size))
  (h:Q (.ref s.heap.objs.size) { s with heap:=s.heap.push { cls:=.type "tuple",data:=.seq ((items.toList.drop (sIx items.size 0 lo)).take (sIx items.size items.size hi - sIx items.size 0 lo)).toArray } })
  (hsz:items.size<=sizeLine):wpAny (model prog w) A (getItem (.ref t) (.ref sl)) Q E s:=by
 have htake:sizeOk (.seq ((items.toList.drop (sIx items.size 0 lo)).take (sIx items.size items.size hi - sIx items.size 0 lo)).toArray):=by
  show((items.toList.drop (sIx items.size 0 lo)).take (sIx items.size items.size hi - sIx items.size 0 lo)).toArray.size<=sizeLine;rw[Xa,List.length_take,List.length_drop,Y7];omega
 have hj:sIx items.size items.size hi<=items.size:=vz0 _ _ (X8 _) hi;obtain⟨os,hos,hcs,hds⟩:=id hs;have hTs:s.TypeIs (.ref sl) "slice":=⟨os,hos,hcs⟩;unfold getItem
 try with_reducible refine Yq ?_
 first | refine X1 (X5 ?_)| skip
 refine X1 (wpAny_sequenceKey ht.typeIs (by decide) ?_);refine X1 (wpAny_callSpecial?_slot (name:=Str.ofString "__getitem__") ht.typeIs PyProof.Rows.slot_tuple_getitem
  (Yf PyProof.Rows.slot_tuple_getitem ht.typeIs entry_tuple_getitem ?_ (args_tuple_getitem _ _)))
 show wpAny _ _ (Builtin.Tuple.tupleItemsOf (.ref t) >>= _) _ _ s;refine X1 (tupleItemsOf_ ht ?_);refine X1 (wpAny_typeOf hTs ?_);rw[Xf (by decide)];refine X1 (jzx hs pl pu ?_);have hno:¬((((sIx items.size 0 lo:Nat):Int)==0&&(1:Int)==1&&(sIx items.size items.size hi - sIx items.size 0 lo)==items.size)=true):=by
  intro q;rw[Bool.and_eq_true,Bool.and_eq_true]at q;have q1:((sIx items.size 0 lo:Nat):Int)=0:=eq_of_beq q.1.1;have q2:sIx items.size items.size hi - sIx items.size 0 lo=items.size:=eq_of_beq q.2;exact hw ⟨by omega,by omega⟩
 show wpAny _ _ (if(((sIx items.size 0 lo:Nat):Int)==0&&(1:Int)==1&&(sIx items.size items.size hi - sIx items.size 0 lo)==items.size)=true then _ else _) _ _ s;rw[Xj hno,qzi]
 first
  | exact X1 (m:=Builtin.Tuple.tupleExact _) (Y0 (X5 ⟨_,rfl,X5 h⟩) htake)
  | exact X1 (m:=Builtin.Tuple.tupleExact _) (Y0 (X1 (X5 (X5 ⟨_,rfl,X5 h⟩))) htake)
  | exact X1 (X1 (m:=Builtin.Tuple.tupleExact _) (Y0 (X5 (X5 ⟨_,rfl,X5 h⟩)) htake))
  | exact X1 (X1 (m:=Builtin.Tuple.tupleExact _) (Y0 (X5 ⟨_,rfl,X5 h⟩) htake))
end
end HT
namespace L2
open PySem PySem.Spec PyProof.Rows
abbrev TO:=St->Hp->(Option Int->Hp->Prop)->Prop
def PO(X:Cx)(e:Option Expr)(t:TO):Prop :=
 ∀(pins:List (Addr×Obj)) (s:Shared) (σ:St) (H:Hp) (Q:Option Int->Hp->Prop),Inv X pins σ H s->t σ H Q ->
  wpAny (model X.prog X.w) X.A (evalPart e X.env) (λu s'=>∃o H',Inv X pins σ H' s'/\IsPart u o/\Q o H') X.xe s
abbrev qq5:TO:=λ_ H Q=>Q none H
abbrev vxq(t:TE):TO:=fun σ H Q=>t σ H λx H1=>∃i,x=.int i/\Q (some i) H1
theorem qkh{ns:List Int}:∀{us:List Value},Vals (ns.map V.int) us->IntsAre us ns:=by
 induction ns with
 | nil=>intro us r;rw[List.map_nil]at r;cases r;exact .nil
 | cons n ns ih =>
  intro us r;rw[List.map_cons]at r;cases r with
  | cons r1 r2 =>
   obtain⟨t,e⟩:=r1;subst e;exact .cons n t (ih r2)
section
variable {X:Cx}{e:Expr}{te:TE}{lo hi:Option Expr}{tl th:TO}{pos p2:Pos}
theorem vv7:PO X none qq5:=by
 intro pins s σ H Q I h;rw[evalPart_none];exact X5 ⟨none,H,I,.none,h⟩
theorem vv4(h:PE X e te):PO X (some e) (vxq te):=by
 intro pins s σ H Q I hw;rw[evalPart_some];refine thn (h pins s σ H _ I hw) λu s1 ⟨x,H1,I1,r1,q1⟩=>?_
 obtain⟨i,rfl,q⟩:=q1;obtain⟨t,rfl⟩:=r1;exact⟨some i,H1,I1,.int i t,q⟩
def SlR(X:Cx)(r:V->Option Int->Option Int->Hp->VK->Prop):Prop :=
 ∀(pins:List (Addr×Obj)) (s:Shared) (σ:St) (H:Hp) (x:V) (v vl vu:Value) (lo hi:Option Int) (sl:Addr) (Q:VK),Inv X pins σ H s->RelV x v->s.heap.IsSliceOf sl vl vu .none->IsPart vl lo->IsPart vu hi->r x lo hi H Q ->
  ∃T id,typeLookup (.type T) "__getitem__"=pure (some (.builtin id))/\s.TypeIs v T/\wpAny (model X.prog X.w) X.A (getItem v (.ref sl)) (EP X pins σ Q) X.xe s
theorem SlR.or{r r':V->Option Int->Option Int->Hp->VK->Prop}(h:SlR X r)(h':SlR X r'):SlR X (λx lo hi H Q=>r x lo hi H Q\/r' x lo hi H Q):=by
 intro pins s σ H x v vl vu lo hi sl Q I rx hs pl pu q;rcases q with q | q
 ·exact h pins s σ H x v vl vu lo hi sl Q I rx hs pl pu q
 ·exact h' pins s σ H x v vl vu lo hi sl Q I rx hs pl pu q
abbrev tSl(r:V->Option Int->Option Int->Hp->VK->Prop)(te:TE)(tl th:TO):TE:=fun σ H Q=>te σ H λx H1=>tl σ H1 λl H2=>th σ H2 λu H3=>r x l u H3 Q
theorem qzk{r:V->Option Int->Option Int->Hp->VK->Prop}(hr:SlR X r)(he:PE X e te)(hl:PO X lo tl)(hu:PO X hi th):PE X (.Subscript e (.Slice lo hi none p2) pos) (tSl r te tl th):=by
 intro pins s σ H Q I h;refine Subscript_ (thn (he pins s σ H _ I h) λv s1 ⟨x,H1,I1,r1,q1⟩=>?_);refine wpAny_Slice (thn (hl pins s1 σ H1 _ I1 q1) λvl s2 ⟨l,H2,I2,pl,q2⟩=>thn (hu pins s2 σ H2 _ I2 q2) λvu s3 ⟨u,H3,I3,pu,q3⟩=>?_);rw[evalPart_none];refine X5 ?_;have I4:Inv X pins σ H3 { s3 with heap:=s3.heap.push { cls:=.type "slice",data:=.fields #[vl,vu,.none] } }:=I3.kept (t':=s3.toks) λb ob q=>X6 _ q
 obtain⟨T,id,hT,ht,hg⟩:=hr pins { s3 with heap:=s3.heap.push { cls:=.type "slice",data:=.fields #[vl,vu,.none] } } σ H3 x v vl vu l u s3.heap.objs.size Q I4 r1 (Heap.IsSliceOf.new ..) pl pu q3;show wpAny (model X.prog X.w) X.A (subscriptTail e (.Slice lo hi none p2) v (.ref s3.heap.objs.size)) (EP X pins σ Q) X.xe { s3 with heap:=s3.heap.push { cls:=.type "slice",data:=.fields #[vl,vu,.none] } };exact tail_any (ops:=[.ref s3.heap.objs.size,v]) ht hT hg (by with_unfolding_all rfl)
def vkm(xs:List V)(lo hi:Option Int):List V:=(xs.drop (HT.sIx xs.length 0 lo)).take (HT.sIx xs.length xs.length hi - HT.sIx xs.length 0 lo)
theorem kk9(xs:List V)(lo hi:Option Int):(vkm xs lo hi).length<=xs.length:=by
 unfold vkm;rw[List.length_take,List.length_drop];omega
def wwh(K:PySem.W.Frag):V->Option Int->Option Int->Hp->VK->Prop:=λx lo hi H Q=>∃a xs,x=.ref a/\SqT K H a xs /\
 ¬(HT.sIx xs.length 0 lo=0/\HT.sIx xs.length xs.length hi=xs.length)/\∀p,H p=none->Q (.ref p) (upd H p (.tup (vkm xs lo hi)))
theorem sl_tup:SlR X (wwh X.K):=by
 intro pins s σ H x v vl vu lo hi sl Q I rx hs pl pu h;obtain⟨a,xs,rfl,hx,hw,q⟩:=h;cases rx;obtain⟨its,r,ht,hz⟩:=I.tuple hx;have hlen:its.toArray.size=xs.length:=by rw[Xa];exact r.length.symm
 refine⟨"tuple",_,PyProof.Rows.slot_tuple_getitem.lookup,ht.typeIs,?_⟩;refine HT.getItem_tuple_cut ht hs pl pu (by rw[hlen];exact hw) ?_ (by rw[hlen];exact hz);rw[hlen];refine⟨.ref s.heap.objs.size,_,I.laid (t':=s.toks) (o:=.tup (vkm xs lo hi)) (λb ob q=>X6 _ q) (X8 _) ?_,rfl,q _ (I.hok.fresh (X8 _))⟩;exact⟨Y2 (kk9 xs lo hi) hz,_,(r.drop (HT.sIx xs.length 0 lo)).take (HT.sIx xs.length xs.length hi - HT.sIx xs.length 0 lo),IsTupD.new _ _⟩
def vzc(K:PySem.W.Frag):R2:=λx y H Q=>∃a b xs ys,x=.ref a/\y=.ref b/\SqT K H a xs/\SqT K H b ys/\xs≠[]/\xs.length+ys.length<=sizeLine /\
 (ys=[]->Q (.ref a) H)/\(ys≠[]->∀p,H p=none->Q (.ref p) (upd H p (.tup (xs++ys))))
theorem Vals.nil_iff{xs:List V}{us:List Value}(r:Vals xs us):us=[]↔xs=[]:=by
 cases r with
 | nil=>simp
 | cons _ _=>simp
theorem vvj:OpR X (binaryOp .Add) (vzc X.K):=by
 intro pins s σ H x y v u Q I rx ry h;obtain⟨a,b,xs,ys,rfl,rfl,ha,hb,hx,hz,q1,q2⟩:=h;cases rx;cases ry;obtain⟨its,r1,p1,_⟩:=I.tuple ha;obtain⟨its2,r2,p2,_⟩:=I.tuple hb;refine HT.cat_tup p1 p2 (λz=>hx (r1.nil_iff.mp z)) (λz=>⟨.ref a,H,I,rfl,q1 (r2.nil_iff.mp z)⟩) (λz=>?_) (by rw[<-r1.length,<-r2.length];exact hz);refine⟨.ref s.heap.objs.size,_,I.laid (t':=s.toks) (o:=.tup (xs++ys)) (λb ob q=>X6 _ q) (X8 _) ?_,rfl,q2 (λw=>z (r2.nil_iff.mpr w)) _ (I.hok.fresh (X8 _))⟩;exact⟨by rw[X7];exact hz,_,r1.append r2,IsTupD.new _ _⟩
end
def ixN(n:Nat)(i:Int):Option Nat:=if 0<=i then(if i<n then some i.toNat else none)else if -(n:Int)<=i then some (i+n).toNat else none
def atI{α:Type}(xs:List α)(i:Int):Option α:=(ixN xs.length i).bind λj=>xs[j]?
theorem vw5{n:Nat}{i:Int}{j:Nat}(h:ixN n i=some j):seqIndex? i n=some j/\j<n/\-(n:Int)<=i/\i<n:=by
 unfold ixN at h
 by_cases h0:0<=i
 ·rw[Xf h0]at h
  by_cases h1:i<n
  ·rw[Xf h1]at h;have e:i.toNat=j:=oq9 h;exact⟨by rw[seqIndex_of h0 h1,e],by omega,by omega,h1⟩
  ·rw[Xj h1]at h;cases h
 ·rw[Xj h0]at h
  by_cases h1:-(n:Int)<=i
  ·rw[Xf h1]at h;have e:(i+n).toNat=j:=oq9 h;exact⟨by rw[seqIndex_neg (by omega) h1,e],by omega,h1,by omega⟩
  ·rw[Xj h1]at h;cases h
theorem kz6{α:Type}{xs:List α}{i:Int}{v:α}(h:atI xs i=some v):∃j,seqIndex? i xs.length=some j/\xs[j]?=some v/\j<xs.length/\-(xs.length:Int)<=i/\i<xs.length:=by
 unfold atI at h;cases e:ixN xs.length i with
 | none=>rw[e]at h;cases h
 | some j =>
  rw[e]at h;obtain⟨h1,h2,h3,h4⟩:=vw5 e;exact⟨j,h1,h,h2,h3,h4⟩
def kz7(b:Expr):Prop:=∀o i,subscripted b false o i=operate [o,i] (getItem o i)
def IxR(X:Cx)(r:R2):Prop :=
 ∀(value slice:Expr) (pins:List (Addr×Obj)) (s:Shared) (σ:St) (H:Hp) (x y:V) (v u:Value) (Q:VK),Inv X pins σ H s->RelV x v->RelV y u->r x y H Q ->
  subscripted slice false v u=operate [v,u] (getItem v u)->wpAny (model X.prog X.w) X.A (subscriptTail value slice v u) (EP X pins σ Q) X.xe s
def MtR(X:Cx)(id:String)(r:V->List V->Hp->VK->Prop):Prop :=
 ∀(pins:List (Addr×Obj)) (s:Shared) (σ:St) (H:Hp) (x:V) (xs:List V) (v:Value) (us:List Value) (Q:VK),Inv X pins σ H s->RelV x v->Vals xs us->r x xs H Q ->
  wpAny (model X.prog X.w) X.A (call (.builtin id) (v::us)) (EP X pins σ Q) X.xe s
section
variable {X:Cx}{a b:Expr}{ta tb:TE}{pos:Pos}
theorem IxR.or{r r':R2}(h:IxR X r)(h':IxR X r'):IxR X (λx y H Q=>r x y H Q\/r' x y H Q):=by
 intro value slice pins s σ H x y v u Q I rx ry q hs;rcases q with q | q
 ·exact h value slice pins s σ H x y v u Q I rx ry q hs
 ·exact h' value slice pins s σ H x y v u Q I rx ry q hs
theorem wvh{r:R2}(hr:IxR X r)(ha:PE X a ta)(hb:PE X b tb)(hs:kz7 b):PE X (.Subscript a b pos) (tOp r ta tb):=by
 intro pins s σ H Q I h;exact Subscript_ (ww9 ha hb I h λv u s2 x y H2 I2 rx ry q=>hr a b pins s2 σ H2 x y v u Q I2 rx ry q (hs _ _))
def wwm(K:PySem.W.Frag):R2:=λx y H Q=>∃p xs i v,x=.ref p/\y=.int i/\SqL K H p xs/\atI xs i=some v/\Q v H
def wwk(K:PySem.W.Frag):R2:=λx y H Q=>∃p xs i v,x=.ref p/\y=.int i/\SqT K H p xs/\atI xs i=some v/\Q v H
def wwl:R2:=λx y H Q=>∃z i c,x=.str z/\y=.int i/\z.length<=sizeLine/\atI z.cps.toList i=some c/\Q (.str ⟨#[c]⟩) H
theorem ix_list:IxR X (wwm X.K):=by
 intro value slice pins s σ H x y v u Q I rx ry h hs;obtain⟨p,xs,i,z,rfl,rfl,hq,he,q⟩:=h;cases rx;obtain⟨t,rfl⟩:=ry;obtain⟨its,r,pl,hz⟩:=I.list hq;obtain⟨j,h1,h2,h3,h4,h5⟩:=kz6 he;obtain⟨w,ew,rw'⟩:=r.get h2;have hl:=r.length;have hn:=kq1;have fin:EP X pins σ Q w s:=⟨z,H,I,rw',q⟩
 by_cases h0:0<=i
 ·have hj:i.toNat=j:=by
   rw[seqIndex_of h0 h5]at h1;exact oq9 h1
  exact item_listR pl.isList h0 (by omega) (by rw[hj];simpa using ew) fin hs
 ·have hj:(i+(its.toArray.size:Int)).toNat=j:=by
   rw[seqIndex_neg (by omega) h4]at h1;rw[Xa,<-hl];exact oq9 h1
  exact subscriptTail_builtinR (x:=w) pl.isList.typeIs slot_list_getitem.lookup
   (wpAny_getItem_list_neg (Q:=λr s'=>r=w/\EP X pins σ Q r s') pl.isList (by omega) (by rw[Xa]<;>omega) (by omega) (by rw[hj];simpa using ew) ⟨rfl,fin⟩) hs
theorem ix_tup:IxR X (wwk X.K):=by
 intro value slice pins s σ H x y v u Q I rx ry h hs;obtain⟨p,xs,i,z,rfl,rfl,hq,he,q⟩:=h;cases rx;obtain⟨t,rfl⟩:=ry;obtain⟨its,r,pl,hz⟩:=I.tuple hq;obtain⟨j,h1,h2,h3,h4,h5⟩:=kz6 he;obtain⟨w,ew,rw'⟩:=r.get h2;have hl:=r.length;have hn:=kq1;have fin:EP X pins σ Q w s:=⟨z,H,I,rw',q⟩;exact subscriptTail_builtinR (x:=w) pl.typeIs slot_tuple_getitem.lookup
  (getItem_tuple (j:=j) (Q:=λr s'=>r=w/\EP X pins σ Q r s') pl (by omega) (by omega) (by rw[Xa,<-hl];exact h1) (by simpa using ew) ⟨rfl,fin⟩) hs
theorem wk9:IxR X wwl:=by
 intro value slice pins s σ H x y v u Q I rx ry h hs;obtain⟨z,i,c,rfl,rfl,hz,he,q⟩:=h;obtain⟨t,rfl⟩:=rx;obtain⟨t',rfl⟩:=ry;obtain⟨j,h1,h2,h3,h4,h5⟩:=kz6 he;have hl:z.cps.toList.length=z.length:=by simp[Str.length]
 rw[hl]at h1 h4 h5;have hn:=kq1;exact tail_any (typeIs_str s z t) slot_str_getitem.lookup (getItem_str (c:=c) (by
  have e1:decide (i < -(2 ^ 63:Int))=false:=X9 (by omega);have e2:decide (i>=2 ^ 63)=false:=X9 (by omega);rw[e1,e2,Bool.or_false]) (by rw[h1];simpa using h2) ⟨.str ⟨#[c]⟩,H,I.tok _,⟨_,rfl⟩,q⟩) hs
def rIx(K:PySem.W.Frag):R2:=λx y H Q=>wwm K x y H Q\/wwk K x y H Q\/wwl x y H Q
theorem wka:IxR X (rIx X.K):=ix_list.or (ix_tup.or wk9)
theorem kw2(lo hi:Option Int)(n:Nat):(sliceBounds lo hi none n).1=((HT.sIx n 0 lo:Nat):Int)/\(sliceBounds lo hi none n).2.1=((HT.sIx n n hi:Nat):Int)/\(sliceBounds lo hi none n).2.2=1:=by
 refine⟨?_,?_,rfl⟩
 ·cases lo with
  | none=>simp[sliceBounds,HT.sIx]
  | some i =>
   simp only[sliceBounds,HT.sIx,Option.getD_none,show(1:Int)>0 by decide,if_true]
   by_cases h:i<0
   ·simp only[h,if_true]<;>omega
   ·simp only[h,if_false]<;>omega
 ·cases hi with
  | none=>simp[sliceBounds,HT.sIx]
  | some i =>
   simp only[sliceBounds,HT.sIx,Option.getD_none,show(1:Int)>0 by decide,if_true]
   by_cases h:i<0
   ·simp only[h,if_true]<;>omega
   ·simp only[h,if_false]<;>omega
theorem kqn(its:List Value)(lo hi:Option Int):slicePick its.toArray lo hi none=((its.drop (HT.sIx its.length 0 lo)).take (HT.sIx its.length its.length hi - HT.sIx its.length 0 lo)).toArray:=by
 obtain⟨h1,h2,h3⟩:=kw2 lo hi its.toArray.size;unfold slicePick;rw[h1,h2,h3];simp only[sliceRange_one,pick_run,Xa]<;>rfl
def wwj(K:PySem.W.Frag):V->Option Int->Option Int->Hp->VK->Prop:=λx lo hi H Q=>∃a xs,x=.ref a/\SqL K H a xs/\∀p,H p=none->Q (.ref p) (upd H p (.lst (vkm xs lo hi)))
theorem sl_list:SlR X (wwj X.K):=by
 intro pins s σ H x v vl vu lo hi sl Q I rx hs pl pu h;obtain⟨a,xs,rfl,hx,q⟩:=h;cases rx;obtain⟨its,r,ht,hz⟩:=I.list hx;have hlen:=r.length;refine⟨"list",_,slot_list_getitem.lookup,ht.isList.typeIs,?_⟩;refine wpAny_getItem_list_slice ht.isList hs pl pu .none (by simp) ?_ (by rw[Xa]<;>omega);rw[kqn,<-hlen];refine⟨.ref s.heap.objs.size,_,I.laid (t':=s.toks) (o:=.lst (vkm xs lo hi)) (λb ob q=>X6 _ q) (X8 _) ?_,rfl,q _ (I.hok.fresh (X8 _))⟩;exact⟨Y2 (kk9 xs lo hi) hz,_,0,(r.drop (HT.sIx xs.length 0 lo)).take (HT.sIx xs.length xs.length hi - HT.sIx xs.length 0 lo),Xl _ rfl⟩
theorem kwc:OpR X (compareOp .NotIn) (λx y H Q=>∃i j,x=.str i/\y=.str j/\Q (.bl (!(!(Builtin.Str.occurrences j i 0 j.length 1).isEmpty))) H):=by
 intro pins s σ H x y v u Q I rx ry h;obtain⟨i,j,rfl,rfl,q⟩:=h;obtain⟨t,rfl⟩:=rx;obtain⟨t',rfl⟩:=ry;exact notIn_str ⟨.bl _,H,I,rfl,q⟩
theorem call_len_seq:CallR X (.builtin "len") (λxs H Q=>∃p ys,xs=[.ref p]/\(SqL X.K H p ys\/SqT X.K H p ys)/\Q (.int ys.length) H):=by
 intro pins s σ H xs us Q I r h;obtain⟨p,ys,rfl,hq,q⟩:=h;obtain⟨u,rfl,rx⟩:=jx3 r;cases rx;have hn:=kq1;rcases hq with hq | hq
 ·obtain⟨its,r',pl,hz⟩:=I.list hq;have hlen:=r'.length;exact Calls.call_len_list pl.isList (by simp only[Xa]<;>omega) ⟨.int ys.length,H,I.tok _,⟨s.toks+1,by rw[Xa,hlen]⟩,q⟩
 ·obtain⟨its,r',pl,hz⟩:=I.tuple hq;have hlen:=r'.length;exact len_tuple pl (by simp only[Xa]<;>omega) ⟨.int ys.length,H,I.tok _,⟨s.toks+1,by rw[Xa,hlen]⟩,q⟩
theorem call_len_str:CallR X (.builtin "len") (λxs H Q=>∃z,xs=[.str z]/\z.length<=sizeLine/\Q (.int z.length) H):=by
 intro pins s σ H xs us Q I r h;obtain⟨z,rfl,hz,q⟩:=h;obtain⟨u,rfl,t,rfl⟩:=jx3 r;have hn:=kq1;exact len_str (by omega) ⟨.int z.length,H,I.tok _,⟨_,rfl⟩,q⟩
theorem CallR.or{f:Value}{r r':List V->Hp->VK->Prop}(h:CallR X f r)(h':CallR X f r'):CallR X f (λxs H Q=>r xs H Q\/r' xs H Q):=by
 intro pins s σ H xs us Q I rs q;rcases q with q | q
 ·exact h pins s σ H xs us Q I rs q
 ·exact h' pins s σ H xs us Q I rs q
theorem kx0:CallR X (.type "list") (λxs H Q=>∃p ys,xs=[.ref p]/\(SqL X.K H p ys\/SqT X.K H p ys)/\∀l,H l=none->Q (.ref l) (upd H l (.lst ys))):=by
 intro pins s σ H xs us Q I r h;obtain⟨p,ys,rfl,hq,q⟩:=h;obtain⟨u,rfl,rx⟩:=jx3 r;cases rx;have fin:∀(its:List Value),Vals ys its->ys.length<=sizeLine->∀(h':Heap) (c':Nat),(∀b o',s.heap.get? b=some o'->h'.get? b=some o') ->
   h'.get? s.heap.objs.size=some { cls:=.type "list",dict:=none,data:=.seq its.toArray c',slots:=#[] }->EP X pins σ Q (.ref s.heap.objs.size) { s with heap:=h' }:=λits r' hz h' c' kp e =>
  ⟨.ref s.heap.objs.size,_,I.laid (t':=s.toks) kp (X8 _) (show ObjOk X.prog X.w _ h' _ (.lst ys)from⟨hz,its,c',r',e⟩),rfl,q _ (I.hok.fresh (X8 _))⟩
 rcases hq with hq | hq
 ·obtain⟨its,r',pl,hz⟩:=I.list hq;have hlen:=r'.length;obtain⟨o,ho,hc,n,hd⟩:=pl.isList;exact call_list_seq p (.inl rfl) ho hc hd (λh' c' kp e=>fin its r' hz h' c' kp e) (by simp only[Xa]<;>omega)
 ·obtain⟨its,r',pl,hz⟩:=I.tuple hq;have hlen:=r'.length;obtain⟨o,ho,hc,n,hd⟩:=pl;exact call_list_seq p (.inr rfl) ho hc hd (λh' c' kp e=>fin its r' hz h' c' kp e) (by simp only[Xa]<;>omega)
theorem kvm:CallR X (.type "tuple") (λxs H Q=>∃p ys,xs=[.ref p]/\((SqL X.K H p ys/\∀l,H l=none->Q (.ref l) (upd H l (.tup ys)))\/(SqT X.K H p ys/\Q (.ref p) H))):=by
 intro pins s σ H xs us Q I r h;obtain⟨p,ys,rfl,h⟩:=h;obtain⟨u,rfl,rx⟩:=jx3 r;cases rx;rcases h with⟨hq,q⟩| ⟨hq,q⟩
 ·obtain⟨its,r',pl,hz⟩:=I.list hq;have hlen:=r'.length;refine call_tuple_list pl.isList (λh' kp=>?_) (by simp only[Xa]<;>omega);have I1:Inv X pins σ H { s with heap:=h' }:=I.kept (t':=s.toks) kp;have I2:Inv X pins σ (upd H h'.objs.size (.tup ys)) { s with heap:=h'.push { cls:=.type "tuple",data:=.seq its.toArray } }:=
   I1.laid (t':=s.toks) (λb o e=>X6 _ e) (X8 _) (show ObjOk X.prog X.w _ _ _ (.tup ys)from⟨hz,its,r',IsTupD.new _ _⟩)
  exact⟨.ref h'.objs.size,_,I2,rfl,q _ (I1.hok.fresh (X8 _))⟩
 ·obtain⟨its,r',pl,hz⟩:=I.tuple hq;exact call_tuple_same pl ⟨.ref p,H,I,rfl,q⟩
def tyV(K : PySem.W.Frag)(T : String)(x : V)(H : Hp): Prop := match x with
  | .str _ => T = "str"
  | .int _ => T = "int"
  | .ref p => (T = "list" /\ ∃xs, SqL K H p xs) \/ (T = "tuple" /\ ∃o, K.lookup p = some o /\ o.cls = .type "tuple" /\ o.dict = none) \/
      (T = "dict" /\ ((∃kvs, H p = some (.dK kvs)) \/ ∃kvs, H p = some (.dT kvs))) \/ (T = "set" /\ ∃S n, H p = some (.set S n))
  | _ => False
theorem vjn{pins:List (Addr×Obj)}{σ:St}{H:Hp}{s:Shared}{T:String}{x:V}{v:Value}(I:Inv X pins σ H s)(r:RelV x v)(ty:tyV X.K T x H):
  s.TypeIs v T/\∀a,v=.ref a->∃ob,s.heap.get? a=some ob/\ob.dict=none:=by
 cases x with
 | str z =>
  obtain⟨t,rfl⟩:=r;cases(show T="str" from ty);exact⟨typeIs_str s z t,λ_ e=>nomatch e⟩
 | int i =>
  obtain⟨t,rfl⟩:=r;cases(show T="int" from ty);exact⟨typeIs_int s i t,λ_ e=>nomatch e⟩
 | ref p =>
  cases r;rcases ty with⟨rfl,xs,hq⟩| ⟨rfl,o,hk,hc,hd⟩| ⟨rfl,hk⟩| ⟨rfl,S,n,hk⟩
  ·obtain⟨its,_,pl,_⟩:=I.list hq;refine⟨pl.isList.typeIs,λa e=>?_⟩;cases e;obtain⟨o,n,e,c,hd,_⟩:=pl;exact⟨o,e,hd⟩
  ·refine⟨⟨o,I.kIn p o hk,hc⟩,λa e=>?_⟩;cases e;exact⟨o,I.kIn _ o hk,hd⟩
  ·have z:∃o,s.heap.get? p=some o/\o.ExactDict:=by
    rcases hk with⟨kvs,hk⟩| ⟨kvs,hk⟩
    ·obtain⟨_,_,_,_,o,_,_,e,ex,_⟩:=I.hok p _ hk;exact⟨o,e,ex⟩
    ·obtain⟨_,_,_,_,o,_,_,e,ex,_⟩:=I.hok p _ hk;exact⟨o,e,ex⟩
   obtain⟨o,e,ex⟩:=z;refine⟨⟨o,e,ex.1⟩,λa e2=>?_⟩;cases e2;exact⟨o,e,ex.2.1⟩
  ·obtain⟨o,_,_,_,e,ex,_⟩:=I.hok p _ hk;refine⟨⟨o,e,ex.1⟩,λa e2=>?_⟩;cases e2;exact⟨o,e,ex.2.1⟩
 | _=>exact False.elim ty
abbrev wwg(K:PySem.W.Frag)(T:String)(r:V->List V->Hp->VK->Prop)(to:TE):TE:=fun σ H Q=>to σ H λx H1=>tyV K T x H1/\r x [] H1 Q
abbrev tBM(K:PySem.W.Frag)(T:String)(r:V->List V->Hp->VK->Prop)(to:TE)(t:TA):TE:=fun σ H Q=>to σ H λx H1=>tyV K T x H1/\t σ H1 λxs H2=>r x xs H2 Q
variable {o e:Expr}{es:List Expr}{to:TE}{t:TA}{name:Str}{apos cpos:Pos}{T id:String}{r:V->List V->Hp->VK->Prop}
theorem wj7(pa:PlainAttrs T)(slot:Slot T name id)(hty:typeOf (.builtin id)=pure (.type "method_descriptor"))(hm:MtR X id r)(ho:PE X o to)
  (hbase:attributeBase o name X.env (eval o X.env)=eval o X.env:=by rfl) (hline:(apos.endLine==cpos.line)=true:=by rfl):PE X (.Call (.Attribute o name apos) [] [] cpos) (wwg X.K T r to):=by
 intro pins s σ H Q I h;refine wpAny_Call_method0_late hbase hline (thn (ho pins s σ H _ I h) λv s1 ⟨x,H1,I1,r1,ty,q1⟩=>?_);obtain⟨h1,h2⟩:=vjn I1 r1 ty;exact⟨T,id,pa,slot,hty,h1,h2,Yp rfl (PySem.evalArgs_none (hm pins s1 σ H1 x [] v [] Q I1 r1 .nil q1))⟩
theorem wvi(pa:PlainAttrs T)(slot:Slot T name id)(hty:typeOf (.builtin id)=pure (.type "method_descriptor"))(hm:MtR X id r)(ho:PE X o to)(ha:PA X (e::es) t)
  (hbase:attributeBase o name X.env (eval o X.env)=eval o X.env:=by rfl)
  (hfew:((backTo cpos (starEach (e::es) X.env)).all (λx=>!x.1)&&(backToKw cpos (keywordEach [] X.env)).all (λx=>x.1.isSome)
   && decide ((e::es).length+([]:List Keyword).length+(if([]:List Keyword).isEmpty then 0 else 1)<30))=true:=by rfl)
  (hline:(apos.endLine==cpos.line)=true:=by rfl) (hs:starEach (e::es) X.env=(false,eval e X.env)::starEach es X.env:=by rfl) (hplain:(backTo cpos (starEach es X.env)).any (·.1)=false:=by rfl):
  PE X (.Call (.Attribute o name apos) (e::es) [] cpos) (tBM X.K T r to t):=by
 intro pins s σ H Q I h;refine wpAny_Call_method_late hbase hfew hline rfl (thn (ho pins s σ H _ I h) λv s1 ⟨x,H1,I1,r1,ty,q1⟩=>?_);obtain⟨h1,h2⟩:=vjn I1 r1 ty;refine⟨T,id,pa,slot,hty,h1,h2,?_⟩;have hA:=ha cpos pins s1 σ H1 _ I1 q1;rw[hs]at hA ⊢;refine Yp (by show(false||(backTo cpos (starEach es X.env)).any (·.1))=false;rw[hplain]<;>rfl) (Calls.evalArgs_plain ?_);exact thn hA λus s2 ⟨vs,H2,I2,r2,q2⟩=>hm pins s2 σ H2 x vs v us Q I2 r1 r2 q2
end
def MtM(X:Cx)(id:String)(r:V->List V->Hp->VK->Prop):Prop :=
 ∀(pins:List (Addr×Obj)) (s:Shared) (σ:St) (H:Hp) (x:V) (xs:List V) (v:Value) (us:List Value) (Q:VK),Inv X pins σ H s->RelV x v->Vals xs us->r x xs H Q ->
  wpAny (model X.prog X.w) X.A (call (.builtin id) (v::us)) (EP X pins σ Q) X.xe s
theorem Vals.one:∀{x:V} {us:List Value},Vals [x] us->∃u,us=[u]/\RelV x u
 | _,_,.cons r .nil=>⟨_,rfl,r⟩
theorem Vals.zero:∀{us:List Value},Vals [] us->us=[]
 | _,.nil=>rfl
theorem Vals.reverse{xs:List V}{us:List Value}(h:Vals xs us):Vals xs.reverse us.reverse:=by
 induction h with
 | nil=>exact .nil
 | cons r t ih=>rw[List.reverse_cons,List.reverse_cons];exact Vals.append ih (.cons r .nil)
theorem Vals.rep{xs:List V}{us:List Value}(h:Vals xs us):∀k:Nat,Vals (List.replicate k xs).flatten (List.replicate k us).flatten
 | 0=>.nil
 | k+1=>by
  rw[List.replicate_succ,List.replicate_succ,Yl,Yl];exact Vals.append h (Vals.rep h k)
theorem kk6(its:List Value):∀(k:Nat) (acc:List Value),
  List.foldl (λx1 x2=>x1++x2) acc.toArray (List.replicate k its.toArray)=(acc++(List.replicate k its).flatten).toArray
 | 0,acc=>by simp
 | k+1,acc=>by
  have e:acc.toArray++its.toArray=(acc++its).toArray:=by simp
  have e2:(acc++its)++(List.replicate k its).flatten=acc++(List.replicate (k+1) its).flatten:=by
   rw[List.replicate_succ,Yl,Xr]
  rw[<-e2,<-kk6 its k (acc++its),<-e,List.replicate_succ,Yh]
section
variable {X:Cx}{pins:List (Addr×Obj)}{σ:St}{H:Hp}{s:Shared}{l b:Addr}{xs ys zs:List V}
theorem Inv.lset{its its':List Value}{n:Nat}{f:Array Value->Array Value}{t':Nat}(I:Inv X pins σ H s)(hH:H l=some (.lst xs))
  (e:s.heap.get? l=some { cls:=.type "list",data:=.seq its.toArray n }) (hf:f its.toArray=its'.toArray) (hv:Vals ys its') (hz:ys.length<=sizeLine):
  Inv X pins σ (upd H l (.lst ys)) { s with heap:=s.heap.update l (Obj.mapSeq f),toks:=t' }:=by
 have q:=PySem.IsL.update e f;rw[hf]at q;refine I.write (x:=l) (e:=l) (by rw[hH];exact trivial) (.inl rfl) (λb' u hb hu=>(Heap.get?_update_other s.heap (Obj.mapSeq f) (Ne.symm hb)).trans hu) ⟨_,q⟩ ?_;exact⟨hz,its',_,hv,q⟩
theorem Inv.lnew{its:List Value}{t':Nat}(I:Inv X pins σ H s)(hv:Vals ys its)(hz:ys.length<=sizeLine):
  Inv X pins σ (upd H s.heap.objs.size (.lst ys)) { s with heap:=s.heap.push { cls:=.type "list",data:=.seq its.toArray },toks:=t' }:=
 I.laid (λ_ _ q=>X6 _ q) (X8 _) ⟨hz,its,0,hv,Xl _ rfl⟩
theorem Inv.fresh(I:Inv X pins σ H s):H s.heap.objs.size=none:=I.hok.fresh (X8 _)
theorem Inv.lstM(I:Inv X pins σ H s)(hH:H l=some (.lst xs)):xs.length<=sizeLine/\∃(its:List Value) (n:Nat),Vals xs its/\xs.length=its.length/\s.heap.get? l=some { cls:=.type "list",data:=.seq its.toArray n }:=by
 obtain⟨z,its,n,r,e⟩:=I.hok l _ hH;exact⟨z,its,n,r,r.length,e⟩
theorem qzs{n:Nat}(h:n<=sizeLine):Builtin.List.listTooLong n=false:=by
 unfold Builtin.List.listTooLong;exact X9 (by omega)
end
section
variable {X:Cx}
def kxi:V->List V->Hp->VK->Prop:=λx vs H Q=>∃l xs y,x=.ref l/\vs=[y]/\H l=some (.lst xs)/\xs.length<sizeLine/\Q .non (upd H l (.lst (xs++[y])))
theorem qvm:MtM X "list.append" kxi:=by
 intro pins s σ H x vs v us Q I rx rv h;obtain⟨l,xs,y,rfl,rfl,hH,hz,q⟩:=h;cases rx;obtain⟨u,rfl,ru⟩:=rv.one;obtain⟨z,its,n,r,hl,e⟩:=I.lstM hH;refine call_meets F.slot_list_append ⟨_,e,rfl⟩ F.entry_list_append (F.args_list_append_2 _ _) (PySem.list_append l its.toArray n u (by rw[Xa];omega)) ⟨e,?_⟩;refine⟨.non,_,I.lset (its':=its++[u]) hH e (by simp) (r.append (.cons ru .nil)) ?_,rfl,q⟩;rw[X7,Ye];omega
def kzw:V->List V->Hp->VK->Prop:=λx vs H Q=>∃l xs,x=.ref l/\vs=[]/\H l=some (.lst xs)/\Q .non (upd H l (.lst xs.reverse))
theorem qke:MtM X "list.reverse" kzw:=by
 intro pins s σ H x vs v us Q I rx rv h;obtain⟨l,xs,rfl,rfl,hH,q⟩:=h;cases rx;have hus:=rv.zero;subst hus;obtain⟨z,its,n,r,hl,e⟩:=I.lstM hH;refine call_meets F.slot_list_reverse ⟨_,e,rfl⟩ F.entry_list_reverse (F.args_list_reverse_1 _) (AutoSeq1.list_reverse_list_0 l its.toArray n (by rw[Xa];omega)) ⟨e,?_⟩;refine⟨.non,_,I.lset (its':=its.reverse) hH e (by simp) r.reverse ?_,rfl,q⟩;rw[List.length_reverse];omega
def wqb:R2:=λx y H Q=>∃l k xs,x=.ref l/\y=.int k/\H l=some (.lst xs)/\-(2 ^ 63)<=k/\k<2 ^ 63/\xs.length*k.toNat<=sizeLine /\
 ∀p,H p=none->Q (.ref p) (upd H p (.lst (List.replicate k.toNat xs).flatten))
theorem qvq{α:Type}(xs:List α)(k:Nat):(List.replicate k xs).flatten.length=k*xs.length:=by
 induction k with
 | zero=>simp
 | succ k ih=>rw[List.replicate_succ,Yl,X7,ih,Nat.succ_mul,Nat.add_comm]
end
end L2
namespace Att
open PySem PySem.W PySem.Calls PyProof.Rows
theorem kjy{P:Params}{h:Heap}:∀(ns:List Int) (vs:List Value),WellAll P h vs (ns.map WData.int)->IntsAre vs ns:=by
 intro ns
 induction ns with
 | nil =>
  intro vs w;rw[List.map_nil]at w;cases w;exact .nil
 | cons n ns ih =>
  intro vs w;rw[List.map_cons]at w;cases w with
  | cons a b =>
   cases a;exact .cons _ _ (ih _ b)
theorem script_of{l : OpenLaw}{n : Nat}(hn : l.most = some n){P : Params}{h : Heap}{args : List WData}{vals : List Value}
    (hpre : l.row.toRowW.claim.pre args = true) (hwl : WellAll P h vals args):
    ∃ a vs ns, vals = [Value.ref a] /\ args = [WData.list (ns.map WData.int)] /\ h.get? a = some { cls := .type "list", data := .seq vs.toArray } /\ IntsAre vs ns /\ ns.length<=n := by
  have hsh : WShape.hasAll [] args [.list .int] = true := (pre_splitW hpre).1;have hc : l.pre.holds [] { args := args } = true := (pre_splitW hpre).2;obtain⟨d, r, rfl, h1, h2⟩:= hasAllW_cons hsh;obtain rfl := hasAllW_nil h2;obtain⟨xs, rfl, h3⟩:= hasW_list h1;obtain⟨ns, rfl⟩:= items_int h3;have hlen : ns.length<=n := by
    unfold OpenLaw.pre at hc;have h4 : (WTm.not (.lt (.lit (.int (n : Int))) (.len (.arg 0)))).holds [] { args := [.list (ns.map .int)] } = true := by
      have h4 := (holds_andW hc).1;rw[hn]at h4;exact h4
    have h5 := condW_of h4 (w_not (w_lt w_lit (w_len_list (w_arg rfl))));rw[X3]at h5;refine Nat.le_of_not_lt λq => ?_
    have q' : (n : Int)<((ns.length : Nat): Int):= by omega
    first
      | (rw[Xb q']at h5; exact absurd h5 (by decide))
      | (simp at h5; omega)
  cases hwl with
  | cons w1 w2 =>
    cases w2;cases w1 with
    | list ho hall => exact⟨_, _, ns, rfl, rfl, ho, kjy ns _ hall, hlen⟩
theorem post_true(l:OpenLaw)(args:List WData):l.row.toRowW.claim.post args (.bool true) args=true :=
 postW_of (r:=l.row.toRowW) (X:=(true==true))
  (show WShape.has [] (.bool true) .bool=true by first | rfl | decide | simp[WShape.has,WShape.arms,WShape.armsAll])
  (show(WTm.eq .res (.lit (.bool true))).value [] { args:=args,res:=some (.bool true),after:=args }=some (.bool (true==true))from w_eq_bool (w_res rfl) w_lit) rfl
end Att
namespace L2
open PySem PySem.Spec PyProof.Rows
def wwd(H:Hp):Prop:=∀b,H b=none\/∃o xs,H b=some (.frz o (.lst xs))
def jw7(s:Stmt):Arguments:=match s with
 | .FunctionDef _ a _ _ _ _ _ _ _ _=>a
 | _=>{ posonlyargs:=[],args:=[],vararg:=none,kwonlyargs:=[],kw_defaults:=[],kwarg:=none,defaults:=[] }
def jvc(s:Stmt):List Stmt:=match s with
 | .FunctionDef _ _ b _ _ _ _ _ _ _=>b
 | _=>[]
def jj9(s:Stmt):Scope:=match s with
 | .FunctionDef _ _ _ _ _ _ sc _ _ _=>sc
 | _=>{ kind:=.function,names:=[],isGenerator:=false,isCoroutine:=false }
structure Fun (K:PySem.W.Frag)(x qual:Str)(st:Stmt)(f:Addr)(fd:FuncData):Prop where
 ex:∃(oc:Value) (od:Option Addr) (kV doc pm:Value) (an:Option Addr) (cdv ct:Value) (osl:Array (Option Value)),
  fd=PySem.W.fnOf x qual (jw7 st) (jvc st) (jj9 st) .none kV doc pm an cdv ct/\K.lookup f=some ⟨oc,od,.func fd,osl⟩/\PySem.W.codeIn K cdv qual=true
 kp:PySem.W.keepIn K (.ref f)=true
section
variable {P:Program}{w:World}{K:PySem.W.Frag}{mg:Str->Option Value}{base:Heap}
theorem Fun.binds{x qual:Str}{st:Stmt}{f:Addr}{fd:FuncData}{ps:List Str}(F:Fun K x qual st f fd)
  (h:∀(kV doc pm:Value) (an:Option Addr) (cdv ct:Value) (us:List Value),us.length=ps.length->bindArgs (PySem.W.fnOf x qual (jw7 st) (jvc st) (jj9 st) .none kV doc pm an cdv ct) ⟨us,[]⟩=pure (ps.zip us)):Binds K fd ps []:=by
 obtain⟨oc,od,kV,doc,pm,an,cdv,ct,osl,rfl,lk,hcd⟩:=F.ex;exact .all (h kV doc pm an cdv ct)
theorem qwg{x qual:Str}{st:Stmt}{f:Addr}{oc:Value}{od an:Option Addr}{osl:Array (Option Value)}{kV doc pm cdv ct:Value}(l:K.lookup f=some ⟨oc,od,.func (PySem.W.fnOf x qual (jw7 st) (jvc st) (jj9 st) .none kV doc pm an cdv ct),osl⟩)
  (c:PySem.W.codeIn K cdv qual=true) (k:PySem.W.keepIn K (.ref f)=true):Fun K x qual st f (PySem.W.fnOf x qual (jw7 st) (jvc st) (jj9 st) .none kV doc pm an cdv ct):=⟨⟨oc,od,kV,doc,pm,an,cdv,ct,osl,rfl,l,c⟩,k⟩
end
section
variable {X:Cx}
theorem pv(i:Nat){x:Str}{pos:Pos}(hN:X.N[i]?=some x:=by rfl)(hv:Vis X.env.scope x:=by first | exact Or.inl rfl | exact Or.inr (Or.inl rfl)| exact Or.inr (Or.inr rfl))(hd:(x==("__debug__":Str))=false:=by decide)
  (hcd:(x==("__classdict__":Str))=false:=by decide):PE X (.Name x pos) (qxv i):=vzz hN hv hd hcd
end
def jqp(H H':Hp):Prop:=∀b o,H b=some o->H' b=some o
section
variable {κ:Type}[DecidableEq κ]
theorem KV.length{kvs:List (κ×V)}{vs:List (κ×Value)}(r:KV kvs vs):kvs.length=vs.length:=Paired.length r
end
section
variable {P:Program}{w:World}{H:Hp}{h:Heap}{a:Addr}
theorem wqy{u:HO}(ok:HOk P w H h)(e:Rd H a u):ObjOk P w H h a u:=e.ok ok
theorem ww3{kvs:List (Key×V)}(ok:HOk P w H h)(e:Rd H a (.dK kvs)):kvs.length<=sizeLine/\(a==sysModules)=false/\∃vs,KV kvs vs/\h.DictOf (kvb P w) a vs :=
 show ObjOk P w H h a (.dK kvs)from wqy ok e
end
section
variable {X:Cx}{pins:List (Addr×Obj)}{σ:St}{H:Hp}{s:Shared}{a:Addr}{y v:V}{u r:Value}{o:Option V}{A:Around}{E:Value->Shared->Prop}
theorem Inv.big(I:Inv X pins σ H s):sysModules<s.heap.objs.size:=by
 have h:mainGlobals<s.heap.objs.size:=(I.mod.glob.keeps I.bk).lt;exact Nat.lt_trans (by decide) h
theorem qwx{h':Heap}{t':Nat}{ob:HO}(I:Inv X pins σ H s)(mu:Mut (H a))(hs:Heap.SameBut a s.heap h')(he:∃q,h'.get? a=some q)(new:ObjOk X.prog X.w (upd H a ob) h' a ob):
  Inv X pins σ (upd H a ob) { s with heap:=h',toks:=t' }:=
 I.write (x:=a) (e:=a) mu (.inl rfl) (λb q hb z=>(hs.2 b hb).trans z) he new
end
section
variable {X:Cx}{pins:List (Addr×Obj)}{σ:St}{H:Hp}{s:Shared}{a:Addr}{kvs:List (Key×V)}{k:Key}{u:Value}{A:Around}{E:Value->Shared->Prop}
theorem ww5{Q:Value->Shared->Prop}(I:Inv X pins σ H s)(e:Rd H a (.dK kvs))(h:∀t s',Inv X pins σ H s'->Q (.int kvs.length t) s'):wpAny (model X.prog X.w) A (call (.builtin "len") [.ref a]) Q E s:=by
 obtain⟨z,hd,vs,rel,dd⟩:=ww3 I.hok e;refine call_len_dict hd dd (by rw[<-rel.length];rw[sizeLine_eq]at z;omega) ?_;rw[<-rel.length];exact h _ _ (I.tok _)
end
def vjo:List (TE×TE)->St->Hp->(List (V×V)->Hp->Prop)->Prop
 | [],_,H,Q=>Q [] H
 | (tk,tv)::r,σ,H,Q=>tk σ H λx H1=>tv σ H1 λy H2=>vjo r σ H2 λps H3=>Q ((x,y)::ps) H3
abbrev VV:List (V×V)->List (Value×Value)->Prop:=Paired λp q=>RelV p.1 q.1/\RelV p.2 q.2
def PPs(X:Cx)(pos:Pos)(keys:List (Option Expr))(values:List Expr)(trs:List (TE×TE)):Prop :=
 ∀(pins:List (Addr×Obj)) (s:Shared) (σ:St) (H:Hp) (Q:List (V×V)->Hp->Prop),Inv X pins σ H s->vjo trs σ H Q ->
  wpAny (model X.prog X.w) X.A (evalPairs (pairTrees keys values X.env pos)) (λvs s'=>∃ps H',Inv X pins σ H' s'/\VV ps vs/\Q ps H') X.xe s
theorem vv3{X:Cx}{pos:Pos}:PPs X pos [] [] []:=λpins s σ H Q I h=>pairTrees_nil_walk ⟨[],H,I,.nil,h⟩
theorem qzg{X:Cx}{pos:Pos}{k v:Expr}{ks:List (Option Expr)}{vs:List Expr}{tk tv:TE}{trs:List (TE×TE)}(hk:PE X k tk)(hv:PE X v tv)(hr:PPs X pos ks vs trs):
  PPs X pos (some k::ks) (v::vs) ((tk,tv)::trs):=λpins s σ H Q I h =>
 pairTrees_cons_walk (thn (hk pins s σ H _ I h) λu s1 ⟨x,H1,I1,rx,q1⟩=>thn (hv pins s1 σ H1 _ I1 q1) λw2 s2 ⟨y,H2,I2,ry,q2⟩ =>
  thn (hr pins s2 σ H2 _ I2 q2) λws s3 ⟨ps,H3,I3,rel,q3⟩=>⟨(x,y)::ps,H3,I3,.cons ⟨rx,ry⟩ rel,q3⟩)
structure M2 (X:Cx)(o:Expr)(m:Str)(apos:Pos)(e f:Expr)(cpos:Pos):Prop where
 base:attributeBase o m X.env (eval o X.env)=eval o X.env
 few:((backTo cpos (starEach [e,f] X.env)).all (λx=>!x.1)&&(backToKw cpos (keywordEach [] X.env)).all (λx=>x.1.isSome)
  && decide (([e,f]:List Expr).length+([]:List Keyword).length+(if([]:List Keyword).isEmpty then 0 else 1)<30))=true
 line:(apos.endLine==cpos.line)=true
 trees:backTo cpos (starEach [e,f] X.env)=[(false,eval e X.env),(false,eval f X.env)]
section
variable {X:Cx}
theorem qx4:CallR X (.builtin "len") (λxs H Q=>∃a kvs,xs=[V.ref a]/\H a=some (.dK kvs)/\Q (.int kvs.length) H):=by
 intro pins s σ H xs us Q I r h;obtain⟨a,kvs,rfl,ha,q⟩:=h;obtain⟨u,rfl,ru⟩:=jx3 r;cases ru;exact ww5 I (.inl ha) λt s' I'=>⟨.int kvs.length,H,I',⟨t,rfl⟩,q⟩
end
end L2
set_option maxHeartbeats 4000000
namespace L3
open PySem PySem.Spec PyProof.Rows L2
abbrev qvv(ifs:List Expr)(env:Env):Sem Bool :=
 forIn ifs true λc r=>if r=true then do let ok <-isTrue c env (eval c env);pure (ForInStep.yield ok)else pure (ForInStep.yield r)
theorem jw8 (env : Env): ∀(l : List (Str × NameKind)) (cs : List (Str × Addr)), (∀y ∈ l, y.2 = .free -> ∃c, env.cells.lookup y.1 = some c) ->
    (∀x c, cs.lookup x = some c -> env.cells.lookup x = some c) ->
    ∃ cl, (forIn l cs (λ(x : Str × NameKind) (r : List (Str × Addr)) => if(x.2==NameKind.free) = true then do let a <-cellOf env x.1; pure (ForInStep.yield ((x.1, a)::r))else pure (ForInStep.yield r)): Sem (List (Str × Addr))) = pure cl /\
      (∀x c, cl.lookup x = some c -> env.cells.lookup x = some c) /\ (∀x c, cs.lookup x = some c -> ∃c', cl.lookup x = some c') /\ ∀y ∈ l, y.2 = .free -> ∃c, cl.lookup y.1 = some c
  | [], cs, _, hs => ⟨cs, rfl, hs, λx c h => ⟨c, h⟩, λ_ h => nomatch h⟩
  | (n, k)::r, cs, hl, hs => by
    by_cases hk : k = .free
    · subst hk
      obtain⟨c, hc⟩:= hl (n, .free) X4 rfl;have hs' : ∀x d, ((n, c)::cs).lookup x = some d -> env.cells.lookup x = some d := λx d h => by
        rw[Yv]at h;cases hx : x==n with
        | true =>
          rw[hx]at h;have e : x = n := by simpa using hx
          have e2 : c = d := by simpa using h
          subst e; subst e2;exact hc
        | false => rw[hx]at h; exact hs x d h
      obtain⟨cl, e, a, b, d⟩:= jw8 env r ((n, c)::cs) (λy hy => hl y (lc9 _ hy)) hs';refine⟨cl, ?_, a, λx c' h => ?_, λy hy hf => ?_⟩
      · rw[List.forIn_cons]
        have q : cellOf env n = pure c := by unfold cellOf; rw[hc]
        simp only[beq_self_eq_true, if_true, q, pure_bind];exact e
      · cases hx : x==n with
        | true => exact b x c (by rw[Yv, hx])
        | false => exact b x c' (by rw[Yv, hx]; exact h)
      · rcases List.mem_cons.mp hy with z | z
        · subst z
          exact b n c (by rw[Yv]; simp)
        · exact d y z hf
    · obtain⟨cl, e, a, b, d⟩:= jw8 env r cs (λy hy => hl y (lc9 _ hy)) hs
      refine⟨cl, ?_, a, b, λy hy hf => ?_⟩
      · rw[List.forIn_cons]
        have q : (k==NameKind.free) = false := by simpa using hk
        simp only[q, Bool.false_eq_true, if_false, pure_bind];exact e
      · rcases List.mem_cons.mp hy with z | z
        · subst z
          exact absurd hf hk
        · exact d y z hf
theorem kqb{scope:Scope}{env:Env}(h:∀y∈scope.names,y.2=.free->∃c,env.cells.lookup y.1=some c):
  ∃cl,closureFor scope env=pure cl/\(∀x c,cl.lookup x=some c->env.cells.lookup x=some c)/\∀y∈scope.names,y.2=.free->∃c,cl.lookup y.1=some c:=by
 obtain⟨cl,e,a,_,d⟩:=jw8 env scope.names [] h (λx c h=>nomatch h);refine⟨cl,?_,a,d⟩;unfold closureFor;have e':=congrArg (λt:Sem (List (Str×Addr))=>t >>= pure) e
 simpa using e'
def lcX(X:Cx)(scope:Scope)(N:List Str)(cl:List (Str×Addr))(C:Addr)(s0:Shared)(H0:Hp)(fp:List Addr):Cx :=
 { X with N:=N,s₀:=s0,H₀:=H0,env:=compEnvC scope cl C X.env,outer:=X.stack,ex:=fp,fn:=λ_=>false,pn:=[],xe:=λ_ _=>False }
def qvw(k:Nat)(R:List Nat)(σ:L2.St):L2.St:=List.replicate k none++R.map λj=>(σ[j]?).join
structure LcOk (X:Cx)(scope:Scope)(N:List Str)(k:Nat)(R:List Nat):Prop where
 kind:scope.kind=.function
 nocell:∀y∈scope.names,y.2≠.cell
 names:∀y∈scope.names,y.2=.local->scope.names.lookup y.1=some .local
 caps:∀y∈scope.names,y.2=.free->X.env.kindOf y.1=some .cell\/X.env.kindOf y.1=some .free
 len:N.length=k+R.length
 outs:∀i j x,R[i]?=some j->N[k+i]?=some x->X.N[j]?=some x/\scope.names.lookup x=some .free
def qkf(XN:List Str)(sc scope:Scope)(N:List Str)(k:Nat)(R:List Nat):Bool :=
 scope.names.all (λy=>y.2 != .cell)&&scope.names.all (λy=>y.2 != .local||scope.names.lookup y.1==some .local) &&
 scope.names.all (λy=>y.2 != .free||(sc.names.lookup y.1==some .cell||sc.names.lookup y.1==some .free)) &&
 (N.length==k+R.length)&&(R.zip (N.drop k)).all (λp=>XN[p.1]? == some p.2&&scope.names.lookup p.2==some .free)
theorem qj8{X:Cx}{scope:Scope}{N:List Str}{k:Nat}{R:List Nat}(hk:scope.kind=.function)(h:qkf X.N X.env.scope scope N k R=true):LcOk X scope N k R:=by
 unfold qkf at h;simp only[Bool.and_eq_true,Yw,bne_iff_ne,Bool.or_eq_true,beq_iff_eq]at h;obtain⟨⟨⟨⟨h1,h2⟩,h3⟩,h4⟩,h5⟩:=h;refine⟨hk,λy hy=>h1 y hy,λy hy e=>(h2 y hy).resolve_left (λz=>z e),λy hy e=>(h3 y hy).resolve_left (λz=>z e),h4,λi j x e1 e2=>?_⟩;have m:(j,x)∈R.zip (N.drop k):=by
  refine Xp (i:=i) ?_;rw[List.getElem?_zip_eq_some];exact⟨e1,by rw[List.getElem?_drop];exact e2⟩
 exact h5 (j,x) m
theorem jkq {env : Env} {x : Str} {q : NameKind}: ∀{names : List (Str × NameKind)}, (names.map λ(n, k) => if(k==NameKind.free&&env.scope.kind == .function&&env.kindOf n==some .cell)then(n, NameKind.cell)else(n, k)).lookup x = some q ->
    (x, q) ∈ names \/ (q = .cell /\ (x, NameKind.free) ∈ names)
  | [], h => nomatch h
  | (n, k)::r, h => by
    have h : List.lookup x ((if(k==NameKind.free&&env.scope.kind == .function&&env.kindOf n==some .cell) = true then(n, NameKind.cell)else(n, k))::(r.map λ(n, k) => if(k==NameKind.free&&env.scope.kind == .function&&env.kindOf n==some .cell)then(n, NameKind.cell)else(n, k))) = some q := h
    by_cases hc : (k==NameKind.free&&env.scope.kind == .function&&env.kindOf n==some .cell) = true
    · rw[Xf hc, Yv]at h
      cases hx : x==n with
      | true =>
        rw[hx]at h;have e : x = n := by simpa using hx
        have e2 : NameKind.cell = q := by simpa using h
        subst e;simp only[Bool.and_eq_true, beq_iff_eq]at hc;obtain⟨⟨e3, _⟩, _⟩:= hc;subst e3;exact .inr ⟨e2.symm, X4⟩
      | false =>
        rw[hx]at h;rcases jkq (names := r) h with z | ⟨z, y⟩
        · exact .inl (lc9 _ z)
        · exact .inr ⟨z, lc9 _ y⟩
    · rw[Xj hc, Yv]at h
      cases hx : x==n with
      | true =>
        rw[hx]at h;have e : x = n := by simpa using hx
        have e2 : k = q := by simpa using h
        subst e; subst e2;exact .inl X4
      | false =>
        rw[hx]at h;rcases jkq (names := r) h with z | ⟨z, y⟩
        · exact .inl (lc9 _ z)
        · exact .inr ⟨z, lc9 _ y⟩
section
variable {X:Cx}{pins:List (Addr×Obj)}{σ:L2.St}{H:Hp}{s:Shared}
theorem wjx{scope:Scope}{N:List Str}{k:Nat}{R:List Nat}{cl:List (Str×Addr)}{C:Addr}(sc:LcOk X scope N k R)(hfree:∀y∈scope.names,y.2=.free->∃c,cl.lookup y.1=some c)
  {x:Str} (h:(compEnvC scope cl C X.env).kindOf x=some .cell\/(compEnvC scope cl C X.env).kindOf x=some .free):∃c,cl.lookup x=some c:=by
 rcases h with h | h
 ·rcases jkq (env:=X.env) (names:=scope.names) h with z | ⟨_,z⟩
  ·exact absurd rfl (sc.nocell _ z)
  ·exact hfree _ z rfl
 ·rcases jkq (env:=X.env) (names:=scope.names) h with z | ⟨z,_⟩
  ·exact hfree _ z rfl
  ·cases z
theorem wjy{scope:Scope}{N:List Str}{k:Nat}{R:List Nat}{cl:List (Str×Addr)}{C:Addr}{fp:List Addr}(I:Inv X pins σ H s)(sc:LcOk X scope N k R)(hf:∀b∈fp,kku X pins H b)(ho:∀b∈fp,∃o,s.heap.get? b=some o)
  (hC:s.heap.objs.size<=C) (hcl:∀x c,cl.lookup x=some c->X.env.cells.lookup x=some c) (hfree:∀y∈scope.names,y.2=.free->∃c,cl.lookup y.1=some c):(lcX X scope N cl C s H fp).Ok where
 mod:=I.ok.mod
 kind:=sc.kind
 glob:=I.ok.glob
 blt:=I.ok.blt
 above:=hC
 inj:=λx y c h1 h2=>I.ok.inj x y c (hcl _ _ h1) (hcl _ _ h2)
 has:=λx h=>wjx sc hfree h
 cab:=λx c h=>by cases h
 hd:=I.ok.hd
 frames:=I.ok.frames
 stk:=.inl rfl
 exf:=λb hb=>by
  obtain⟨o,e⟩:=ho b hb;exact⟨Xw (Xn (Xh e) hC),λx c h=>(hf b hb).2.2.2.2.1 x c (hcl x c h)⟩
 bs:=λb o e=>I.bs b o e
 bsz:=Y2 I.ok.bsz I.sz
 noex:=λb o e hb=>by
  rcases(hf b hb).2.2.2.1 with z | z
  ·exact I.ok.noex b o e z
  ·exact absurd (Xn (Xh e) (Y2 I.ok.bsz z)) (Yc _)
 exfs:=λb hb hs=>by
  rcases List.mem_cons.mp (I.stkSub b hs)with z | z
  ·exact(hf b hb).2.1 z
  ·exact(hf b hb).2.2.1 z
 funs:=I.stack
 frf:=I.stkFree
theorem vxw(I:Inv X pins σ H s){a:Addr}(h:s.heap.objs.size<=a):a∉frs X.stack:=λz=>by
 rcases List.mem_cons.mp (I.stkSub a z)with e | e
 ·subst e;exact absurd (Xn I.lt h) (Yc _)
 ·exact I.nofs h e
theorem vvx {scope:Scope} {N:List Str} {k:Nat} {R:List Nat} {cl:List (Str×Addr)} {C D:Addr} {fp:List Addr} {h1:Heap} {t:Nat} {m:Str->Option Value} {oD:Obj} (I:Inv X pins σ H s) (sc:LcOk X scope N k R)
  (hf:∀ b∈fp,kku X pins H b) (ho:∀b∈fp,∃o,s.heap.get? b=some o)
  (hC:s.heap.objs.size<=C) (hD:s.heap.objs.size<=D) (hDC:D≠C) (hcl:∀x c,cl.lookup x=some c->X.env.cells.lookup x=some c) (hfree:∀y∈scope.names,y.2=.free->∃c,cl.lookup y.1=some c)
  (old:∀b o,s.heap.get? b=some o->h1.get? b=some o) (hn:h1.Ns C m) (eD:h1.get? D=some oD) (dD:∀v,oD.data≠.cell v):
  Inv (lcX X scope N cl C s H fp) [(D,oD)] (qvw k R σ) H { s with heap:=h1,toks:=t } where
 ok:=wjy I sc hf ho hC hcl hfree
 os:=rfl
 bare:=I.bare
 base:=Un.kept old
 loc:=⟨m,hn,λi x v e1 e2 vis=>by
  obtain⟨mX,hnX,hl⟩:=I.loc;unfold qvw at e2
  by_cases hi:i<k
  ·rw [Y1 (by rw[Yd];exact hi),List.getElem?_replicate,Xf hi]at e2;cases e2
  ·have hk:k<=i:=Nat.le_of_not_lt hi;rw [Xx (by rw[Yd];exact hk),Yd,Xi]at e2;cases er:R[i - k]? with
   | none=>rw[er]at e2;cases e2
   | some j =>
    rw [er]at e2;have ej:(σ[j]?).join=some v:=by simpa using e2
    have ej':σ[j]?=some (some v):=by
     cases q:σ[j]? with
     | none=>rw[q]at ej;cases ej
     | some z=>rw[q]at ej;cases z with
      | none=>cases ej
      | some z=>rw[show z=v by simpa using ej]
    obtain⟨o1,o2⟩:=sc.outs (i - k) j x er (by rw[show k+(i - k)=i by omega];exact e1);have cap:=sc.caps (x,.free) (Yg o2) rfl;have visX:Vis X.env.scope x:=cap.elim (λz=>.inr (.inl z)) λz=>.inr (.inr z)
    obtain⟨u,ru,q⟩:=hl j x v o1 ej' visX;refine⟨u,ru,?_⟩;rcases q with⟨q,_⟩| ⟨_,c,ec,hc⟩
    ·rcases cap with z | z
     ·rw[z]at q;cases q
     ·rw[z]at q;cases q
    ·obtain⟨c',ec'⟩:=hfree (x,.free) (Yg o2) rfl;have e:c'=c:=oq9 ((hcl x c' ec').symm.trans ec);subst e;refine .inr ⟨?_,c',ec',?_⟩
     ·rcases vis with z | z | z
      ·rcases jkq (env:=X.env) (names:=scope.names) z with y | ⟨y,_⟩
       ·have y':=sc.names _ y rfl;rw[o2]at y';cases y'
       ·cases y
      ·exact .inl z
      ·exact .inr z
     ·obtain⟨o,h1,h2⟩:=hc;exact⟨o,old _ _ h1,h2⟩⟩
 cell:=λx c h=>by
  obtain⟨v,o,h1,h2⟩:=I.cell x c (hcl x c h);exact⟨v,o,old _ _ h1,h2⟩
 free:=I.hok.fresh hC
 freeC:=λx c h=>I.freeC x c (hcl x c h)
 pin:=λp hp=>by
  have e:p=(D,oD):=by
   have hp:p∈([]++[(D,oD)]:List (Addr×Obj)):=hp
   simpa using hp
  subst e;exact⟨eD,I.hok.fresh hD,hDC,vxw I hD,dD⟩
 hok:=I.hok.kept old
 len:=by
  show(qvw k R σ).length=N.length;unfold qvw;rw[sc.len,X7,Yd,X3]
theorem kjx{a:Addr}{o:HO}(I:Inv X pins σ H s)(hn:H a=none)(hL:a≠X.env.locals)(h1:a∈X.ex\/X.s₀.heap.objs.size<=a)(h2:∀x c,X.env.cells.lookup x=some c->c≠a)(h3:∀p∈X.pn++pins,p.1≠a)
  (new:ObjOk X.prog X.w (upd H a o) s.heap a o):Inv X pins σ (upd H a o) s:=by
 have hok:HOk X.prog X.w (upd H a o) s.heap:=λb u e=>by
  by_cases hb:b=a
  ·subst hb;rw[jjy]at e;cases e;exact new
  ·rw[jjv hb]at e;exact(I.hok b u e).stay (λ_ _ _ q=>q) (λc q=>by rw[jjv (jk6 q hn)];exact q) λc xs q=>by rw[jjv (jk6 q hn)];exact q
 have na:∀b:Addr,b∉[a]->b≠a:=λb hb z=>hb (by rw[z];exact List.mem_singleton.mpr rfl)
 exact I.step (h':=s.heap) (H':=upd H a o) (g':=s.gens) (t':=s.toks) (d':=s.drawn) (ch:=[a])
  (λb hb=>by rw[List.mem_singleton.mp hb];exact⟨h1,hL,h2,h3⟩) (λb o _ _ _ e _=>e) (λb o _ _ _ e _=>⟨o.slots,e⟩) (λb o hb _ q=>by rw[jjv (na b hb)];exact q)
  (λb o _ e=>⟨o,e⟩) (λb xs q=>by rw[jjv (jk6 q hn)];exact q) (λb o u q=>by rw[jjv (jk6 q hn)];exact q) (λb ps q=>⟨#[],by rw[jjv (jk6 q hn),q];simp⟩)
  (λm hm=>hm) hok I.bare
end
def PTs(X:Cx)(ifs:List Expr)(t:TT):Prop :=
 ∀(pins:List (Addr×Obj)) (s:Shared) (σ:L2.St) (H:Hp) (Q:Bool->Hp->Prop),Inv X pins σ H s->t σ H Q->wpAny (model X.prog X.w) X.A (qvv ifs X.env) (TP X pins σ Q) X.xe s
abbrev tYes:TT:=λ_ H Q=>Q true H
theorem vqw{X:Cx}:PTs X [] tYes:=λ_ _ _ H _ I h=>wpAny_tests_nil ⟨H,I,h⟩
theorem vqv{X:Cx}{c:Expr}{t:TT}(hc:PT X c t):PTs X [c] t:=λpins s σ H Q I h=>wpAny_tests_one (hc pins s σ H Q I h)
def LcW(g:TG)(tt:TT)(te:TE)(Q:VK)(J:It)(W:Nat->Nat->List V->L2.St->Hp->Prop):Prop:=∀i m ys σ H,W i m ys σ H ->
 (J.stop i H/\ys.length<=sizeLine/\∀p,H p=none->Q (.ref p) (upd H p (.lst ys))) \/
 (J.go i H/\∀x H1,J.yld i H x H1->g x σ H1 fun σ2 H2=>∃(Ny:VK) (Nn:Hp->Prop),(∀y H4,Ny y H4->ys.length<=sizeLine/\∃m',m'<m/\W (i+1) m' (ys++[y]) σ2 H4) /\
  (∀H4,Nn H4->∃m',m'<m/\W (i+1) m' ys σ2 H4)/\tt σ2 H2 λb H3=>if b=true then te σ2 H3 Ny else Nn H3)
abbrev tLC(wi:TI)(g:TG)(tt:TT)(te:TE)(k:Nat)(R:List Nat):TE:=fun σ H Q=>wi σ H λJ H1 =>
 ∃W:Nat->Nat->List V->L2.St->Hp->Prop,(∃m,W 0 m [] (qvw k R σ) H1)/\LcW g tt te Q J W
abbrev vx9(its:List Value)(n:Nat):Obj:={ cls:=.type "list",data:=.seq its.toArray n }
section
variable {X:Cx}
theorem op_mulI:OpR X (binaryOp .Mult) (rI IntMulOk λi j=>.int (i*j)):=opI λ_ _ _ _ _ _ _ hc q=>mul_int q hc
def wq6(_i j:Int):Prop:=0<j/\j.natAbs.log2<9000
theorem qj1:OpR X (binaryOp .FloorDiv) (rI wq6 λi j=>.int (i / j)):=opI λi j _ _ _ _ _ hc q=>by
 have h1:(0:Int)<j:=hc.1;exact floordiv_int (by omega) (by rw[Int.fdiv_eq_ediv_of_nonneg i (by omega)];exact q) (.inl (PyProof.noPylong_of_log2 hc.2))
theorem vkp:∀{bs:List Bool} {its:List Value} {i:Nat} {v:Value},Vals (bs.map V.bl) its->its[i]?=some v->∃b,bs[i]?=some b/\v=.bool b
 | [],_,_,_,.nil,e=>by simp at e
 | b::bs,_,0,v,.cons r _,e=>by
  simp at e;subst e;exact⟨b,rfl,r⟩
 | b::bs,_,i+1,v,.cons _ t,e=>by
  obtain⟨b',e1,e2⟩:=vkp (i:=i) t (by simpa using e);exact⟨b',by simpa using e1,e2⟩
theorem kw8(bs:List Bool):((List.range bs.length).all λi=>(bs[i]?).getD true)=bs.all id:=by
 rw[Bool.eq_iff_iff,Yw,Yw];constructor
 ·intro h b hb;obtain⟨i,hi,e⟩:=List.getElem_of_mem hb;have:=h i (List.mem_range.mpr hi);rw[X0 hi,e]at this;exact this
 ·intro h i hi;have hi':=List.mem_range.mp hi;rw[X0 hi'];exact h _ (Xk hi')
def wv1(K:PySem.W.Frag):List V->Hp->VK->Prop:=λxs H Q=>∃(p:Addr) (bs:List Bool),xs=[.ref p]/\SqL K H p (bs.map V.bl)/\Q (.bl (bs.all id)) H
theorem vjf(hc:X.calm=true):CallR X (.builtin "all") (wv1 X.K):=by
 intro pins s σ H xs us Q I r h;obtain⟨p,bs,rfl,hq,q⟩:=h;obtain⟨u,rfl,ru⟩:=jx3 r;cases ru;obtain⟨its,rv,pl,hz⟩:=I.list hq;have hl:=pl.isList;have hlt:p<s.heap.objs.size:=by obtain⟨_,e,_⟩:=hl;exact Xh e
 have hlen:bs.length=its.length:=by rw[<-rv.length,X3]
 refine call_all_walk (wpAny_pyIter_list hl ?_);refine⟨s.heap.objs.size,[s.heap.objs.size,p],[s.heap.objs.size],its.toArray.size,_,_,λi=>(bs[i]?).getD true,rfl,Walks.list (A:=X.A.in1) (I.ok.hd hc) _ p (Xw hlt) its.toArray,
  ⟨⟨_,Xl _ rfl,rfl,rfl⟩,hl.push _⟩,λi v s' Q' E' hP hQ=>?_,λh' tk hk=>?_⟩
 ·obtain⟨b,e,rfl⟩:=vkp rv (by simpa using hP);simp only[e,Option.getD_some]at hQ;exact wpAny_truthy_bool hQ
 ·have e:((List.range its.toArray.size).all λi=>(bs[i]?).getD true)=bs.all id:=by
   rw[Xa,<-hlen];exact kw8 bs
  rw[e];refine⟨.bl _,H,I.kept (t':=tk) (h':=h') λb o e=>hk b o (λz=>?_) (X6 _ e),rfl,q⟩;exact absurd (Xh e) (by rw[List.mem_singleton.mp z];exact Yc _)
def Its(x:Str):It:=⟨λi _=>i<x.cps.size,λi H v H'=>H'=H/\∃c,x.cps[i]?=some c/\v=.str ⟨#[c]⟩,λi _=>i=x.cps.size⟩
theorem kze{P:Program}{w:World}{K:PySem.W.Frag}{tg:Expr}{x:Str}{t:Tok}{it:Addr}{ty:String}
  (W:∀A':Around,A'.handled=none->Walks P w A' it [it] [it] x.cps.size (SignAt x) (λi h=>h.IsStrIter it ty x t i))
  (hself:∀(A:Around) (i:Nat) (s:Shared) (Q:Value->Shared->Prop) (E:Value->Shared->Prop),s.heap.IsStrIter it ty x t i->Q (.ref it) s->wpAny (model P w) A (pyIter (.ref it)) Q E s)
  (hty:["enumerate","zip","dict_itemiterator","dict_reverseitemiterator","odict_iterator","itertools.zip_longest","itertools.pairwise"].contains ty=false):
  Turn P w K tg (Its x) [it] it (λi h=>h.IsStrIter it ty x t i) where
 mem:=by simp
 obj:=λi h st b hb=>by
  have e:b=it:=by simpa using hb
  subst e;obtain⟨o,e,c,d⟩:=st;exact⟨o,e,λv z=>by rw[d]at z;cases z⟩
 keep:=λi h h' st k=>by
  obtain⟨o,e,r⟩:=st;exact⟨o,k it (by simp) o e,r⟩
 item:=by
  intro X hP hw hK hc i pins s σ H E I hf st hg;subst hP hw hK;obtain⟨f0,f1,f2,f3,f4,f5⟩:=hf it (by simp);refine(W X.A (I.ok.hd hc)).item i s _ _ hg st λv h' tk hv st' kk=>?_
  obtain⟨c,u,hcc,rfl⟩:=hv;have I1:Inv X pins σ H { s with heap:=h',toks:=tk }:=I.turned (λb o hb e=>kk b o (by simpa using hb) e) f0 f1 f3 f4 f5;obtain⟨o,e,c1,d⟩:=id st';exact⟨_,rfl,vj4 (s:={ s with heap:=h',toks:=tk }) e c1 d hty ⟨.str ⟨#[c]⟩,H,I1,⟨u,rfl⟩,⟨rfl,c,hcc,rfl⟩,st',λb hb=>(hf b hb).1⟩⟩
 done:=by
  intro X hP hw hK hc i pins s σ H E I hf st hg;subst hP hw hK;obtain⟨f0,f1,f2,f3,f4,f5⟩:=hf it (by simp);have hg':i=x.cps.size:=hg;subst hg';exact(W X.A (I.ok.hd hc)).done s _ _ st λh' tk kk=>⟨rfl,I.turned (λb o hb e=>kk b o (by simpa using hb) e) f0 f1 f3 f4 f5⟩
 self:=λA i s Q E st hQ=>hself A i s Q E st hQ
def wwi:V->Option Int->Option Int->Hp->VK->Prop:=λx lo hi H Q=>∃z,x=.str z/\z.length<=sizeLine/\Q (.str (Txt.slice z lo hi)) H
theorem vxy:SlR X wwi:=by
 intro pins s σ H x v vl vu lo hi sl Q I rx hs pl pu h;obtain⟨z,rfl,hz,q⟩:=h;obtain⟨t,rfl⟩:=rx;refine⟨"str",_,F.slot_str_getitem.lookup,typeIs_str _ _ _,?_⟩;have fin:∀(t':Tok) (k:Nat),EP X pins σ Q (.str (Txt.slice z lo hi) t') { s with toks:=k }:=λt' k=>⟨.str _,H,I.tok k,⟨t',rfl⟩,q⟩
 have hle:(Txt.slice z lo hi).length<=sizeLine:=Y2 (Txt.slice_le z _ _) hz;cases pl with
 | none=>cases pu with
  | none=>exact wpAny_getItem_str_slice (l:=none) (u:=none) (st:=none) hs rfl (post_val_or_str ⟨hle,fin⟩)
  | int j tj=>exact wpAny_getItem_str_slice (l:=none) (u:=some (j,tj)) (st:=none) hs rfl (post_val_or_str ⟨hle,fin⟩)
 | int i ti=>cases pu with
  | none=>exact wpAny_getItem_str_slice (l:=some (i,ti)) (u:=none) (st:=none) hs rfl (post_val_or_str ⟨hle,fin⟩)
  | int j tj=>exact wpAny_getItem_str_slice (l:=some (i,ti)) (u:=some (j,tj)) (st:=none) hs rfl (post_val_or_str ⟨hle,fin⟩)
def vz7:R2:=λx y H Q=>∃z n,x=.str z/\y=.int n/\(z.length<=1024/\n<=1024/\-1024<=n)/\Q (.str (Txt.mul z n)) H
theorem vvi:OpR X (binaryOp .Mult) vz7:=by
 intro pins s σ H x y v u Q I rx ry h;obtain⟨z,n,rfl,rfl,⟨h1,h2,h3⟩,q⟩:=h;obtain⟨t,rfl⟩:=rx;obtain⟨t',rfl⟩:=ry;exact SB.mul (mulOk_of 1024 1024 h1 h2 (by omega) (by decide) (by decide)) λt' k=>⟨.str _,H,I.tok k,⟨t',rfl⟩,q⟩
def vjr(K:PySem.W.Frag):V->Option Int->Option Int->Hp->VK->Prop:=λx lo hi H Q=>wwj K x lo hi H Q\/wwh K x lo hi H Q\/wwi x lo hi H Q
theorem wqu(K:PySem.W.Frag)(hK:X.K=K:=by rfl):SlR X (vjr K):=by subst hK;exact sl_list.or (sl_tup.or vxy)
def qqo(K:PySem.W.Frag):List V->Hp->VK->Prop:=λxs H Q=>(∃p ys,xs=[.ref p]/\(SqL K H p ys\/SqT K H p ys)/\Q (.int ys.length) H)\/(∃z,xs=[.str z]/\z.length<=sizeLine/\Q (.int z.length) H)\/(∃a kvs,xs=[V.ref a]/\H a=some (.dK kvs)/\Q (.int kvs.length) H)
theorem vwq(K:PySem.W.Frag)(hK:X.K=K:=by rfl):CallR X (.builtin "len") (qqo K):=by subst hK;exact call_len_seq.or (call_len_str.or qx4)
theorem qx7:CallR X (.type "int") (λxs H Q=>(∃i,xs=[.int i]/\Q (.int i) H)\/∃k,xs=[.bl k]/\Q (.int (if k then 1 else 0)) H):=qx5
theorem vwr(K:PySem.W.Frag)(hK:X.K=K:=by rfl)(hc:X.calm=true:=by rfl):CallR X (.builtin "all") (wv1 K):=by subst hK;exact vjf hc
theorem wj6(K:PySem.W.Frag){o e:Expr}{es:List Expr}{T:String}{name:Str}{id:String}{r:V->List V->Hp->VK->Prop}{to:TE}{t:TA}{apos cpos:Pos}
  (pa:PlainAttrs T) (slot:Slot T name id) (hty:typeOf (.builtin id)=pure (.type "method_descriptor")) (hm:MtR X id r) (ho:PE X o to) (ha:PA X (e::es) t)
  (hbase:attributeBase o name X.env (eval o X.env)=eval o X.env:=by rfl)
  (hfew:((backTo cpos (starEach (e::es) X.env)).all (λx=>!x.1)&&(backToKw cpos (keywordEach [] X.env)).all (λx=>x.1.isSome)
   && decide ((e::es).length+([]:List Keyword).length+(if([]:List Keyword).isEmpty then 0 else 1)<30))=true:=by rfl)
  (hline:(apos.endLine==cpos.line)=true:=by rfl) (hs:starEach (e::es) X.env=(false,eval e X.env)::starEach es X.env:=by rfl) (hplain:(backTo cpos (starEach es X.env)).any (·.1)=false:=by rfl) (hK:X.K=K:=by rfl):
  PE X (.Call (.Attribute o name apos) (e::es) [] cpos) (tBM K T r to t):=by subst hK;exact wvi pa slot hty hm ho ha hbase hfew hline hs hplain
theorem qxb:bootBuiltins "len"=some (.builtin "len"):=by decide +kernel
theorem wky:bootBuiltins "all"=some (.builtin "all"):=by decide +kernel
theorem wkx:bootBuiltins "sum"=some (.builtin "sum"):=by decide +kernel
theorem qx9:bootBuiltins "sorted"=some (.builtin "sorted"):=by decide +kernel
theorem vko:bootBuiltins "int"=some (.type "int"):=by decide +kernel
theorem jwb:bootBuiltins "list"=some (.type "list"):=by decide +kernel
theorem qjr:bootBuiltins "tuple"=some (.type "tuple"):=by decide +kernel
theorem wkw:bootBuiltins "zip"=some (.type "zip"):=by decide +kernel
end
def Cst(mg:Str->Option Value)(x:Str)(v:V):Prop:=∃u,mg x=some u/\RelV v u
section
variable {X:Cx}{x:Str}{p pos:Pos}{e:Expr}{es:List Expr}{t:TA}{ps:List Str}{sp:Sp}{k:Nat}{v:V}
theorem qva(c:Cst X.mg x v)(hg:Gl X x:=by rfl)(hd:(x==("__debug__":Str))=false:=by decide):PE X (.Name x pos) (tC v):=by
 obtain⟨u,m,r⟩:=c;exact vva hg m r hd
end
theorem qjt:∀{ns:List Int} {m:Nat},PySem.W.WData.weightAll (ns.map PySem.W.WData.int)<=m->∀n∈ns,Builtin.Int.intBits n<=m
 | [],_,_,_,h=>nomatch h
 | a::r,m,h,n,hn=>by
  have h':(if a==0 then 0 else a.natAbs.log2+1)+1+PySem.W.WData.weightAll (r.map PySem.W.WData.int)<=m:=h;rcases List.mem_cons.mp hn with z | z
  ·subst z;have e:Builtin.Int.intBits n=(if n==0 then 0 else n.natAbs.log2+1):=rfl;rw[e];omega
  ·exact qjt (m:=m) (by omega) n z
theorem kz5{ns:List Int}(h:PySem.W.WData.layableAll [PySem.W.WData.list (ns.map PySem.W.WData.int)]=true):∀n∈ns,Builtin.Int.intBits n<=1048576:=by
 have h1:(PySem.W.WData.list (ns.map PySem.W.WData.int)).layable=true:=(PySem.W.layW_cons h).1;unfold PySem.W.WData.layable at h1;simp only[Bool.and_eq_true,decide_eq_true_eq]at h1;have h2:PySem.W.WData.weightAll (ns.map PySem.W.WData.int)<=2 ^ 20:=h1.2;exact qjt (by simpa using h2)
inductive D where
 | non | bl (b:Bool)| int (i:Int)| str (z:Str)| lst (xs:List D)| tup (xs:List D)
section
variable {X:Cx}{pins:List (Addr×Obj)}{σ:L2.St}{H:Hp}{s:Shared}
theorem in1_units(A:Around):A.in1.units<=A.units+1:=by
 first | exact X8 _ | (show A.units+1<=A.units+1;exact X8 _)| (unfold Around.in1;simp)
end
section
variable {X:Cx}
def qqn(K:PySem.W.Frag):List V->Hp->VK->Prop:=λxs H Q=>∃p ys,xs=[.ref p]/\(SqL K H p ys\/SqT K H p ys)/\∀l,H l=none->Q (.ref l) (upd H l (.lst ys))
theorem jxo(K:PySem.W.Frag)(hK:X.K=K:=by rfl):CallR X (.type "list") (qqn K):=by subst hK;exact kx0
theorem vve(K:PySem.W.Frag){o:Expr}{T:String}{name:Str}{id:String}{r:V->List V->Hp->VK->Prop}{to:TE}{apos cpos:Pos}
  (pa:PlainAttrs T) (slot:Slot T name id) (hty:typeOf (.builtin id)=pure (.type "method_descriptor")) (hm:MtR X id r) (ho:PE X o to)
  (hbase:attributeBase o name X.env (eval o X.env)=eval o X.env:=by rfl) (hline:(apos.endLine==cpos.line)=true:=by rfl) (hK:X.K=K:=by rfl):
  PE X (.Call (.Attribute o name apos) [] [] cpos) (wwg K T r to):=by subst hK;exact wj7 pa slot hty hm ho hbase hline
end
section
variable {X:Cx}{pins:List (Addr×Obj)}{σ:L2.St}{H:Hp}{s:Shared}
theorem jv8{t':Nat}{h':Heap}(fp:List Addr)(I:Inv X pins σ H s)(k:∀b o,b∉fp->s.heap.get? b=some o->h'.get? b=some o)(hf:∀b∈fp,kku X pins H b):Inv X pins σ H { s with heap:=h',toks:=t' }:=by
 have nit:∀b u,H b=some u->b∉fp:=λb u e z=>by rw[(hf b z).1]at e;cases e
 refine I.step (g':=s.gens) (d':=s.drawn) (ch:=fp) (λb hb=>?_) (λb o _ _ hc e _=>k b o hc e) (λb o _ _ hc e _=>⟨o.slots,k b o hc e⟩) (λ_ _ _ _ n=>n)
  (λb o hc e=>⟨o,k b o hc e⟩) (λ_ _ e=>e) (λ_ _ _ e=>e) (λb ps e=>⟨#[],by rw[e];simp⟩) (λm hm=>?_) (λb u e=>?_) I.bare
 ·obtain⟨_,f1,_,f3,f4,f5⟩:=hf b hb;exact⟨f3,f1,f4,f5⟩
 ·obtain⟨o,es,ep,ho,r⟩:=hm;exact⟨o,es,ep,k _ o (λz=>(hf _ z).2.1 rfl) ho,r⟩
 ·refine(I.hok b u e).stay (λc v hc q=>k c v ?_ q) (λ_ q=>q) λ_ _ q=>q
  rcases hc with z | z
  ·rw[z];exact nit b u e
  ·exact nit c _ z
end
def Itz(K:PySem.W.Frag)(l1 l2:Addr):It:=⟨λi H=>∃xs ys x y,SqL K H l1 xs/\SqL K H l2 ys/\xs[i]?=some x/\ys[i]?=some y,
 λi H v H'=>∃T x y,H T=none/\v=.ref T/\H'=upd H T (.tup [x,y])/\(∀xs,SqL K H l1 xs->xs[i]?=some x)/\∀ys,SqL K H l2 ys->ys[i]?=some y,
 λi H=>∃xs ys,SqL K H l1 xs/\SqL K H l2 ys/\(xs.length<=i\/ys.length<=i)⟩
abbrev znt(z TI TO i1 i2 l1 l2:Addr)(i:Nat)(h:Heap):Prop:=IsZip h z TI TO .none/\IsPair h TI (.ref i1) (.ref i2)/\(∃a b,IsPair h TO a b)/\h.IsListIter i1 l1 i/\h.IsListIter i2 l2 i
theorem qxs{P:Program}{w:World}{K:PySem.W.Frag}{elts:List Expr}{k1:Nat}{pos:Pos}{z TI TO i1 i2 l1 l2:Addr}(ap:ZipApart z TI TO i1 i2 l1 l2):
  Turn P w K (.Tuple elts k1 pos) (Itz K l1 l2) [z,TI,TO,i1,i2] z (znt z TI TO i1 i2 l1 l2) where
 mem:=by simp
 obj:=λi h st b hb=>by
  obtain⟨h1,h2,⟨a,c,h3⟩,⟨o4,e4,c4,d4⟩,o5,e5,c5,d5⟩:=st;simp only[Xu,Xm,or_false]at hb;rcases hb with rfl | rfl | rfl | rfl | rfl
  ·exact⟨_,h1,λv z=>by cases z⟩
  ·exact⟨_,h2,λv z=>by cases z⟩
  ·exact⟨_,h3,λv z=>by cases z⟩
  ·exact⟨_,e4,λv z=>by rw[d4]at z;cases z⟩
  ·exact⟨_,e5,λv z=>by rw[d5]at z;cases z⟩
 keep:=λi h h' st k=>by
  obtain⟨h1,h2,⟨a,c,h3⟩,⟨o4,e4,c4,d4⟩,o5,e5,c5,d5⟩:=st;exact⟨k _ (by simp) _ h1,k _ (by simp) _ h2,⟨a,c,k _ (by simp) _ h3⟩,⟨o4,k _ (by simp) _ e4,c4,d4⟩,o5,k _ (by simp) _ e5,c5,d5⟩
 item:=by
  intro X hP hw hK hc i pins s σ H E I hf st hg;subst hP hw hK;obtain⟨xs,ys,x,y,q1,q2,hx,hy⟩:=hg;obtain⟨its1,rv1,p1,hz1⟩:=I.list q1;obtain⟨u1,hu1,ru1⟩:=rv1.get hx;obtain⟨its2,rv2,p2,hz2⟩:=I.list q2;obtain⟨u2,hu2,ru2⟩:=rv2.get hy;obtain⟨t1,t2,⟨a,b,t3⟩,t4,t5⟩:=st;refine wpAny_pyNext_zip_item ap t1 t2 t3 t4 t5 p1.isList p2.isList (x:=u1) (y:=u2) (by simpa using hu1) (by simpa using hu2) λh1 g1 g3 g4 g5 gT gs gk=>?_
  refine⟨_,rfl,wpAny_letOwnedTupleGo_zip (s:={ s with heap:=h1 }) g1 λh2 f1 sb=>?_⟩;have fT:kku X pins H s.heap.objs.size:=I.fpOk (X8 _) (I.hok.fresh (X8 _));have nT:∀b∈[z,TI,TO,i1,i2],b≠s.heap.objs.size:=λb hb e=>by
   obtain⟨o,eo,_⟩:∃o,s.heap.get? b=some o/\True:=by
    simp only[Xu,Xm,or_false]at hb;obtain⟨o4,e4,_⟩:=t4;obtain⟨o5,e5,_⟩:=t5;rcases hb with rfl | rfl | rfl | rfl | rfl
    ·exact⟨_,t1,trivial⟩
    ·exact⟨_,t2,trivial⟩
    ·exact⟨_,t3,trivial⟩
    ·exact⟨_,e4,trivial⟩
    ·exact⟨_,e5,trivial⟩
   exact absurd (Xh eo) (by rw[e];exact Yc _)
  have kk:∀b o,b∉[z,TO,i1,i2]->s.heap.get? b=some o->h2.get? b=some o:=λb o hb e=>by
   simp only[Xu,Xm,or_false,not_or]at hb;exact(sb.2 b hb.1).trans (gk b o hb.1 hb.2.1 hb.2.2.1 hb.2.2.2 e)
  have I1:Inv X pins σ H { s with heap:=h2,toks:=s.toks }:=jv8 [z,TO,i1,i2] I kk λb hb=>hf b (by
   simp only[Xu,Xm,or_false]at hb ⊢;rcases hb with h | h | h | h<;>simp[h])
  have nz:s.heap.objs.size≠z:=λe=>nT z (by simp) e.symm
  have I2:=kjx (a:=s.heap.objs.size) (o:=.tup [x,y]) I1 fT.1 fT.2.1 fT.2.2.2.1 fT.2.2.2.2.1 fT.2.2.2.2.2
   (show ObjOk X.prog X.w _ h2 _ (.tup [x,y])from⟨by show(2:Nat)<=sizeLine;decide,[u1,u2],.cons ru1 (.cons ru2 .nil),⟨_,(sb.2 _ nz).trans gT,rfl,rfl,0,rfl⟩⟩)
  refine⟨.ref s.heap.objs.size,_,I2,rfl,⟨_,x,y,fT.1,rfl,rfl,λzs hzs=>by rw[I.list_inj hzs q1];exact hx,λzs hzs=>by rw[I.list_inj hzs q2];exact hy⟩,?_,λb hb=>by rw[jjv (nT b hb)];exact(hf b hb).1⟩;refine⟨f1,?_,⟨u1,u2,(sb.2 _ ap.TOz).trans g3⟩,g4.at λo e=>(sb.2 _ ap.i1z).trans e,g5.at λo e=>(sb.2 _ ap.i2z).trans e⟩;exact(sb.2 _ ap.TIz).trans (gk _ _ ap.TIz ap.TITO ap.TIi1 ap.TIi2 t2)
 done:=by
  intro X hP hw hK hc i pins s σ H E I hf st hg;subst hP hw hK;obtain⟨xs,ys,q1,q2,hx⟩:=hg;obtain⟨its1,rv1,p1,hz1⟩:=I.list q1;obtain⟨its2,rv2,p2,hz2⟩:=I.list q2;obtain⟨t1,t2,⟨a,b,t3⟩,t4,t5⟩:=st;have hl1:=rv1.length;have hl2:=rv2.length;refine wpAny_pyNext_zip_end (I.ok.hd hc) ap t1 t2 t3 t4 t5 p1.isList p2.isList (hx.imp (λh=>by simp;omega) λh=>by simp;omega) λh' kk=>⟨rfl,?_⟩
  refine jv8 (t':=s.toks) [z,TO,i1,i2] I (λb o hb e=>?_) λb hb=>hf b (by
   simp only[Xu,Xm,or_false]at hb ⊢;rcases hb with h | h | h | h<;>simp[h])
  simp only[Xu,Xm,or_false,not_or]at hb;exact kk b o hb.1 hb.2.1 hb.2.2.1 hb.2.2.2 e
 self:=λ_ _ _ _ _ st h=>wpAny_pyIter_zip st.1 h
abbrev iZip(K:PySem.W.Frag)(ta:TA):TI:=fun σ H R=>ta σ H λvs H1=>∃l1 l2,vs=[.ref l1,.ref l2]/\(∃xs,SqL K H1 l1 xs)/\(∃ys,SqL K H1 l2 ys)/\R (Itz K l1 l2) H1
section
variable {X:Cx}
theorem vzx(K:PySem.W.Frag){a b:Expr}{ta:TA}{p pos tpos:Pos}{elts:List Expr}{k1:Nat}(hg:Gl X "zip")(hm:X.mg "zip"=none)(ha:PA X [a,b] ta)(hK:X.K=K:=by rfl)
  (hs:starEach [a,b] X.env=[(false,eval a X.env),(false,eval b X.env)]:=by rfl) (hs2:starEach [b] X.env=[(false,eval b X.env)]:=by rfl):
  PI X (.Tuple elts k1 tpos) (.Call (.Name "zip" p) [a,b] [] pos) (iZip K ta):=by
 subst hK;intro pins s σ H R I h;refine Call_ (jxg I hg hm wkw (Xz (thn (ha pos pins s σ H _ I h) λus s1 ⟨vs,H1,I1,r1,q1⟩=>?_) (by rw[hs,hs2]) (by rw[hs2];rfl)));obtain⟨l1,l2,rfl,⟨xs,q1⟩,⟨ys,q2⟩,q⟩:=q1;obtain⟨u1,u2,rfl,e1,e2⟩:=wql r1;cases e1;cases e2;obtain⟨its1,rv1,p1,hz1⟩:=I1.list q1;obtain⟨its2,rv2,p2,hz2⟩:=I1.list q2;have lt:∀{l:Addr} {ar:Array Value},s1.heap.IsList l ar->l<s1.heap.objs.size:=λh=>by obtain⟨_,e,_⟩:=h;exact Xh e
 refine call_zip_2 p1.isList p2.isList λh' g1 g2 g3 g4 g5 gs gk=>?_
 refine wpAny_pyIter_zip g1 ⟨_,[_,s1.heap.objs.size+2,s1.heap.objs.size+3,s1.heap.objs.size,s1.heap.objs.size+1],_,_,H1,rfl,I1.kept (t':=s1.toks) gk,
  qxs (zipApart_new (lt p1.isList) (lt p2.isList)),⟨g1,g2,⟨_,_,g3⟩,g4,g5⟩,λb hb=>?_,q⟩
 have hle:s1.heap.objs.size<=b:=by
  simp only[Xu,Xm,or_false]at hb;rcases hb with rfl | rfl | rfl | rfl | rfl<;>omega
 exact I1.fpOk hle (I1.hok.fresh hle)
end
section
variable {X:Cx}
def qqp:List V->Hp->VK->Prop:=λxs H Q=>(∃i,xs=[.int i]/\Q (.int i) H)\/(∃k,xs=[.bl k]/\Q (.int (if k then 1 else 0)) H)\/∃(x:Str) (n:Int),xs=[.str x]/\PySem.intText? x=some n/\x.length<=640/\Q (.int n) H
theorem kx2:CallR X (.type "int") qqp:=by
 intro pins s σ H xs us Q I r h;rcases h with h | h | ⟨x,n,rfl,hx,hl,q⟩
 ·exact qx7 pins s σ H xs us Q I r (.inl h)
 ·exact qx7 pins s σ H xs us Q I r (.inr h)
 ·obtain⟨u,rfl,t,rfl⟩:=jx3 r;exact PySem.W.KIN.call_text hx hl ⟨.int n,H,I.tok _,⟨_,rfl⟩,q⟩
end
end L3
namespace L2
open PySem PySem.Spec PyProof.Rows
section
variable {P:Program}{w:World}{H H':Hp}{h h':Heap}{a:Addr}{o:HO}
theorem ObjOk.obj(x:ObjOk P w H h a o):∃u,h.get? a=some u:=by
 cases o with
 | lst xs=>obtain⟨_,_,_,_,e⟩:=x;exact⟨_,e⟩
 | tup xs=>obtain⟨_,_,_,p⟩:=x;obtain⟨u,e,_⟩:=p;exact⟨u,e⟩
 | dK kvs=>obtain⟨_,_,_,_,o,_,_,e,_⟩:=x;exact⟨_,e⟩
 | dT kvs=>obtain⟨_,_,_,_,o,_,_,e,_⟩:=x;exact⟨_,e⟩
 | set S n=>obtain⟨o,_,_,_,e,_⟩:=x;exact⟨_,e⟩
 | ins C dx fs=>obtain⟨_,_,_,e,_⟩:=x;exact⟨_,e⟩
 | own y=>obtain⟨_,e⟩:=x;exact⟨_,e⟩
 | xd fs=>obtain⟨_,⟨_,_,_,e,_⟩,_⟩:=x;exact⟨_,e⟩
 | rng lo hi=>obtain⟨_,_,_,e⟩:=x;exact⟨_,e⟩
 | frz ob u=>obtain⟨e,_⟩:=x;exact⟨_,e⟩
 | tbl ps=>exact⟨_,x⟩
 | met f y=>exact⟨_,x⟩
 | ext φ=>obtain⟨_,⟨_,e⟩,_⟩:=x;exact⟨_,e⟩
end
section
variable {X:Cx}{pins:List (Addr×Obj)}{σ:List (Option V)}{H H':Hp}{s:Shared}{h':Heap}
theorem Inv.stepN{g':Array GenState}{t':Nat}{d':Drawn}{ch:List Addr}(I:Inv X pins σ H s)
  (hch:∀b∈ch,(b∈X.ex\/X.s₀.heap.get? b=none)/\b≠X.env.locals/\(∀x c,X.env.cells.lookup x=some c->c≠b)/\∀p∈X.pn++pins,p.1≠b)
  (keep:∀b o,b≠X.env.locals->b∉X.fs->b∉ch->s.heap.get? b=some o->H b=none->h'.get? b=some o)
  (slot:∀b o,b≠X.env.locals->b∈X.fs->b∉ch->s.heap.get? b=some o->H b=none->∃sl,h'.get? b=some { o with slots:=sl }) (free:∀b o,b∉ch->s.heap.get? b=some o->H b=none->H' b=none)
  (there:∀b o,b∉ch->s.heap.get? b=some o->∃o',h'.get? b=some o')
  (tups:∀b xs,H b=some (.tup xs)->H' b=some (.tup xs)) (frzs:∀b o u,H b=some (.frz o u)->H' b=some (.frz o u)) (tbls:∀b ps,H b=some (.tbl ps)->∃more,H' b=some (.tbl (ps++more)))
  (ns:∀m,s.heap.Ns X.env.locals m->h'.Ns X.env.locals m) (hok:HOk X.prog X.w H' h') (hg:AllBare g'):
  Inv X pins σ H' { s with heap:=h',gens:=g',drawn:=d',toks:=t' }:=by
 have neL:∀b o,X.s₀.heap.get? b=some o->b≠X.env.locals:=λb o e=>Xw (Xn (Xh e) I.ok.above)
 have neC:∀b o,X.s₀.heap.get? b=some o->b∉X.ex->b∉ch:=λb o e hx hb=>by
  rcases(hch b hb).1 with z | z
  ·exact hx z
  ·rw[z]at e;cases e
 have cellK:∀x c,X.env.cells.lookup x=some c->∀v,s.heap.IsCell c v->h'.IsCell c v:=λx c e v ⟨o,ho,hd⟩=>by
  have nch:c∉ch:=λz=>(hch c z).2.2.1 x c e rfl
  by_cases hc:c∈X.fs
  ·obtain⟨sl,q⟩:=slot c o (I.cne x c e) hc nch ho (I.freeC x c e);exact⟨_,q,hd⟩
  ·exact⟨o,keep c o (I.cne x c e) hc nch ho (I.freeC x c e),hd⟩
 refine⟨I.ok,I.os,hg,⟨λb o e n hb hx=>?_,λb o e n hb hx=>?_,λb o e n hx=>?_,λb o e hx=>?_,λb xs e=>tups b xs (I.base.tups b xs e),λb o xs e=>frzs b o xs (I.base.frzs b o xs e),λb ps e=>?_⟩,?_,λx c e=>?_,?_,λx c e=>?_,λp hp=>?_,hok,I.len⟩
 ·exact keep b o (neL b o e) hb (neC b o e hx) (I.base.keep b o e n hb hx) (I.base.free b o e n hx)
 ·obtain⟨sl,e1⟩:=I.base.slot b o e n hb hx;obtain⟨sl',e2⟩:=slot b _ (neL b o e) hb (neC b o e hx) e1 (I.base.free b o e n hx);exact⟨sl',e2⟩
 ·obtain⟨o',e1⟩:=I.base.there b o e hx;exact free b o' (neC b o e hx) e1 (I.base.free b o e n hx)
 ·obtain⟨o',e1⟩:=I.base.there b o e hx;exact there b o' (neC b o e hx) e1
 ·obtain⟨m1,e1⟩:=I.base.tbls b ps e;obtain⟨m2,e2⟩:=tbls b _ e1;exact⟨m1++m2,by rw[e2,Array.append_assoc]⟩
 ·obtain⟨m,hn,hl⟩:=I.loc;refine⟨m,ns m hn,λi x v e1 e2 e3=>?_⟩;obtain⟨u,r,l⟩:=hl i x v e1 e2 e3;refine⟨u,r,?_⟩;rcases l with l | ⟨k,c,e,z⟩
  ·exact .inl l
  ·exact .inr ⟨k,c,e,cellK x c e _ z⟩
 ·obtain⟨v,z⟩:=I.cell x c e;exact⟨v,cellK x c e v z⟩
 ·obtain⟨m,⟨o,_,_,ho,_⟩,_⟩:=I.loc;exact free _ o (λz=>(hch _ z).2.1 rfl) ho I.free
 ·obtain⟨v,o,ho,hd⟩:=I.cell x c e;exact free c o (λz=>(hch c z).2.2.1 x c e rfl) ho (I.freeC x c e)
 ·obtain⟨e,n,ne,nf,d⟩:=I.pin p hp;have nch:p.1∉ch:=λz=>(hch p.1 z).2.2.2 p hp rfl
  exact⟨keep p.1 p.2 ne nf nch e n,free p.1 p.2 nch e n,ne,nf,d⟩
theorem Inv.callN{g':Array GenState}{t':Nat}{d':Drawn}{ch:List Addr}(I:Inv X pins σ H s)(u:Un (frs X.stack) ch H H' s.heap h')(hok:HOk X.prog X.w H' h')(hg:AllBare g')
  (hch:∀b∈ch,(b∈X.ex\/X.s₀.heap.get? b=none)/\b≠X.env.locals/\(∀x c,X.env.cells.lookup x=some c->c≠b)/\∀p∈X.pn++pins,p.1≠b):
  Inv X pins σ H' { s with heap:=h',gens:=g',drawn:=d',toks:=t' }:=by
 obtain⟨m,⟨o,es,ep,ho,r⟩,_⟩:=id I.loc;obtain⟨sl,hL⟩:=u.any ho I.free λz=>(hch _ z).2.1 rfl
 exact I.stepN (ch:=ch) hch (λb o hL hb hc e n=>u.keep b o e n (λz=>(List.mem_cons.mp (I.stkSub b z)).elim hL hb) hc) (λb o _ _ hc e n=>u.any e n hc) (λb o hc e n=>u.free b o e n hc) (λb o hc e=>u.there b o e hc) u.tups u.frzs u.tbls (λm' hm=>by
  obtain⟨o',es',ep',ho',r'⟩:=hm;rw[ho]at ho';cases ho';exact⟨_,es',ep',hL,r'⟩) hok hg
end
end L2
namespace L3
open PySem PySem.Spec PyProof.Rows L2
theorem kjr{e:Value}{env env0:Env}(h:env.frame=env0.frame):noteFrame e env=noteFrame e env0:=by
 unfold noteFrame PySem.frameOf;rw[h]
structure Fl0 (h:Heap)(x:Addr)(C:Value)(vs:Array Value):Prop where
 ob:h.get? x=some { cls:=C,data:=.fields vs }
 sz:1<vs.size
structure FlT (h:Heap)(x T:Addr)(C:Value)(fl:Value):Prop where
 ex:∃vs,h.get? x=some { cls:=C,data:=.fields vs }/\vs[1]?=some (.ref T)
 tb:∃oT ts,h.get? T=some oT/\oT.data=.fields ts/\ts[3]?=some fl
 ne:T≠x
structure Chg (fs ch:List Addr)(h h':Heap):Prop where
 keep:∀b o,h.get? b=some o->b∉fs->b∉ch->h'.get? b=some o
 slot:∀b o,h.get? b=some o->b∉ch->∃sl,h'.get? b=some { cls:=o.cls,dict:=o.dict,data:=o.data,slots:=sl }
 size:h.objs.size<=h'.objs.size
theorem Chg.trans{fs ch ch':List Addr}{h h1 h2:Heap}(a:Chg fs ch h h1)(b:Chg fs ch' h1 h2)(hc:∀x∈ch',x∈ch\/h.get? x=none):Chg fs ch h h2 where
 keep:=λx o e h1 h2=>b.keep x o (a.keep x o e h1 h2) h1 λz=>(hc x z).elim h2 λq=>by rw[q]at e;cases e
 slot:=λx o e hn=>by
  obtain⟨sl,e1⟩:=a.slot x o e hn;obtain⟨sl2,e2⟩:=b.slot x _ e1 λz=>(hc x z).elim hn λq=>by rw[q]at e;cases e
  exact⟨sl2,e2⟩
 size:=Y2 a.size b.size
theorem Chg.mono{fs ch ch':List Addr}{h h1:Heap}(a:Chg fs ch h h1)(hc:∀x∈ch,x∈ch'):Chg fs ch' h h1:=⟨λb o e h1 h2=>a.keep b o e h1 λz=>h2 (hc b z),λb o e h2=>a.slot b o e λz=>h2 (hc b z),a.size⟩
theorem Chg.of_upd{fs : List Addr}{h : Heap}{a : Addr}{f : Obj -> Obj}: Chg fs [a] h (h.update a f):=
  ⟨λb o e _ hn => by rw[Yo _ _ _ _ (λz => hn (List.mem_singleton.mpr z))]; exact e,
   λb o e hn => ⟨o.slots, by rw[Yo _ _ _ _ (λz => hn (List.mem_singleton.mpr z))]; exact e⟩, by rw[Heap.size_update]; exact X8 _⟩
theorem Chg.of_push{fs:List Addr}{h:Heap}{o:Obj}:Chg fs [] h (h.push o):=
 ⟨λb o e _ _=>X6 _ e,λb o e _=>⟨o.slots,X6 _ e⟩,by rw[Heap.size_push];omega⟩
theorem Chg.of_slots{fs:List Addr}{h h':Heap}(s:Heap.SlotsOnly fs h h'):Chg fs [] h h' :=
 ⟨λb o e hn _=>(s.2.1 b hn).trans e,λb o e _=>s.2.2 b o e,by rw[s.1];exact X8 _⟩
theorem Chg.refl{fs ch:List Addr}{h:Heap}:Chg fs ch h h:=⟨λ_ _ e _ _=>e,λb o e _=>⟨o.slots,e⟩,X8 _⟩
section
variable {M:Model}{A:Around}{E:Value->Shared->Prop}{s:Shared}{base:Heap}{env:Env}{outer:List Env}{L x T:Addr}{C fl:Value}
theorem kww{head:Value}{hadNext:Bool}{vs:Array Value}{Q:Unit->Shared->Prop}(hA:A.frames=some (env::outer))(hF:s.heap.FunFrames base (env::outer))(hL:env.frame=some L)(ho:Fl0 s.heap x C vs)
  (h:∀h' T',Chg (frs (env::outer)) [x] s.heap h'->s.heap.objs.size<=T'->FlT h' x T' C (rawInt ↑L)->Q () { s with heap:=h' }):
  wpAny M A (do
   let a <-PySem.frameOf env
   let pl <-entryPlaceOf L hadNext
   let b <-EntryCells.newEntry head a Value.none (rawInt ↑L) Value.none pl
   setField (Value.ref x) 1 b) Q E s:=by
 refine X1 (wpAny_frameOf_fun hA hF hL λh1 s1=>?_);have hx:x∉frs (env::outer):=λz=>by
  obtain⟨_,o,e,hn⟩:=hF.mem z;rw[ho.ob]at e;cases e;exact hn _ rfl
 have o1:h1.get? x=some { cls:=C,data:=.fields vs }:=(s1.2.1 x hx).trans ho.ob;have fin:∀pl:List Value,IsPlace pl->wpAny M A (do
   let b <-EntryCells.newEntry head (Value.ref L) Value.none (rawInt ↑L) Value.none pl
   setField (Value.ref x) 1 b) Q E { s with heap:=h1 }:=λpl hpl=>by
  refine X1 ?_;unfold EntryCells.newEntry newFields;have har:([head,Value.ref L,Value.none,rawInt ↑L,Value.none]++if pl.isEmpty=true then List.replicate 6 Value.none else pl).toArray[3]?=some (rawInt ↑L):=by simp
  have hsz:([head,Value.ref L,Value.none,rawInt ↑L,Value.none]++if pl.isEmpty=true then List.replicate 6 Value.none else pl).toArray.size<=sizeLine+2:=by
   rcases hpl with rfl | ⟨_,_,_,_,_,_,_,rfl⟩<;>simp<;>decide
  generalize ([head,Value.ref L,Value.none,rawInt ↑L,Value.none]++if pl.isEmpty=true then List.replicate 6 Value.none else pl).toArray=ar at har hsz;refine Y0 ?_ hsz;have o2:(h1.push { cls:=.type "traceback",data:=.fields ar }).get? x=some { cls:=C,data:=.fields vs }:=X6 _ o1;refine wpAny_setField (s:={ s with heap:=h1.push _ }) o2 rfl ho.sz ?_;have hne:h1.objs.size≠x:=λe=>absurd (Xh o1) (by rw[<-e];exact Yc _)
  have o3:((h1.push { cls:=.type "traceback",data:=.fields ar }).update x (Obj.mapFields λy=>y.setIfInBounds 1 (.ref h1.objs.size))).get? h1.objs.size=some { cls:=.type "traceback",data:=.fields ar }:=by
   rw[Yo _ _ _ _ hne];exact Xl _ rfl
  refine h _ h1.objs.size (((Chg.of_slots s1).mono (λ_ z=>nomatch z)).trans ((Chg.of_push.mono λ_ z=>nomatch z).trans (ch:=[x]) Chg.of_upd λy hy=>.inl hy) λy hy=>.inl hy) (by rw[s1.1];exact X8 _) ⟨⟨vs.setIfInBounds 1 (.ref h1.objs.size),?_,Array.getElem?_setIfInBounds_self_of_lt ho.sz⟩,⟨_,_,o3,rfl,har⟩,hne⟩;exact Heap.get?_update_self _ o2 rfl
 exact X1 (wpAny_entryPlaceOf λpl hpl=>fin pl hpl)
theorem wvo{vs:Array Value}{Q:Unit->Shared->Prop}(hA:A.frames=some (env::outer))(hF:s.heap.FunFrames base (env::outer))(hL:env.frame=some L)(ho:Fl0 s.heap x C vs)(hv:vs[1]?=some .none)
  (h:∀h' T',Chg (frs (env::outer)) [x] s.heap h'->s.heap.objs.size<=T'->FlT h' x T' C (rawInt ↑L)->Q () { s with heap:=h' }):wpAny M A (noteFrame (.ref x) env) Q E s:=by
 unfold noteFrame;rw[hL];refine X1 (Yx ho.ob rfl hv ?_);exact kww (hadNext:=false) hA hF hL ho h
theorem upd3{T:Addr}{oT:Obj}{ts:Array Value}{v:Value}{h:Heap}(e:h.get? T=some oT)(ed:oT.data=.fields ts)(h3:3<ts.size):
  ∃o' ts',(h.update T (Obj.mapFields λy=>y.setIfInBounds 3 v)).get? T=some o'/\o'.data=.fields ts'/\ts'[3]?=some v:=by
 obtain⟨c,d,dt,sl⟩:=oT;cases(show dt=.fields ts from ed);exact⟨_,ts.setIfInBounds 3 v,Heap.get?_update_self _ e rfl,rfl,Array.getElem?_setIfInBounds_self_of_lt h3⟩
theorem wvn{Q:Unit->Shared->Prop}(hA:A.frames=some (env::outer))(hF:s.heap.FunFrames base (env::outer))(hL:env.frame=some L)(f:FlT s.heap x T C fl)
  (h:∀h' T',Chg (frs (env::outer)) [x,T] s.heap h'->(s.heap.objs.size<=T'\/T'=T)->FlT h' x T' C (rawInt ↑L)->Q () { s with heap:=h' }):wpAny M A (noteFrame (.ref x) env) Q E s:=by
 obtain⟨⟨vs,e1,v1⟩,⟨oT,ts,e2,d2,v2⟩,hne⟩:=f;have h3:3<ts.size:=by
  rw[Array.getElem?_eq_some_iff]at v2;exact v2.1
 have h1:1<vs.size:=by
  rw[Array.getElem?_eq_some_iff]at v1;exact v1.1
 unfold noteFrame;rw [hL];refine X1 (Yx e1 rfl v1 ?_);show wpAny M A (if((Value.ref T != Value.none)=true)then _ else _) Q E s;rw [Xf (show(Value.ref T != Value.none)=true from rfl)];refine X1 (Yx e2 d2 v2 ?_)
 by_cases hf:(fl==rawInt ↑L)=true
 ·rw[Xf hf];have e:fl=rawInt ↑L:=eq_of_beq hf;subst e;exact X5 (h s.heap T Chg.refl (.inr rfl) ⟨⟨vs,e1,v1⟩,⟨oT,ts,e2,d2,v2⟩,hne⟩)
 ·rw[Xj hf];refine X1 (wpAny_setField e2 d2 h3 ?_);have c1:Chg (frs (env::outer)) [x,T] s.heap (s.heap.update T (Obj.mapFields λy=>y.setIfInBounds 3 Value.none)):=Chg.of_upd.mono λy hy=>by
   rw[List.mem_singleton.mp hy];simp
  have e1':(s.heap.update T (Obj.mapFields λy=>y.setIfInBounds 3 Value.none)).get? x=some { cls:=C,data:=.fields vs }:=by
   rw[Yo _ _ _ _ hne.symm];exact e1
  have hF':(s.heap.update T (Obj.mapFields λy=>y.setIfInBounds 3 Value.none)).FunFrames base (env::outer):=by
   refine hF.of_keeps λb o e hn=>⟨o,?_,rfl⟩
   rw[Yo _ _ _ _ λz=>?_]
   ·exact e
   ·rw[z,e2]at e;cases e;exact hn _ d2
  refine kww (s:={ s with heap:=s.heap.update T _ }) (hadNext:=true) hA hF' hL ⟨e1',h1⟩ λh' T' c2 hs f'=>?_
  refine h h' T' (c1.trans (c2.mono (ch':=[x,T]) λy hy=>by rw[List.mem_singleton.mp hy];simp) λy hy=>.inl hy) (.inl ?_) f';rw[Heap.size_update]at hs;exact hs
theorem wkj{Q:Unit->Shared->Prop}{fr:Option Addr}(f:FlT s.heap x T C fl)(h:∀h',Chg (frs outer) [x,T] s.heap h'->FlT h' x T C (fr.elim Value.none λf=>rawInt ↑f)->Q () { s with heap:=h' }):wpAny M A (setFlight (.ref x) fr) Q E s:=by
 obtain⟨⟨vs,e1,v1⟩,⟨oT,ts,e2,d2,v2⟩,hne⟩:=f;have h3:3<ts.size:=by
  rw[Array.getElem?_eq_some_iff]at v2;exact v2.1
 unfold setFlight;refine X1 (Yx e1 rfl v1 ?_);rw[Xf (show(Value.ref T != Value.none)=true from rfl)];refine wpAny_setField e2 d2 h3 (h _ (Chg.of_upd.mono λy hy=>by rw[List.mem_singleton.mp hy];simp) ⟨⟨vs,?_,v1⟩,upd3 e2 d2 h3,hne⟩);rw[Yo _ _ _ _ hne.symm];exact e1
end
structure XCls (K:PySem.W.Frag)(C:Addr):Prop where
 ga:PySem.W.findIn K (.ref C) "__getattribute__"=some (some (.builtin "BaseException.__getattribute__"))
 gt:PySem.W.findIn K (.ref C) "__getattr__"=some none
 fo:PySem.W.findObj K C none "__class__"=some (.bind (.builtin "getset_descriptor.__get__") (.builtin "object.__class__"))
 ob:PySem.W.mroIn K C (.type "object")=some true
 bx:PySem.W.mroIn K C (.type "BaseException")=some true
 cl:(PySem.W.clsIn K C).isSome=true
section
variable {P:Program}{w:World}{A:Around}{E:Value->Shared->Prop}{s:Shared}{K:PySem.W.Frag}{x C:Addr}{ox:Obj}
theorem Lk{α:Type}{M:Model}{A:Around}{E:Value->Shared->Prop}{s:Shared}{t:Sem α}{r:α}{Q:α->Shared->Prop}(l:PySem.W.Looks M s.heap t r)(q:Q r s):wpAny M A t Q E s:=l A Q E s (λ_ _ e=>e) q
end
def FpX(X:Cx)(pins:List (Addr×Obj))(H:Hp)(b:Addr):Prop :=
 H b=none/\b≠X.env.locals/\b∉X.fs/\(b∈X.ex\/X.s₀.heap.get? b=none)/\(∀x c,X.env.cells.lookup x=some c->c≠b)/\∀p∈X.pn++pins,p.1≠b
section
variable {X:Cx}{pins:List (Addr×Obj)}{σ:L2.St}{H:Hp}{s:Shared}
theorem vj0{P:Program}{w:World}{H:Hp}{h:Heap}{b:Addr}(k:HOk P w H h)(e:h.get? b=none):H b=none:=by
 cases q:H b with
 | none=>rfl
 | some u =>
  obtain⟨o,z⟩:=(k b u q).obj;rw[e]at z;cases z
theorem fpX{H':Hp}{b:Addr}(I:Inv X pins σ H s)(hb:s.heap.get? b=none)(hn:H' b=none):FpX X pins H' b:=by
 refine⟨hn,λz=>?_,λz=>?_,?_,λx c e z=>?_,λp hp z=>?_⟩
 ·obtain⟨m,⟨o,_,_,ho,_⟩,_⟩:=I.loc;rw[<-z,hb]at ho;cases ho
 ·obtain⟨_,o,e,_⟩:=I.ok.funs.mem z
  by_cases hx:b∈X.ex
  ·exact I.ok.exfs b hx z
  ·obtain⟨o',e'⟩:=I.base.there b o e hx;rw[hb]at e';cases e'
 ·by_cases hx:b∈X.ex
  ·exact .inl hx
  ·cases e:X.s₀.heap.get? b with
   | none=>exact .inr rfl
   | some o =>
    obtain⟨o',e'⟩:=I.base.there b o e hx;rw[hb]at e';cases e'
 ·obtain⟨v,o,ho,_⟩:=I.cell x c e;rw[z,hb]at ho;cases ho
 ·have:=(I.pin p hp).1;rw[z,hb]at this;cases this
theorem FpX.of{b:Addr}(h:kku X pins H b):FpX X pins H b:=⟨h.1,h.2.1,h.2.2.1,h.2.2.2.1.imp id λz=>Heap.get?_none_of_le z,h.2.2.2.2⟩
theorem kxy{h':Heap}{ch:List Addr}(I:Inv X pins σ H s)(c:Chg (frs X.stack) ch s.heap h')(hf:∀b∈ch,FpX X pins H b):Inv X pins σ H { s with heap:=h' }:=by
 refine I.callN (g':=s.gens) (t':=s.toks) (d':=s.drawn) (ch:=ch) ⟨λb o e _ h1 h2=>c.keep b o e h1 h2,λb o e _ _ h2=>c.slot b o e h2,λ_ _ _ n _=>n,λb o e h2=>?_,λ_ _ e=>e,λ_ _ _ e=>e,λ_ _ e=>⟨#[],by rw[e];simp⟩⟩ (λb u e=>?_) I.bare λb hb=>?_
 ·obtain⟨sl,q⟩:=c.slot b o e h2;exact⟨_,q⟩
 ·have no:∀d v,H d=some v->d∉frs X.stack/\d∉ch:=λd v e=>⟨λz=>(by rw[I.stkFree d z]at e;cases e),λz=>(by rw[(hf d z).1]at e;cases e)⟩
  refine(I.hok b u e).stay (λd v hc q=>?_) (λ_ q=>q) λ_ _ q=>q
  rcases hc with z | z
  ·rw[z]at q ⊢;exact c.keep b v q (no b u e).1 (no b u e).2
  ·exact c.keep d v q (no d _ z).1 (no d _ z).2
 ·obtain⟨_,f1,_,f3,f4,f5⟩:=hf b hb;exact⟨f3,f1,f4,f5⟩
end
structure Fx (X:Cx)(pins:List (Addr×Obj))(H:Hp)(h:Heap)(x:Addr)(C:Value):Prop where
 fp:FpX X pins H x
 st:(∃vs,Fl0 h x C vs/\vs[1]?=some .none)\/∃T fl,FlT h x T C fl/\FpX X pins H T
structure Xt (X:Cx)(pins:List (Addr×Obj))(σ:L2.St)(H:Hp)(x T:Addr)(C fl:Value)(s:Shared):Prop where
 inv:Inv X pins σ H s
 fx:FpX X pins H x
 fT:FpX X pins H T
 f:FlT s.heap x T C fl
theorem Xt.to{X:Cx}{pins:List (Addr×Obj)}{σ:L2.St}{H:Hp}{x T:Addr}{C fl:Value}{s:Shared}(h:Xt X pins σ H x T C fl s):Fx X pins H s.heap x C:=⟨h.fx,.inr ⟨T,fl,h.f,h.fT⟩⟩
def Xo(X:Cx)(E:XK)(e:Value)(s:Shared):Prop:=∃pins σ H x C,e=.ref x/\Inv X pins σ H s/\Fx X pins H s.heap x C/\E C none H
def qkr(X:Cx)(E:XK):Prop:=∀pins σ H s x C,Inv X pins σ H s->Fx X pins H s.heap x C->E C none H->X.xe (.ref x) s
abbrev Cx.ex'(X:Cx)(E:XK):Cx:=X.wish (Xo X E)
theorem jjl{X:Cx}{E:XK}:qkr (Cx.ex' X E) E:=λpins σ H s x C I f q=>⟨pins,σ,H,x,C,rfl,I.unwish,⟨f.fp,f.st⟩,q⟩
def qku(X:Cx):Prop:=∃env0 out,X.stack=env0::out/\X.env.frame=env0.frame
section
variable {X:Cx}{pins:List (Addr×Obj)}{σ:L2.St}{H:Hp}{s:Shared}{M:Model}{E':Value->Shared->Prop}{x T:Addr}{C fl:Value}
theorem qj2{A:Around}{Q:Unit->Shared->Prop}(top:qku X)(hA:A.frames=X.A.frames)(I:Inv X pins σ H s)(f:Fx X pins H s.heap x C)(h:∀L T s',X.env.frame=some L->Xt X pins σ H x T C (rawInt ↑L) s'->Q () s'):
  wpAny M A (noteFrame (.ref x) X.env) Q E' s:=by
 obtain⟨env0,out,e1,e2⟩:=top;have hF:=I.stack;have hfr:A.frames=some (env0::out):=by rw[hA,I.ok.frames,e1]
 rw[e1]at hF;obtain⟨_,⟨L,o,hL,_⟩,_⟩:=id hF;rw[kjr e2];have hL':X.env.frame=some L:=e2.trans hL;rcases f.st with⟨vs,f0,hv⟩| ⟨T,fl,fT,pT⟩
 ·refine wvo hfr hF hL f0 hv λh' T' c hs fl'=>h L T' _ hL' ⟨?_,f.fp,fpX I (Heap.get?_none_of_le hs) (I.hok.fresh hs),fl'⟩
  rw[<-e1]at c;exact kxy I c λb hb=>by rw[List.mem_singleton.mp hb];exact f.fp
 ·refine wvn hfr hF hL fT λh' T' c hs fl'=>?_
  rw[<-e1]at c;refine h L T' _ hL' ⟨kxy I c λb hb=>?_,f.fp,?_,fl'⟩
  ·simp only[Xu,Xm,or_false]at hb;rcases hb with rfl | rfl
   ·exact f.fp
   ·exact pT
  ·rcases hs with hs | hs
   ·exact fpX I (Heap.get?_none_of_le hs) (I.hok.fresh hs)
   ·rw[hs];exact pT
theorem jxh{A:Around}{Q:Unit->Shared->Prop}{fr:Option Addr}(t:Xt X pins σ H x T C fl s)(h:∀s',Xt X pins σ H x T C (fr.elim Value.none λf=>rawInt ↑f) s'->Q () s'):wpAny M A (setFlight (.ref x) fr) Q E' s:=by
 refine wkj (outer:=X.stack) t.f λh' c fl'=>h _ ⟨kxy t.inv c λb hb=>?_,t.fx,t.fT,fl'⟩
 simp only[Xu,Xm,or_false]at hb;rcases hb with rfl | rfl
 ·exact t.fx
 ·exact t.fT
theorem wj9{α:Type}{A:Around}{what:String}{cenv:Env}{Q:α->Shared->Prop}(t:Xt X pins σ H x T C fl s)(h:∀s' fl',Xt X pins σ H x T C fl' s'->E' (.ref x) s'):wpAny M A (PySem.passOn what (.ref x) cenv:Sem α) Q E' s:=by
 unfold PySem.passOn;obtain⟨vs,e1,v1⟩:=t.f.ex;refine X1 (Yx e1 rfl v1 ?_);rw[Xj (show ¬(Value.ref T==Value.none)=true by intro z;cases z)];refine X1 (jxh t λs' t'=>?_);exact wpAny_throw (h s' _ t')
theorem wjb{E:XK}(top:qku X):PassesOwn M X.A X.env (Xo X E):=by
 rintro e s' ⟨pins,σ,H,x,C,rfl,I,f,q⟩;unfold notedBy;refine qj2 top rfl I f λL T s1 _ t=>?_
 unfold cameBackBy;obtain⟨vs,e1,v1⟩:=t.f.ex;refine X1 (Yx e1 rfl v1 ?_);rw[Xj (show ¬(Value.ref T==Value.none)=true by intro z;cases z)];exact jxh t λs2 t2=>⟨pins,σ,H,x,C,rfl,t2.inv,t2.to,q⟩
end
def CXE(P:Program)(w:World):CXT:=λouter H s E e s'=>∃x T C fl H',e=.ref x/\s'.os=s.os/\AllBare s'.gens/\Un (frs outer) [] H H' s.heap s'.heap/\HOk P w H' s'.heap /\
 s.heap.get? x=none/\s.heap.get? T=none/\H' x=none/\H' T=none/\FlT s'.heap x T C fl/\E C none H'
theorem wvj{X:Cx}{E:XK}(g:qkr X E):qxj (CXE X.prog X.w) X E:=by
 rintro pins σ H s e s' I ⟨x,T,C,fl,H',rfl,os,bare,un,hok,hx,hT,nx,nT,f,q⟩;refine g pins σ H' s' x C (I.call' os un hok bare λb hb=>nomatch hb) ⟨fpX I hx nx,.inr ⟨T,fl,f,fpX I hT nT⟩⟩ q
theorem vq7{CX:CXT}{P:Program}{w:World}{K:PySem.W.Frag}{mg:Str->Option Value}{base:Heap}{N:List Str}{qual:Str}{scope:Scope}{f:Addr}{cd:Value}{A:Around}{outer:List Env}{s:Shared}{H:Hp}{E:XK}:
  qku (qwy CX P w K mg base N qual scope f cd A outer s H E):=⟨_,_,rfl,rfl⟩
theorem qvs{P:Program}{w:World}{K:PySem.W.Frag}{mg:Str->Option Value}{base:Heap}{N:List Str}{qual:Str}{scope:Scope}{f:Addr}{cd:Value}{A:Around}{outer:List Env}{s:Shared}{H:Hp}{E:XK}{e:Value}{s':Shared}
  (h:Xo (qwy (CXE P w) P w K mg base N qual scope f cd A outer s H E) E e s'):(qwy (CXE P w) P w K mg base N qual scope f cd A outer s H E).xe e s':=by
 obtain⟨pins,σ,H',x,C,rfl,I,fx,q⟩:=h;show wpAny (model P w) _ (leaving _ (.ref x)) _ _ s';unfold leaving;refine X1 (qj2 (X:=qwy (CXE P w) P w K mg base N qual scope f cd A outer s H E) vq7 rfl I fx λL T s1 _ t=>?_);refine jxh t λs2 t2=>?_
 have ge:∀b,FpX (qwy (CXE P w) P w K mg base N qual scope f cd A outer s H E) pins H' b->s.heap.get? b=none:=λb hb=>hb.2.2.2.1.elim (λz=>nomatch z) λz=>z
 exact⟨x,T,C,_,H',rfl,t2.inv.os,t2.inv.bare,t2.inv.base,t2.inv.hok,ge x t2.fx,ge T t2.fT,t2.fx.1,t2.fT.1,t2.f,q⟩
section
variable {P:Program}{w:World}{K:PySem.W.Frag}{mg:Str->Option Value}{base:Heap}
theorem jjn{x qual:Str}{st:Stmt}{f:Addr}{fd:FuncData}{N ps:List Str}{k:Nat}{sp:Sp}(F:Fun K x qual st f fd)(S:FnScope N ps (jj9 st))(len:∀vs H Q E,sp vs H Q E->vs.length=ps.length)
  (hbody:∀(cdv:Value) (A:Around) (outer:List Env) (s:Shared) (H:Hp) (vs:List V) (Q:VK) (E:XK),Room k (A.deeper (envOfC qual (jj9 st) s.heap.objs.size f cdv))->sp vs H Q E ->
   ∃t,PSs (Cx.ex' (qwy (CXE P w) P w K mg base N qual (jj9 st) f cdv A outer s H E) E) (jvc st) t/\t { nx:=λ_ H'=>Q .non H',rt:=Q } (L2.start N vs) H):FnOk P w K mg base (CXE P w) (k+1) f fd ps sp:=by
 obtain⟨oc,od,kV,doc,pm,an,cdv,ct,osl,rfl,lk,hcd⟩:=F.ex;refine wvy lk hcd S len λA outer s H vs Q E hr hsp=>?_
 obtain⟨t,h,q⟩:=hbody cdv A outer s H vs Q E hr hsp;exact⟨t,λpins s' σ H' D I hw=>wpAny_mono (h pins s' σ H' D (I.wish _) hw) (λf s'' z=>z.unwish) λe s'' z=>qvs z,q⟩
def jwh(P:Program)(w:World)(K:PySem.W.Frag)(mg:Str->Option Value)(base:Heap)(k:Nat)(x:Str)(ps:List Str)(sp:Sp):Prop :=
 ∃(f:Addr) (fd:FuncData),FnOk P w K mg base (CXE P w) k f fd ps sp/\Binds K fd ps []/\PySem.W.keepIn K (.ref f)=true/\mg x=some (.ref f)
end
section
variable {X:Cx}{x:Str}{p pos:Pos}{e:Expr}{es:List Expr}{t:TA}{ps:List Str}{sp:Sp}{k:Nat}{v:V}{E:XK}
theorem vk1(D:jwh X.prog X.w X.K X.mg X.base k x ps sp)(hr:Room k X.A)(g:qkr X E)(ha:PA X (e::es) t)(hg:Gl X x:=by rfl)(hdb:(x==("__debug__":Str))=false:=by decide)
  (he:starEach (e::es) X.env=(false,eval e X.env)::starEach es X.env:=by rfl) (hpl:(backTo pos (starEach es X.env)).any (·.1)=false:=by rfl):
  PE X (.Call (.Name x p) (e::es) [] pos) (vq9 sp [] E t):=by
 obtain⟨f,fd,F,b,kp,m⟩:=D;exact vvd F hr hg m kp b .nil (wvj g) ha hdb he hpl
end
abbrev lcE(X:Cx)(scope:Scope)(N:List Str)(cl:List (Str×Addr))(C:Addr)(s0:Shared)(H0:Hp)(fp:List Addr)(EX:XK):Cx:=Cx.ex' (lcX X scope N cl C s0 H0 fp) EX
section
variable {prog:Program}{w:World}{A:Around}{R:Result->Shared->Prop}{s:Shared}
theorem vvz{elt target iter:Expr}{ifs:List Expr}{scope:Scope}{pos:Pos}{it acc:Value}{env:Env}(Ex:Value->Shared->Prop)(I:Nat->Shared->Prop)
  (turn:∀n s,I n s->wpAny (model prog w) A (pyNext it) (λr s1=>match r with
   | none=>R (.ok .next) s1
   | some v=>wpAny (model prog w) A (letOwnedTupleGo target it v) (λ_ s2=>wpAny (model prog w) A (assign target env v) (λ_ s3 =>
     wpAny (model prog w) A (qvv ifs env) (λok s4 =>
      if ok=true then
       wpAny (model prog w) A (eval elt env) (λx s5=>wpAny (model prog w) A (call (.builtin "list.append") [acc,x]) (λ_ s6=>∃m,m<n/\I m s6) Ex s5) Ex s4
      else ∃m,m<n/\I m s4) Ex s3) Ex s2) Ex s1) Ex s)
  (hx:∀e s,Ex e s->notedBy (model prog w) A env (λe s'=>R (.error e) s') e s) (n:Nat) (h:I n s):codeAny (model prog w) A (.compLoop (.ListComp elt [⟨target,iter,ifs,0⟩] scope pos) 0 it acc env) R s:=by
 refine codeAny_loop rfl I (λn s hI=>?_) n h;show wpAny _ A ((compTurn (.ListComp elt [⟨target,iter,ifs,0⟩] scope pos) 0 it acc env).onRaise _) _ _ s;refine wpAny_noted ?_;rw[compTurn_list];refine wpAny_mono (E:=Ex) (X1 (wpAny_standAt (X1 (thn (turn n s hI) λr s1 h1=>?_)))) (λ_ _ q=>q) (λe s q=>?_)
 rotate_left
 ·exact hx e s q
 cases r with
 | none=>exact X5 h1
 | some v =>
  refine X1 (thn h1 λ_ s2 h2=>?_);refine X1 (thn h2 λ_ s3 h3=>?_);refine X1 (thn h3 λok s4 h4=>?_);cases ok with
  | false=>exact X5 ⟨rfl,h4⟩
  | true=>exact X1 (X1 (thn h4 λx s5 h5=>X1 (thn h5 λ_ s6 h6=>X5 (X5 ⟨rfl,h6⟩))))
end
section
variable {X:Cx}{tg iter elt:Expr}{ifs:List Expr}{scope:Scope}{N:List Str}{k:Nat}{R:List Nat}{g:TG}{tt:TT}{te:TE}{pos:Pos}
theorem vkb{EX:XK}{pins pins':List (Addr×Obj)}{σ σ':L2.St}{H2 H':Hp}{s2 s':Shared}{fp:List Addr}{cl:List (Str×Addr)}{C x T:Addr}{Cc fl:Value}{Q:Value->Shared->Prop}{acc:Value}{use:Option (Value->Sem Unit)}(gx:qkr X EX)
  (I2:Inv X pins σ H2 s2) (f2:∀b∈fp,kku X pins H2 b) (hC:s2.heap.objs.size<=C) (t:Xt (lcX X scope N cl C s2 H2 fp) pins' σ' H' x T Cc fl s') (q:EX Cc none H'):
  compPost (model X.prog X.w) X.A X.xe use Q acc C (.error (.ref x)) s':=by
 obtain⟨m,hn,_⟩:=t.inv.loc;refine⟨m,hn,λh' sb cenv _=>?_⟩;have J1:Inv X pins σ H' s':=I2.call' t.inv.os t.inv.base t.inv.hok t.inv.bare λb hb=>⟨(f2 b hb).2.2.2.1,(f2 b hb).2.1,(f2 b hb).2.2.2.2.1,(f2 b hb).2.2.2.2.2⟩
 have fC:kku X pins H' C:=I2.fpOk hC t.inv.free;have J2:Inv X pins σ H' { s' with heap:=h',toks:=s'.toks }:=J1.turned (it:=C) (λb o hb e=>(sb.2 b hb).trans e) fC.1 fC.2.1 fC.2.2.2.1 fC.2.2.2.2.1 fC.2.2.2.2.2;have fp':∀b,FpX (lcX X scope N cl C s2 H2 fp) pins' H' b->FpX X pins H' b:=λb hb=>by
  rcases hb.2.2.2.1 with z | z
  ·exact⟨hb.1,(FpX.of (f2 b z)).2⟩
  ·exact fpX I2 z hb.1
 have nx:x≠C:=t.fx.2.1;have nT:T≠C:=t.fT.2.1;have f:FlT h' x T Cc fl:=by
  obtain⟨⟨vs,e1,v1⟩,⟨oT,ts,e2,d2,v2⟩,hne⟩:=t.f;exact⟨⟨vs,(sb.2 x nx).trans e1,v1⟩,⟨oT,ts,(sb.2 T nT).trans e2,d2,v2⟩,hne⟩
 refine wj9 (X:=X) (pins:=pins) (σ:=σ) (H:=H') (s:={ s' with heap:=h' }) ⟨J2,fp' x t.fx,fp' T t.fT,f⟩ λs3 fl' t3=>gx pins σ H' s3 x Cc t3.inv t3.to q
theorem kwo{EX:XK}{pins:List (Addr×Obj)}{σ:L2.St}{H2:Hp}{s2:Shared}{it:Addr}{fp:List Addr}{tn:Nat->Heap->Prop}{J:It}{Q:VK}{W:Nat->Nat->List V->L2.St->Hp->Prop}{cl:List (Str×Addr)}{E:Value->Shared->Prop}
  {RR:Value->Addr->Result->Shared->Prop} (hc:X.calm=true) (top:qku X) (sc:LcOk X scope N k R)
  (hcl:∀x c,cl.lookup x=some c->X.env.cells.lookup x=some c) (hfree:∀y∈scope.names,y.2=.free->∃c,cl.lookup y.1=some c)
  (hg:∀C s0 H0 fp,PG (lcE X scope N cl C s0 H0 fp EX) tg g) (ht:∀C s0 H0 fp,PTs (lcE X scope N cl C s0 H0 fp EX) ifs tt) (he:∀C s0 H0 fp,PE (lcE X scope N cl C s0 H0 fp EX) elt te)
  (I2:Inv X pins σ H2 s2) (T:Turn X.prog X.w X.K tg J fp it tn) (st2:tn 0 s2.heap) (f2:∀b∈fp,kku X pins H2 b) (w0:∃m,W 0 m [] (qvw k R σ) H2) (turn:LcW g tt te Q J W)
  (hRR:∀D C oC m ys H' s',Inv X (pins++[(C,oC)]) σ (upd H' D (.lst ys)) s'->s'.heap.get? C=some oC->s'.heap.Ns C m->kku X pins (upd H' D (.lst ys)) C->Q (.ref D) (upd H' D (.lst ys))->RR (.ref D) C (.ok .next) s')
  (hER:∀D C s' pins' σ' H' x T Cc fl,s2.heap.objs.size<=C->Xt (lcX X scope N cl C s2 H2 fp) pins' σ' H' x T Cc fl s'->EX Cc none H'->RR (.ref D) C (.error (.ref x)) s'):
  wpAny (model X.prog X.w) X.A (newList []) (λacc s3=>wpAny (model X.prog X.w) X.A (newFunctionEnv scope X.env.globals cl [] X.env.qual none .none (some X.env)) (λcenv s4 =>
   codeAny (model X.prog X.w) X.A (.compStart (.ListComp elt [⟨tg,iter,ifs,0⟩] scope pos) 0 (.ref it) acc { cenv with scope:=relabel scope X.env }) (RR acc cenv.locals) s4) E s3) E s2:=by
 have obj2:∀b∈fp,∃o,s2.heap.get? b=some o:=λb hb=>let ⟨o,e,_⟩:=T.obj 0 _ st2 b hb;⟨o,e⟩
 refine Y0 (wpAny_newFunctionEnv sc.nocell (by intro y hy;simp at hy) (λh1 hn1 sb1=>?_) sc.kind);dsimp only at hn1 sb1 ⊢;generalize eH:s2.heap.push { cls:=.type "list",dict:=none,data:=.seq ([]:List Value).toArray }=Hx at hn1 sb1 ⊢;have eC:Hx.objs.size=s2.heap.objs.size+1:=by rw[<-eH,Heap.size_push]
 generalize eD:s2.heap.objs.size=D at eC;generalize eC':Hx.objs.size=C at hn1 sb1 eC ⊢;have hDC:D≠C:=by omega
 have hC:s2.heap.objs.size<=C:=by omega
 have hD:s2.heap.objs.size<=D:=by omega
 have old:∀b o,s2.heap.get? b=some o->h1.get? b=some o:=λb o e=>by
  exact sb1.extBut b o (Xw (Xn (Xh e) hC)) (X6 _ (eH▸X6 _ e))
 have accD:h1.get? D=some (vx9 [] 0):=by
  refine sb1.extBut _ _ hDC (X6 _ ?_);rw [<-eH,<-eD];exact Xl _ rfl
 have below:∀b∈fp,b≠D/\b≠C:=λb hb=>by
  obtain⟨o,e⟩:=obj2 b hb;exact⟨Xw (Xn (Xh e) hD),Xw (Xn (Xh e) hC)⟩
 have stat:∀{H':Hp} {oD:Obj},(∀b∈fp,H' b=none)->∀b∈fp,kku (lcE X scope N cl C s2 H2 fp EX) [(D,oD)] H' b:=fun {H' oD} hn b hb=>by
  obtain⟨_,f1,f3,f4,f5,f6⟩:=f2 b hb;refine⟨hn b hb,(below b hb).2,λz=>?_,.inl hb,λx c h=>f5 x c (hcl x c h),λp hp=>?_⟩
  ·rcases List.mem_cons.mp (I2.stkSub b z)with y | y
   ·exact f1 y
   ·exact f3 y
  ·have e:p=(D,oD):=by
    have hp:p∈([]++[(D,oD)]:List (Addr×Obj)):=hp
    simpa using hp
   rw [e];exact(below b hb).1.symm
 have loop:∀s3:Shared,s3={ s2 with heap:=h1,toks:=s2.toks+([]:List (Str×Value)).length } ->
   codeAny (model X.prog X.w) X.A (.compLoop (.ListComp elt [⟨tg,iter,ifs,0⟩] scope pos) 0 (.ref it) (.ref D) (compEnvC scope cl C X.env)) (RR (.ref D) C) s3:=by
  rintro s3 rfl;obtain⟨m0,w0⟩:=w0;have hxx:∀e s,Xo (lcX X scope N cl C s2 H2 fp) EX e s->notedBy (model X.prog X.w) X.A (compEnvC scope cl C X.env) (λe s'=>RR (.ref D) C (.error e) s') e s:=by
   rintro e s ⟨pins',σ',H',x,Cc,rfl,I',f',q'⟩;have top':qku (lcX X scope N cl C s2 H2 fp):=top;exact qj2 (X:=lcX X scope N cl C s2 H2 fp) top' rfl I' f' λL T s1 _ t=>hER D C s1 pins' σ' H' x T Cc _ hC t q'
  refine vvz (Xo (lcX X scope N cl C s2 H2 fp) EX) (λn s'=>∃i ys its nn σ' H',Inv (lcE X scope N cl C s2 H2 fp EX) [(D,vx9 its nn)] σ' H' s'/\Vals ys its/\tn i s'.heap/\(∀b∈fp,H' b=none)/\W i n ys σ' H') ?_ hxx m0
   ⟨0,[],[],0,_,H2,(vvx I2 sc f2 obj2 hC hD hDC hcl hfree old hn1 accD (λv z=>by cases z)).wish _,.nil,T.keep _ _ _ st2 (λb hb o e=>old b o e),λb hb=>(f2 b hb).1,w0⟩
  rintro n s3 ⟨i,ys,its,nn,σ3,H3,I3,rv,st3,fr3,w3⟩;rcases turn i n ys σ3 H3 w3 with⟨stop,hz,qn⟩| ⟨go,step⟩
  ·refine thn (T.done (lcE X scope N cl C s2 H2 fp EX) rfl rfl rfl hc i _ s3 σ3 H3 _ I3 (stat fr3) st3 stop) λr s4 ⟨hr,I4⟩=>?_
   subst hr;show RR (.ref D) C (.ok .next) s4;have hD4:=I4.pin (D,vx9 its nn) (by show _∈([]++[(D,vx9 its nn)]:List (Addr×Obj));simp);have J1:Inv X pins σ H3 s4:=I2.call' I4.os I4.base I4.hok I4.bare λb hb=>⟨(f2 b hb).2.2.2.1,(f2 b hb).2.1,(f2 b hb).2.2.2.2.1,(f2 b hb).2.2.2.2.2⟩
   have fD:kku X pins H3 D:=I2.fpOk hD hD4.2.1;have fC:kku X pins H3 C:=I2.fpOk hC I4.free;have J2:Inv X pins σ (upd H3 D (.lst ys)) s4:=kjx J1 hD4.2.1 fD.2.1 fD.2.2.2.1 fD.2.2.2.2.1 fD.2.2.2.2.2 ⟨hz,its,nn,rv,hD4.1⟩;obtain⟨mC,nC,_⟩:=I4.loc;obtain⟨oC,es,ep,hoC,hdC,hrest⟩:=id nC;have fC':kku X pins (upd H3 D (.lst ys)) C:=⟨by rw[jjv hDC.symm];exact fC.1,fC.2⟩;refine hRR D C oC mC ys H3 s4 (J2.pins_of λp hp=>?_) hoC nC fC' (qn D hD4.2.1);rcases List.mem_append.mp hp with z | z
   ·exact J2.pin p (lr9 _ z)
   ·rw[List.mem_singleton.mp z];exact⟨hoC,fC'.1,fC'.2.1,fC'.2.2.1,λv y=>by rw[hdC]at y;cases y⟩
  ·refine thn (T.item (lcE X scope N cl C s2 H2 fp EX) rfl rfl rfl hc i _ s3 σ3 H3 _ I3 (stat fr3) st3 go) λr s4 ⟨u,hr,h4⟩=>?_
   subst hr;refine thn h4 λ_ s5 ⟨x,H5,I5,r5,y5,st5,fr5⟩=>?_
   have I5':=I5.pinned (stat fr5) (T.obj _ _ st5);have still:∀{σ':L2.St} {H':Hp} {s':Shared} {pl:List (Addr×Obj)},Inv (lcE X scope N cl C s2 H2 fp EX) (pl++jxc fp s5.heap) σ' H' s'->tn (i+1) s'.heap/\∀b∈fp,H' b=none:=fun {σ' H' s' pl} I'=>by
    have q:∀b∈fp,∀o,s5.heap.get? b=some o->s'.heap.get? b=some o/\H' b=none:=λb hb o e=>by
     obtain⟨a1,a2,_⟩:=I'.pin (b,o) (lr9 _ (lr9 _ (jzc hb e)));exact⟨a1,a2⟩
    refine⟨T.keep _ _ _ st5 λb hb o e=>(q b hb o e).1,λb hb=>?_⟩;obtain⟨o,e,_⟩:=T.obj _ _ st5 b hb;exact(q b hb o e).2
   refine thn (hg C s2 H2 fp _ s5 σ3 H5 x u _ I5' r5 (step x H5 y5)) λ_ s6 ⟨σ6,H6,I6,Ny,Nn,hNy,hNn,q6⟩=>?_
   refine thn (ht C s2 H2 fp _ s6 σ6 H6 _ I6 q6) λok s7 ⟨H7,I7,q7⟩=>?_
   cases ok with
   | false =>
    obtain⟨m',hm,w7⟩:=hNn _ q7;exact⟨m',hm,i+1,ys,its,nn,σ6,H7,I7.unpinned,rv,(still I7).1,(still I7).2,w7⟩
   | true =>
    refine thn (he C s2 H2 fp _ s7 σ6 H7 _ I7 q7) λu8 s8 ⟨y,H8,I8,r8,q8⟩=>?_
    obtain⟨hz,m',hm,w8⟩:=hNy _ _ q8;have pD:=I8.pin (D,vx9 its nn) (lr9 _ (ll9 _ (List.mem_singleton.mpr rfl)));have hlen:=rv.length;refine append_at (hsz:=by rw[Xa];omega) pD.1 λh9 sb9 e9=>?_
    have I8a:Inv (lcE X scope N cl C s2 H2 fp EX) ([]++jxc fp s5.heap) σ6 H8 s8:=I8.pins_of λp hp=>I8.pin p (lr9 _ (lr9 _ hp))
    have I9:Inv (lcE X scope N cl C s2 H2 fp EX) ([]++jxc fp s5.heap) σ6 H8 { s8 with heap:=h9,toks:=s8.toks }:=I8a.turned (it:=D) (λb o hb e=>(sb9.2 b hb).trans e) pD.2.1 hDC (.inr hD)
     (λx c h z=>by
      obtain⟨v,q⟩:=I2.cell x c (hcl x c h);exact absurd (Xn q.lt (by rw[z];exact hD)) (Yc _))
     (λp hp z=>by
      have hp:p∈([]++([]++jxc fp s5.heap):List (Addr×Obj)):=hp;have hp:p∈jxc fp s5.heap:=by simpa using hp
      exact(below p.1 (kwj hp).1).1 z)
    have e9':h9.get? D=some (vx9 (its++[u8]) (nn+1)):=by rw[e9];simp[List.push_toArray]
    refine⟨m',hm,i+1,ys++[y],its++[u8],nn+1,σ6,H8,I9.pins_of λp hp=>?_,rv.append (.cons r8 .nil),(still I9).1,(still I9).2,w8⟩;rw[List.mem_singleton.mp hp];exact⟨e9',pD.2.1,pD.2.2.1,pD.2.2.2.1,λv z=>by cases z⟩
 exact codeAny_compStart_list (loop _ rfl) (T.self _ 0 _ _ _ (T.keep _ _ _ st2 λb hb o e=>old b o e) (loop _ rfl))
theorem wj4{EX:XK}{wi:TI}(N:List Str)(k:Nat)(R:List Nat)(hi:PI X tg iter wi)
  (hg:∀cl C s0 H0 fp,PG (lcE X scope N cl C s0 H0 fp EX) tg g) (ht:∀cl C s0 H0 fp,PTs (lcE X scope N cl C s0 H0 fp EX) ifs tt) (he:∀cl C s0 H0 fp,PE (lcE X scope N cl C s0 H0 fp EX) elt te)
  (gx:qkr X EX) (top:qku X) (hc:X.calm=true:=by rfl) (hk:scope.kind=.function:=by rfl) (hsc:qkf X.N X.env.scope scope N k R=true:=by rfl) (hs:∀x,foldedSetIterable iter X.env x=pure x:=by intro _;rfl):
  PE X (.ListComp elt [⟨tg,iter,ifs,0⟩] scope pos) (tLC wi g tt te k R):=by
 intro pins s σ H Q I h;have sc:=qj8 hk hsc;obtain⟨cl,hclos,hcl,hfree⟩:=kqb (scope:=scope) (env:=X.env) λy hy e=>I.ok.has y.1 (sc.caps y hy e)
 rw[eval_ListComp];refine wpAny_comprehension_free (use:=none) rfl hs hclos sc.kind sc.names (thn (hi pins s σ H _ I h) λv s1 h1=>thn h1 λitv s2 h2=>?_);obtain⟨it,fp,tn,J,H2,e,I2,T,st2,f2,W,w0,turn⟩:=h2;subst e;refine kwo (EX:=EX) (RR:=λacc C=>compPost (model X.prog X.w) X.A X.xe none (EP X pins σ Q) acc C) hc top sc hcl hfree (hg cl) (ht cl) (he cl) I2 T st2 f2 w0 turn ?_ ?_
 rotate_left
 ·intro D C s' pins' σ' H' x T Cc fl hC t q;exact vkb gx I2 f2 hC t q
 intro D C oC m ys H' s' I' _ nC fC q;exact⟨m,nC,λh' sb=>⟨.ref D,_,I'.unpinned.turned (it:=C) (t':=s'.toks) (λb o hb e=>(sb.2 b hb).trans e) fC.1 fC.2.1 fC.2.2.2.1 fC.2.2.2.2.1 fC.2.2.2.2.2,rfl,q⟩⟩
end
abbrev bmV:List Value:=[.type "ValueError",.type "Exception",.type "BaseException",.type "object"]
structure ECls (K:PySem.W.Frag)(mg:Str->Option Value)(x:Str)(C:Addr):Prop where
 bd:mg x=some (.ref C)
 ec:PySem.W.excIn K C bmV "ValueError.__new__"=true
 xc:XCls K C
theorem vvf{K:PySem.W.Frag}{h:Heap}{C:Addr}{bmB:List Value}{newId:String}(KI:K.In h)(e:PySem.W.excIn K C bmB newId=true):
  ∃ bm N nm q bs hdct sn sub ab col dd k0 k1 k2 k3 k5 mN,h.get? C=some (excClassObj nm q C N bs bm hdct sn sub ab col dd k0 k1 k2 k3 k5 newId)/\h.Ns N mN/\mN "__init__"=none/\OwnTail h bmB bm:=by
 unfold PySem.W.excIn at e
 split at e
 ·rename_i dict cd sl hl
  split at e
  ·rename_i bm C' k0 k1 k2 k3 n k5 hm hs;simp only[Bool.and_eq_true,beq_iff_eq,Bool.not_eq_true']at e;obtain⟨⟨⟨⟨⟨e1,e2⟩,e3⟩,e4⟩,e5⟩,e6⟩:=e;subst e1 e2;have g:=KI _ _ hl;obtain⟨nm,bs,mro,ns,qn,hd,hdel,sn,sub,ab,col⟩:=cd;dsimp only at hm e3 e5 e6;subst hm e3;have hsl:sl=#[k0,k1,k2,k3,some (Value.builtin n),k5]:=by
    apply Array.toList_inj.mp;rw[hs]
   subst hsl;exact⟨_,ns,nm,qn,bs,hd,hdel,sn,sub,ab,dict,k0,k1,k2,k3,k5,h.nsMap ns,g,Heap.Ns.of_isNs (PySem.W.isNs_of_in KI e5),PySem.W.nsMap_none_of_in KI e5 e6,PySem.W.tail_of_in KI e4⟩
  ·cases e
 ·cases e
section
variable {X:Cx}{x:Str}{np cpos pos:Pos}{e:Expr}{es:List Expr}{ta:TA}{C:Addr}{E:XK}
abbrev vxp(E:XK)(C:Addr)(ta:TA):TS:=λ_ σ H=>ta σ H λvs H1=>vs.length<=sizeLine/\E (.ref C) none H1
theorem qzf(c:ECls X.K X.mg x C)(g:qkr X E)(ha:PA X (e::es) ta)(hg:Gl X x:=by rfl)(hc:X.calm=true:=by rfl)(hdb:(x==("__debug__":Str))=false:=by decide)
  (he:starEach (e::es) X.env=(false,eval e X.env)::starEach es X.env:=by rfl) (hpl:((backTo cpos (starEach (e::es) X.env)).any (·.1))=false:=by rfl):
  PS X (.Raise (some (.Call (.Name x np) (e::es) [] cpos)) none pos) (vxp E C ta):=by
 intro pins s σ H D I h;obtain⟨bm,N,nm,q,bs,hdct,sn,sub,ab,col,dd,k0,k1,k2,k3,k5,mN,o1,o2,o3,o4⟩:=vvf I.ok.mod.kin c.ec;refine wpAny_Raise_call_subT (nm:=nm) (q:=q) (C:=C) (N:=N) (bs:=bs) (bm:=bm) (hdct:=hdct) (sn:=sn) (sub:=sub) (ab:=ab) (col:=col) (dd:=dd) (k0:=k0) (k1:=k1) (k2:=k2) (k3:=k3) (k5:=k5) (bmB:=bmV) F.excBase_ValueError (o4.hasType (X:="BaseException") rfl) (I.ok.hd hc) hpl o3 (kjv I hg c.bd ⟨rfl,?_⟩ hdb);obtain⟨y0,r0,hpos⟩:∃y r,backTo cpos (starEach (e::es) X.env)=(false,y)::r:=by rw[he];exact⟨_,_,rfl⟩
 have hsp:=ha cpos pins s σ H _ I h;rw[hpos]at hsp ⊢;refine Calls.evalArgs_plain (thn hsp λus s2 ⟨vs,H1,I1,r1,q1⟩=>⟨rfl,by rw[<-r1.length];exact q1.1,I1.bk _ _ o1,?_,?_,λh' ea made=>?_⟩)
 ·obtain⟨o,es',ep,ho,r⟩:=o2;exact⟨o,es',ep,I1.bk _ _ ho,r⟩
 ·exact o4.keeps λb o e=>I1.bk b o e
 ·obtain⟨t,m1,m2,m3⟩:=made.there;have J:Inv X pins σ H1 { s2 with heap:=h',toks:=s2.toks }:=I1.kept made.keeps;exact g pins σ H1 _ ea (.ref C) J ⟨fpX I1 made.new (vj0 I1.hok made.new),.inl ⟨_,⟨m1,by show(1:Nat)<6;decide⟩,rfl⟩⟩ q1.2
def XX(X:Cx)(pins:List (Addr×Obj))(σ:L2.St)(E:XK)(e:Value)(s:Shared):Prop:=∃H x C,e=.ref x/\Inv X pins σ H s/\Fx X pins H s.heap x C/\E C none H
def PSX(X:Cx)(st:Stmt)(t:XK->TS):Prop:=∀(E:XK) (pins:List (Addr×Obj)) (s:Shared) (σ:L2.St) (H:Hp) (D:Ends),Inv X pins σ H s->t E D σ H->wpAny (model X.prog X.w) X.A (exec st X.env) (SP X pins D) (XX X pins σ E) s
def PEX(X:Cx)(ex:Expr)(t:XK->TE):Prop:=∀(E:XK) (pins:List (Addr×Obj)) (s:Shared) (σ:L2.St) (H:Hp) (Q:VK),Inv X pins σ H s->t E σ H Q->wpAny (model X.prog X.w) X.A (eval ex X.env) (EP X pins σ Q) (XX X pins σ E) s
theorem qzj{k:Nat}{ps:List Str}{sp:Sp}(D:jwh X.prog X.w X.K X.mg X.base k x ps sp)(hr:Room k X.A)(ha:PA X.nox (e::es) ta)(hg:Gl X x:=by rfl)(hdb:(x==("__debug__":Str))=false:=by decide)
  (he:starEach (e::es) X.env=(false,eval e X.env)::starEach es X.env:=by rfl) (hpl:(backTo pos (starEach es X.env)).any (·.1)=false:=by rfl):
  PEX X (.Call (.Name x np) (e::es) [] pos) (λE=>vq9 sp [] E ta):=by
 obtain⟨f,fd,F,hb,kp,m⟩:=D;intro E pins s σ H Q I h;refine Ys (kjv I hg m ?_ hdb);refine PySem.W.callWith_K (h₀:=X.base) I.ok.mod.kin kp (wpAny_mono (ha pos pins s σ H _ (I.wish _) h) (λus s1 ⟨vs,H1,I1,r,q⟩=>⟨I1.kIn,?_⟩) λ_ _ z=>z.elim) he hpl;have I1:=I1.unwish;have q:sp (vs++[]) H1 Q E:=q;have hl:us.length=ps.length:=by
  rw[<-r.length];have:=F.len _ _ _ _ q
  rwa [Xq]at this
 refine wpAny_call (codeAny_mono (F.run X.A X.stack s1 H1 ⟨us,[]⟩ us vs Q E hr I1.env0 (by have:=hb s1 us I1.kIn (by rw[Xq];exact hl);rwa [Xq]at this) r (by rwa [Xq]at q)) λrr s' hq=>?_);cases rr with
 | error e =>
  obtain⟨x,T,C,fl,H',rfl,os,bare,un,hok,hx,hT,nx,nT,f,q⟩:=hq;exact⟨H',x,C,rfl,I1.call' os un hok bare (λb hb=>nomatch hb),⟨fpX I1 hx nx,.inr ⟨T,fl,f,fpX I1 hT nT⟩⟩,q⟩
 | ok fl =>
  cases fl with
  | ret u=>exact I1.after hq
  | next=>exact False.elim hq
  | brk=>exact False.elim hq
  | cont=>exact False.elim hq
theorem qzc{ex:Expr}{t:XK->TE}(h:PEX X ex t)(hs:swapsWith ex none pos.line X.env=pure false:=by rfl):PSX X (.Expr ex pos) (λE=>vxr (t E)):=by
 intro E pins s σ H D I hw;exact wpAny_Expr_any (thn (h E pins s σ H _ I hw) λv s1 ⟨x,H1,I1,r1,q1⟩=>⟨σ,H1,I1,q1⟩) I.quiet hs
theorem vqy{i:Nat}{y:Str}{ex:Expr}{t:XK->TE}{pos':Pos}(hN:X.N.Nodup)(hi:X.N[i]?=some y)(hx:Loc X.env.scope y)(h:PEX X ex t)(hs:swapsWith ex (some (.Name y pos')) pos.line X.env=pure false:=by rfl)(hf:X.fn y=true\/X.env.scope.names.lookup y=some .local:=by first | exact .inl rfl | exact .inr rfl | assumption):
  PSX X (.Assign [.Name y pos'] ex pos) (λE=>wqq (t E) (qki i)):=by
 intro E pins s σ H D I hw;refine wpAny_Assign_Name (thn (h E pins s σ H _ I hw) λv s1 ⟨z,H1,I1,r1,q1⟩=>?_) hs;exact kj2 I1 hN hi hx r1 (λs2 I2=>⟨_,H1,I2,q1⟩) hf
end
structure ExAt (K:PySem.W.Frag)(x:Addr)(ox:Obj)(C:Addr):Prop where
 cls:ox.cls=.ref C
 no:PySem.W.notCls ox=true
 di:ox.dict=none
 xc:XCls K C
end L3
noncomputable section
namespace Q
open PySem
inductive D where
 | non | bl (b:Bool)| int (i:Int)| str (z:Str)| tup (xs:List D)| lst (xs:List D)| dct (kvs:List (D×D))| obj (c:Str) (fs:List (Str×D))
instance:DecidableEq D:=λa b=>Classical.propDecidable (a=b)
instance:Inhabited D:=⟨.non⟩
mutual
def D.pure:D->Bool
 | .tup xs=>D.pures xs
 | .lst _=>false
 | .dct _=>false
 | .obj _ _=>false
 | _=>true
def D.pures:List D->Bool
 | []=>true
 | a::x=>D.pure a&&D.pures x
end
theorem D.pures_all:∀xs:List D,D.pures xs=xs.all D.pure
 | []=>by simp[D.pures]
 | a::x=>by rw[D.pures,List.all_cons,D.pures_all x]
@[simp] theorem D.pures_map {α:Type}(f:α->D)(xs:List α)(h:∀x∈xs,(f x).pure=true):D.pures (xs.map f)=true:=by
 rw[D.pures_all,Yw];intro d hd;obtain⟨x,hx,rfl⟩:=List.mem_map.mp hd;exact h x hx
mutual
def peq:D->D->Bool
 | .non,.non=>true
 | .bl a,.bl b=>a==b
 | .bl a,.int b=>(if a then 1 else 0)==b
 | .int a,.bl b=>a==(if b then 1 else 0)
 | .int a,.int b=>a==b
 | .str a,.str b=>a==b
 | .lst as,.lst bs=>peqs as bs
 | .tup as,.tup bs=>peqs as bs
 | _,_=>false
def peqs:List D->List D->Bool
 | [],[]=>true
 | a::as,b::bs=>peq a b&&peqs as bs
 | _,_=>false
end
mutual
def D.flat:Nat->D->Bool
 | 0,.tup _=>false
 | 0,.lst _=>false
 | n+1,.tup xs=>D.flats n xs
 | n+1,.lst xs=>D.flats n xs
 | _,.dct _=>false
 | _,.obj _ _=>false
 | _,_=>true
def D.flats:Nat->List D->Bool
 | _,[]=>true
 | n,a::x=>D.flat n a&&D.flats n x
end
mutual
def jq5:Nat->D->Bool
 | _,.non=>true
 | _,.int _=>true
 | n+1,.tup xs=>keyDs n xs
 | _,_=>false
def keyDs:Nat->List D->Bool
 | _,[]=>true
 | n,a::x=>jq5 n a&&keyDs n x
end
def unm : List (D × D) -> Bool
  | (.str _, _)::_ => false
  | _ => true
inductive Own where
 | no | rt | dp
 deriving DecidableEq
abbrev Sd:=Own×D
abbrev En:=List (Option Sd)
inductive Res (α:Type) where
 | ok (E:En) (a:α)
 | exc (E:En) (c:Str)
abbrev Ev(α:Type):=En->Option (Res α)
abbrev Ex:=Ev Sd
def bnd{α β:Type}(m:Option (Res α))(f:En->α->Option (Res β)):Option (Res β):=
 match m with
 | some (.ok E a)=>f E a
 | some (.exc E c)=>some (.exc E c)
 | none=>none
@[simp] theorem wx2 {α β:Type}(E:En)(a:α)(f:En->α->Option (Res β)):bnd (some (.ok E a)) f=f E a:=rfl
@[simp] theorem ww8 {α β:Type}(E:En)(c:Str)(f:En->α->Option (Res β)):bnd (some (.exc E c)) f=some (.exc E c):=rfl
@[simp] theorem wqg {α β:Type}(f:En->α->Option (Res β)):bnd none f=none:=rfl
def val{α:Type}(E:En)(x:Option α):Option (Res α):=x.map (Res.ok E)
@[simp] theorem wq7 {α:Type}(E:En)(x:α):val E (some x)=some (.ok E x):=rfl
@[simp] theorem wq8 {α:Type}(E:En):val E (none:Option α)=none:=rfl
def cC(d:D):Ex:=λE=>some (.ok E (.dp,d))
def cV(i:Nat):Ex:=λE=>match E[i]? with
 | some (some (_,d))=>some (.ok (E.set i (some (.no,d))) (.no,d))
 | _=>none
def cMv(i:Nat):Ex:=λE=>match E[i]? with
 | some (some x)=>some (.ok (E.set i none) x)
 | _=>none
def vV(i:Nat):Ex:=λE=>match E[i]? with
 | some (some x)=>some (.ok E x)
 | _=>none
def vE(c:Ex):Ex:=λE=>bnd (c E) λE x=>some (.ok E (.no,x.2))
def cH(v:Ex):Ex:=λE=>bnd (v E) λE x=>if x.1=.no then some (.ok E (.no,x.2))else if x.2.pure then some (.ok E (.dp,x.2))else none
def cF1(f:Sd->Option Sd)(a:Ex):Ex:=λE=>bnd (a E) λE x=>val E (f x)
def cF2(f:Sd->Sd->Option Sd)(a b:Ex):Ex:=λE=>bnd (a E) λE x=>bnd (b E) λE y=>val E (f x y)
def pu1(f:D->Option D):Sd->Option Sd:=λx=>(f x.2).map λd=>(.dp,d)
def pu2(f:D->D->Option D):Sd->Sd->Option Sd:=λx y=>(f x.2 y.2).map λd=>(.dp,d)
def wwy:D->List D
 | .lst xs=>xs
 | .tup xs=>xs
 | .dct kvs=>kvs.map (·.2)
 | _=>[]
def jq0(x:Sd):Bool:=x.1 != .dp||D.pures (wwy x.2)
def sub:Own->Own
 | .dp=>.dp
 | _=>.no
def ixN(n:Nat)(i:Int):Option Nat:=if 0<=i then(if i<n then some i.toNat else none)else if -(n:Int)<=i then some (i+n).toNat else none
def ixD:D->D->Option D
 | .lst xs,.int i=>(ixN xs.length i).bind λj=>xs[j]?
 | .tup xs,.int i=>(ixN xs.length i).bind λj=>xs[j]?
 | .str z,.int i=>(ixN z.cps.size i).bind λj=>(z.cps.toList[j]?).map λc=>.str ⟨#[c]⟩
 | .dct kvs,k=>(kvs.find? λe=>decide (e.1=k)).map (·.2)
 | _,_=>none
def big:Nat:=16777216
def i2(f:Int->Int->Option Int):D->D->Option D
 | .int a,.int b=>(f a b).map .int
 | _,_=>none
def c2(f:Int->Int->Bool):D->D->Option D
 | .int a,.int b=>some (.bl (f a b))
 | _,_=>none
def qqf(a:Int):Bool:=decide (-(2 ^ 64)<a)&&decide (a<2 ^ 64)
def jk7:Sd->Sd->Option Sd:=λx y=>match x.2,y.2 with
 | .int a,.int b=>some (.dp,.int (a+b))
 | .str a,.str b=>if a.cps.size+b.cps.size<=big then some (.dp,.str (a++b))else none
 | .lst a,.lst b=>if a.length+b.length<=big/\jq0 x/\jq0 y then some (.rt,.lst (a++b))else none
 | .tup a,.tup b=>if a.length+b.length<=big/\jq0 x/\jq0 y then some (.no,.tup (a++b))else none
 | _,_=>none
def kva(a b:Int):Bool:=qqf a||qqf b||(decide (a.natAbs.log2<2000000)&&decide (b.natAbs.log2<2000000))
def qwt:Sd->Sd->Option Sd:=λx y=>match x.2,y.2 with
 | .int a,.int b=>if kva a b then some (.dp,.int (a*b))else none
 | .lst a,.int k=>if -(2 ^ 63)<=k/\k<2 ^ 63/\a.length*k.toNat<=big/\jq0 x then some (.rt,.lst (List.replicate k.toNat a).flatten)else none
 | .str z,.int n=>if(z.cps.size<=1024/\n<=1024/\-1024<=n)/\(Txt.mul z n).cps.size<=big then some (.dp,.str (Txt.mul z n))else none
 | _,_=>none
def fSub:D->D->Option D:=i2 λa b=>some (a - b)
def qkl:D->D->Option D:=i2 λa b=>if 0<b/\b.natAbs.log2<9000 then some (a / b)else none
def jv9:D->D->Option D:=i2 λa b=>if 0<b then some (a % b)else none
def vxc:D->D->Option D:=i2 λa b=>if 0<=b/\b<=1000000/\a.natAbs<2 ^ 64 then some (a ^ b.toNat)else none
def fEq:D->D->Option D:=λa b=>if a.flat 40&&b.flat 40 then some (.bl (peq a b))else none
def isNon:D->Bool
 | .non=>true
 | _=>false
def fLt:D->D->Option D:=c2 λa b=>decide (a<b)
def fLe:D->D->Option D:=c2 λa b=>decide (a<=b)
def fGt:D->D->Option D:=c2 λa b=>decide (b<a)
def fGe:D->D->Option D:=c2 λa b=>decide (b<=a)
def ww2(a b:Str):Bool:=!(Builtin.Str.occurrences b a 0 b.length 1).isEmpty
def fIn:D->D->Option D:=λx y=>match y with
 | .lst ys=>if x.flat 30&&D.flats 30 ys then some (.bl (ys.any λz=>peq z x))else none
 | .tup ys=>if x.flat 30&&D.flats 30 ys then some (.bl (ys.any λz=>peq z x))else none
 | .str b=>(match x with
  | .str a=>some (.bl (ww2 a b))
  | _=>none)
 | .dct kvs=>some (.bl (kvs.any λe=>decide (e.1=x)))
 | _=>none
def kwt:D->D->Option D:=λx y=>(fIn x y).bind λd=>match d with
 | .bl k=>some (.bl (!k))
 | _=>none
def jqz:D->Option D
 | .lst xs=>some (.int xs.length)
 | .tup xs=>some (.int xs.length)
 | .str z=>some (.int z.length)
 | _=>none
def kind:D->String
 | .non=>"NoneType"
 | .bl _=>"bool"
 | .int _=>"int"
 | .str _=>"str"
 | .tup _=>"tuple"
 | .lst _=>"list"
 | .dct _=>"dict"
 | .obj _ _=>""
def fIsNon:D->Option D:=λd=>some (.bl (isNon d))
def fNotNon:D->Option D:=λd=>some (.bl (!isNon d))
abbrev Ts:=Ev Bool
def truth:D->Option Bool
 | .bl b=>some b
 | .non=>some false
 | .int i=>some (i != 0)
 | .str z=>some (z.cps.size != 0)
 | .lst xs=>some (!xs.isEmpty)
 | .tup xs=>some (!xs.isEmpty)
 | .dct xs=>some (!xs.isEmpty)
 | .obj _ _=>none
def tE(c:Ex):Ts:=λE=>bnd (c E) λE x=>val E (truth x.2)
def tAnd(a b:Ts):Ts:=λE=>bnd (a E) λE x=>if x then b E else some (.ok E false)
def tOr(a b:Ts):Ts:=λE=>bnd (a E) λE x=>if x then some (.ok E true)else b E
def tNot(a:Ts):Ts:=λE=>bnd (a E) λE x=>some (.ok E (!x))
def tYes:Ts:=λE=>some (.ok E true)
def cIf(t:Ts)(a b:Ex):Ex:=λE=>bnd (t E) λE x=>if x then a E else b E
def vjg(a b:Ex):Ex:=λE=>bnd (a E) λE x=>match x.2 with
 | .bl true=>b E
 | .bl false=>some (.ok E (.dp,.bl false))
 | _=>none
def cOr(a b:Ex):Ex:=λE=>bnd (a E) λE x=>match x.2 with
 | .bl true=>some (.ok E (.dp,.bl true))
 | .bl false=>b E
 | _=>none
def qkt:D->D->Option D:=λx y=>match y with
 | .dct _=>none
 | _=>fIn x y
def jkt:D->D->Option D:=λx y=>match y with
 | .dct _=>none
 | _=>kwt x y
def f2First(f:D->Option D):Sd->Sd->Option Sd:=λx y=>if isNon y.2 then(f x.2).map λd=>(.dp,d)else none
def jva:D->D->Option D:=λx y=>match x with
 | .dct _=>none
 | _=>ixD x y
def jjb(a b:Ex):Ex:=λE=>bnd (a E) λE x=>bnd (b E) λE y=>val E ((jva x.2 y.2).map λd=>(sub x.1,d))
def truthQ:D->Option Bool:=λd=>match d with
 | .dct _=>none
 | _=>truth d
def tEQ(c:Ex):Ts:=λE=>bnd (c E) λE x=>val E (truthQ x.2)
def jq4:List Ex->Ev (List Sd)
 | [],E=>some (.ok E [])
 | c::cs,E=>bnd (c E) λE x=>bnd (jq4 cs E) λE xs=>some (.ok E (x::xs))
def jwe(x:Sd):Bool:=x.1 == .dp||x.2.pure
def jv0(o:Own)(cs:List Ex):Ex:=λE=>bnd (jq4 cs E) λE xs=>if o=.dp then(if xs.all jwe then some (.ok E (.dp,.lst (xs.map (·.2))))else none)else some (.ok E (.rt,.lst (xs.map (·.2))))
def jvh(o:Own)(cs:List Ex):Ex:=λE=>bnd (jq4 cs E) λE xs=>if o=.dp then(if xs.all jwe then some (.ok E (.dp,.tup (xs.map (·.2))))else none)else some (.ok E (.no,.tup (xs.map (·.2))))
inductive Fl where
 | nx (E:En)| rt (E:En) (x:Sd)| ct (E:En)| bk (E:En)| xc (E:En) (c:Str)
abbrev Sm:=En->Option Fl
def ofE{α:Type}(m:Option (Res α))(f:En->α->Option Fl):Option Fl :=
 match m with
 | some (.ok E a)=>f E a
 | some (.exc E c)=>some (.xc E c)
 | none=>none
@[simp] theorem wws {α:Type}(E:En)(a:α)(f:En->α->Option Fl):ofE (some (.ok E a)) f=f E a:=rfl
@[simp] theorem wvm {α:Type}(E:En)(c:Str)(f:En->α->Option Fl):ofE (some (.exc E c)) f=some (.xc E c):=rfl
@[simp] theorem wqd {α:Type}(f:En->α->Option Fl):ofE none f=none:=rfl
def jjc(a b:Sm):Sm:=λE=>match a E with
 | some (.nx E)=>b E
 | r=>r
def jjw:Sm:=λE=>some (.nx E)
def jjk(i:Nat)(c:Ex):Sm:=λE=>ofE (c E) λE x=>some (.nx (E.set i (some x)))
def qz6(c:Ex):Sm:=λE=>ofE (c E) λE _=>some (.nx E)
def jkd(c:Ex):Sm:=λE=>ofE (c E) λE x=>some (.rt E x)
def sRetN:Sm:=λE=>some (.rt E (.dp,.non))
def sIf(t:Ts)(a b:Sm):Sm:=λE=>ofE (t E) λE x=>if x then a E else b E
inductive Tg where
 | n (i:Nat)| t (ts:List Nat)
def setAll:List Nat->List D->En->Option En
 | [],[],E=>some E
 | i::is,d::ds,E=>setAll is ds (E.set i (some (.no,d)))
 | _,_,_=>none
def Tg.put:Tg->D->En->Option En
 | .n i,d,E=>some (E.set i (some (.no,d)))
 | .t is,.tup ds,E=>setAll is ds E
 | .t is,.lst ds,E=>setAll is ds E
 | .t _,_,_=>none
def vx7(is:List Nat)(c:Ex):Sm:=λE=>ofE (c E) λE x=>(Tg.put (.t is) x.2 E).map .nx
def qxn(tg:Tg)(b:Sm):List D->En->Option Fl
 | [],E=>some (.nx E)
 | d::ds,E=>match tg.put d E with
  | none=>none
  | some E=>match b E with
   | some (.nx E)=>qxn tg b ds E
   | some (.ct E)=>qxn tg b ds E
   | some (.bk E)=>some (.nx E)
   | r=>r
def jwi(it:Ev (List D))(tg:Tg)(b:Sm):Sm:=λE=>ofE (it E) λE ds=>qxn tg b ds E
def sWhile(t:Ts)(b:Sm)(E:En):Option Fl :=
 match t E with
 | some (.ok E true)=>(match b E with
  | some (.nx E)=>sWhile t b E
  | some (.ct E)=>sWhile t b E
  | some (.bk E)=>some (.nx E)
  | r=>r)
 | some (.ok E false)=>some (.nx E)
 | some (.exc E c)=>some (.xc E c)
 | none=>none
partial_fixpoint
def whN(t:Ts)(b:Sm):Nat->En->Option Fl
 | 0,_=>none
 | n+1,E=>match t E with
  | some (.ok E true)=>(match b E with
   | some (.nx E)=>whN t b n E
   | some (.ct E)=>whN t b n E
   | some (.bk E)=>some (.nx E)
   | r=>r)
  | some (.ok E false)=>some (.nx E)
  | some (.exc E c)=>some (.xc E c)
  | none=>none
theorem vq0{t:Ts}{b:Sm}:∀{E:En} {r:Fl},sWhile t b E=some r->∃n,whN t b n E=some r:=by
 intro E r;refine sWhile.partial_correctness t b (λE r=>∃n,whN t b n E=some r) ?_ E r;intro f ih E r h;cases ht:t E with
 | none=>rw[ht]at h;cases h
 | some q =>
  cases q with
  | exc E1 c=>rw[ht]at h;exact⟨1,by simp only[whN,ht];exact h⟩
  | ok E1 k =>
   rw[ht]at h;cases k with
   | false=>exact⟨1,by simp only[whN,ht];exact h⟩
   | true =>
    dsimp only at h;cases hb:b E1 with
    | none=>rw[hb]at h;cases h
    | some g =>
     rw[hb]at h;cases g with
     | nx E2=>obtain⟨n,hn⟩:=ih _ _ h;exact⟨n+1,by simp only[whN,ht,hb];exact hn⟩
     | ct E2=>obtain⟨n,hn⟩:=ih _ _ h;exact⟨n+1,by simp only[whN,ht,hb];exact hn⟩
     | bk E2=>exact⟨1,by simp only[whN,ht,hb];exact h⟩
     | rt E2 x=>exact⟨1,by simp only[whN,ht,hb];exact h⟩
     | xc E2 c=>exact⟨1,by simp only[whN,ht,hb];exact h⟩
def at'{α:Type}(L:List (Option α))(j:Nat):Option α:=(L[j]?).join
def clr{α:Type}:List Nat->List (Option α)->List (Option α)
 | [],L=>L
 | j::R,L=>clr R (L.set j none)
def back{α:Type}:List Nat->List (Option α)->List (Option α)->List (Option α)
 | j::R,q::B,L=>back R B (L.set j q)
 | _,_,L=>L
def vw0(k:Nat)(R:List Nat)(E:En):En:=List.replicate k none++R.map (at' E)
def kjw(k:Nat)(R:List Nat)(B E:En):En:=back R (B.drop k) (clr R E)
def lcL(tg:Tg)(t:Ts)(c:Ex):List D->En->List Sd->Option (Res (List Sd))
 | [],B,acc=>some (.ok B acc)
 | d::ds,B,acc=>match tg.put d B with
  | none=>none
  | some B=>bnd (t B) λB x=>if x then bnd (c B) λB y=>lcL tg t c ds B (acc++[y])else lcL tg t c ds B acc
def mkL(o:Own)(E:En)(xs:List Sd):Option (Res Sd):=
 if o=.dp then(if xs.all jwe then some (.ok E (.dp,.lst (xs.map (·.2))))else none)else some (.ok E (.rt,.lst (xs.map (·.2))))
def cLC(o:Own)(k:Nat)(R:List Nat)(it:Ev (List D))(tg:Tg)(t:Ts)(c:Ex):Ex:=λE=>bnd (it E) λE ds =>
 match lcL tg t c ds (vw0 k R E) []with
 | some (.ok B xs)=>mkL o (kjw k R B E) xs
 | some (.exc B e)=>some (.exc (kjw k R B E) e)
 | none=>none
def qzy:Option (Option Sd)->Bool
 | some (some (_,.lst _))=>true
 | _=>false
def jke(f:List D->D->Option (List D))(i:Nat)(c:Ex):Sm:=λE=>if qzy E[i]? then ofE (c E) λE x=>match E[i]? with
 | some (some (o,.lst xs))=>if o=.no then none else(match f xs x.2 with
  | some ys=>some (.nx (E.set i (some (if o=.dp/\jwe x then .dp else .rt,.lst ys))))
  | none=>none)
 | _=>none
 else none
def jvn:List D->D->Option (List D):=λxs d=>if xs.length<big then some (xs++[d])else none
def vki:D->Option D
 | .int i=>some (.int i)
 | .bl k=>some (.int (if k then 1 else 0))
 | .str z=>if z.length<=640 then(PySem.intText? z).map .int else none
 | _=>none
def jze:Sd->Option Sd:=λx=>match x.2 with
 | .lst xs=>if jq0 x then some (.rt,.lst xs)else none
 | .tup xs=>if jq0 x then some (.rt,.lst xs)else none
 | _=>none
def jqi:Sd->Option Sd:=λx=>match x.2 with
 | .lst xs=>if jq0 x then some (.no,.tup xs)else none
 | .tup xs=>if jq0 x then some (.no,.tup xs)else none
 | _=>none
def bls:List D->Option (List Bool)
 | []=>some []
 | .bl b::ds=>(bls ds).map (b :: ·)
 | _=>none
def wkm:D->Option D
 | .lst ds=>(bls ds).map λbs=>.bl (bs.all id)
 | _=>none
def seqOf:D->Option (List D)
 | .lst xs=>some xs
 | .tup xs=>some xs
 | .str z=>if z.cps.size<=big then some (z.cps.toList.map λc=>.str ⟨#[c]⟩)else none
 | _=>none
def itS(c:Ex):Ev (List D):=λE=>bnd (c E) λE x=>val E (seqOf x.2)
def jkf(i:Int):Bool:=decide (-(2 ^ 62)<=i)&&decide (i<2 ^ 62)
def jj4(lo hi:Int):List D:=(List.range (hi - lo).toNat).map λ(k:Nat)=>.int (lo+(k:Int))
def kkk(c:Ex):Ev (List D):=λE=>bnd (c E) λE x=>match x.2 with
 | .int j=>if jkf j/\j.toNat<=big then some (.ok E (jj4 0 j))else none
 | _=>none
def vkn(c:Ex):Ex:=λE=>bnd (c E) λE x=>match x.2 with
 | .int j=>if jkf j/\j.toNat<=big then some (.ok E (.rt,.lst (jj4 0 j)))else none
 | _=>none
abbrev Fn:=List Sd->Option (Res Sd)
def fn(n:Nat)(b:Sm):Fn:=λxs=>match b (xs.map some++List.replicate (n - xs.length) none)with
 | some (.rt E x)=>some (.ok E x)
 | some (.nx E)=>some (.ok E (.dp,.non))
 | some (.xc E c)=>some (.exc E c)
 | _=>none
def letAll(xs:List Sd):List Sd:=xs.map λx=>(.no,x.2)
def jjj(f:Fn)(cs:List Ex):Ex:=λE=>bnd (jq4 cs E) λE xs=>match f (letAll xs)with
 | some (.ok _ y)=>some (.ok E y)
 | some (.exc _ c)=>some (.exc E c)
 | none=>none
end Q
namespace Q
open PySem PySem.Spec PyProof.Rows L2 L3
mutual
def kvh:D->Int
 | .int i=>hashInt i
 | .tup xs=>reduceHash (Builtin.Tuple.tupleHashOf (hashDs xs))
 | _=>4238894112
def hashDs:List D->List Int
 | []=>[]
 | a::x=>kvh a::hashDs x
end
def Kd:Type:={ d:D // jq5 6 d=true }
instance:DecidableEq Kd:=λa b=>Classical.propDecidable (a=b)
abbrev Ent:=Kd×Addr×Value
def jx2(a:Addr)(es:List Ent)(ep:Nat):HO:=.ext λh=>∃o ds,h.get? a=some o/\o.ExactDict/\o.data=.dict ds ep/\ds.toList=es.map λx=>(⟨kvh x.1.1,.ref x.2.1,x.2.2⟩:DictEntry)
mutual
def PuR(K:PySem.W.Frag)(H:Hp):D->V->Prop
 | .non,v=>v=.non
 | .int i,v=>v=.int i
 | .tup ds,v=>∃a xs,v=.ref a/\SqT K H a xs/\PuRs K H ds xs
 | _,_=>False
def PuRs(K:PySem.W.Frag)(H:Hp):List D->List V->Prop
 | [],xs=>xs=[]
 | d::ds,xs=>∃x r,xs=x::r/\PuR K H d x/\PuRs K H ds r
end
def DcN(K:PySem.W.Frag)(H:Hp)(a:Addr)(ks:List D)(vs:List V):Prop:=∃(es:List Ent) (ep:Nat),H a=some (jx2 a es ep)/\(a==sysModules)=false/\es.length<=sizeLine/\(es.map (·.1)).Nodup/\ks=es.map (·.1.1)/\(∀x∈es,PuR K H x.1.1 (.ref x.2.1))/\Vals vs (es.map (·.2.2))
def DcI(H:Hp)(a:Addr)(ks:List D)(vs:List V):Prop:=∃(kv:List (Int×V)) (m:Str),H a=some (.dK (kv.map λp=>(Sum.inl p.1,p.2)))/\ks=.str m::kv.map (λp=>D.int p.1)/\vs=.non::kv.map (·.2)
def DcA(K:PySem.W.Frag)(H:Hp)(a:Addr)(ks:List D)(vs:List V):Prop:=DcN K H a ks vs\/DcI H a ks vs
theorem DcA.un{K:PySem.W.Frag}{H:Hp}{a:Addr}{kvs:List (D×D)}{vs:List V}(h:DcA K H a (kvs.map (·.1)) vs)(hu:unm kvs=true):DcN K H a (kvs.map (·.1)) vs:=by
 rcases h with h | ⟨kv,m,_,h,_⟩
 ·exact h
 ·cases kvs with
  | nil=>cases h
  | cons p r =>
   obtain⟨k,d⟩:=p;rw[List.map_cons]at h;injection h with h1 _;have h1:k=.str m:=h1;subst h1;cases hu
def wx5(K:PySem.W.Frag)(a:Addr)(xs:List V):Prop:=∃(its:Array Value) (n:Nat),K.lookup a=some { cls:=.type "list",data:=.seq its n }/\its.size<=sizeLine/\Vals xs its.toList
def wqj(K:PySem.W.Frag)(H:Hp)(a:Addr)(xs:List V):Prop:=(∃o,H a=some (.frz o (.lst xs)))\/wx5 K a xs
def LsR(K:PySem.W.Frag)(H:Hp)(a:Addr)(xs:List V):Prop:=Rd H a (.lst xs)\/wx5 K a xs
theorem LsR.of{K:PySem.W.Frag}{H:Hp}{a:Addr}{xs:List V}(h:wqj K H a xs):LsR K H a xs:=h.imp .inr id
theorem LsR.sq{K:PySem.W.Frag}{H:Hp}{a:Addr}{xs:List V}(h:LsR K H a xs):SqL K H a xs:=by
 rcases h with h | ⟨its,n,h1,h2,h3⟩
 ·exact .inl h
 ·exact .inr ⟨_,its,n,h1,rfl,rfl,rfl,h2,h3⟩
theorem LsR.is{X:Cx}{pins:List (Addr×Obj)}{σ:L2.St}{H:Hp}{s:Shared}{a:Addr}{xs:List V}(I:L2.Inv X pins σ H s)(h:LsR X.K H a xs):xs.length<=sizeLine/\∃(its:List Value) (n:Nat),Vals xs its/\s.heap.get? a=some { cls:=.type "list",data:=.seq its.toArray n }:=by
 rcases h with h | ⟨its,n,h1,h2,h3⟩
 ·obtain⟨z,its,n,r,e⟩:=h.ok I.hok;exact⟨z,its,n,r,e⟩
 ·have hl:=h3.length;simp only[Y7]at hl;exact⟨by omega,its.toList,n,h3,by simpa using I.kIn a _ h1⟩
def ExD(K:PySem.W.Frag)(H:Hp)(c:Str)(v:V):Prop:=∃x o C,v=.ref x/\H x=some (.frz o (.ext λ_=>True))/\ExAt K x o C/\PySem.W.nsIn K mainGlobals c=some (some (.ref C))
mutual
def RepL(K:PySem.W.Frag)(H:Hp)(g:Bool):D->V->List Addr->Prop
 | .non,v,as=>v=.non/\as=[]
 | .bl b,v,as=>v=.bl b/\as=[]
 | .int i,v,as=>v=.int i/\as=[]
 | .str z,v,as=>v=.str z/\as=[]/\z.length<=sizeLine
 | .tup ds,v,as=>∃a xs,v=.ref a/\SqT K H a xs/\RepA K H g ds xs as
 | .lst ds,v,as=>∃a xs bs,v=.ref a/\RepA K H g ds xs bs/\((H a=some (.lst xs)/\as=a::bs)\/(g=true/\wqj K H a xs/\as=bs))
 | .dct kvs,v,as=>∃a xs bs,v=.ref a/\RepP K H g kvs xs bs/\DcA K H a (kvs.map (·.1)) xs/\as=a::bs
 | .obj c _,v,as=>as=[]/\ExD K H c v
def RepA(K:PySem.W.Frag)(H:Hp)(g:Bool):List D->List V->List Addr->Prop
 | [],xs,as=>xs=[]/\as=[]
 | d::ds,xs,as=>∃x r bs cs,xs=x::r/\as=bs++cs/\RepL K H g d x bs/\RepA K H g ds r cs
def RepP(K:PySem.W.Frag)(H:Hp)(g:Bool):List (D×D)->List V->List Addr->Prop
 | [],xs,as=>xs=[]/\as=[]
 | (_,d)::ds,xs,as=>∃x r bs cs,xs=x::r/\as=bs++cs/\RepL K H g d x bs/\RepP K H g ds r cs
end
def RepR(K:PySem.W.Frag)(H:Hp):D->V->List Addr->Prop
 | .lst ds,v,as=>∃a xs bs,v=.ref a/\RepA K H true ds xs bs/\H a=some (.lst xs)/\as=a::bs
 | .dct kvs,v,as=>∃a xs bs,v=.ref a/\RepP K H true kvs xs bs/\DcA K H a (kvs.map (·.1)) xs/\as=a::bs
 | _,_,_=>False
def RepO(K:PySem.W.Frag)(H:Hp):Own->D->V->List Addr->Prop
 | .no=>RepL K H true
 | .rt=>RepR K H
 | .dp=>RepL K H false
section
variable {K:PySem.W.Frag}{H H':Hp}
def Kp(H H':Hp)(as:List Addr):Prop:=(∀a xs,H a=some (.tup xs)->H' a=some (.tup xs))/\(∀a o u,H a=some (.frz o u)->H' a=some (.frz o u))/\∀a∈as,∀ob,H a=some ob->H' a=some ob
theorem Kp.left{as bs:List Addr}(k:Kp H H' (as++bs)):Kp H H' as:=⟨k.1,k.2.1,λa ha=>k.2.2 a (ll9 _ ha)⟩
theorem Kp.right{as bs:List Addr}(k:Kp H H' (as++bs)):Kp H H' bs:=⟨k.1,k.2.1,λa ha=>k.2.2 a (lr9 _ ha)⟩
theorem Kp.tail{a:Addr}{bs:List Addr}(k:Kp H H' (a::bs)):Kp H H' bs:=⟨k.1,k.2.1,λb hb=>k.2.2 b (lc9 _ hb)⟩
theorem Kp.tupT{as:List Addr}{a:Addr}{xs:List V}(k:Kp H H' as)(h:SqT K H a xs):SqT K H' a xs:=by
 rcases h with(h | ⟨o,h⟩)| h
 ·exact .inl (.inl (k.1 a xs h))
 ·exact .inl (.inr ⟨o,k.2.1 a o _ h⟩)
 ·exact .inr h
theorem Kp.frzL{as:List Addr}{a:Addr}{xs:List V}(k:Kp H H' as)(h:wqj K H a xs):wqj K H' a xs:=by
 rcases h with⟨o,h⟩| h
 ·exact .inl ⟨o,k.2.1 a o _ h⟩
 ·exact .inr h
mutual
theorem PuR.kp{as:List Addr}(k:Kp H H' as):∀{d:D} {v:V},PuR K H d v->PuR K H' d v
 | .non,_,h=>by unfold PuR at h ⊢;exact h
 | .int _,_,h=>by unfold PuR at h ⊢;exact h
 | .tup ds,_,h=>by
  unfold PuR at h ⊢;obtain⟨a,xs,e,s,r⟩:=h;exact⟨a,xs,e,k.tupT s,PuRs.kp k r⟩
 | .bl _,_,h=>by unfold PuR at h;exact h.elim
 | .str _,_,h=>by unfold PuR at h;exact h.elim
 | .lst _,_,h=>by unfold PuR at h;exact h.elim
 | .dct _,_,h=>by unfold PuR at h;exact h.elim
 | .obj _ _,_,h=>by unfold PuR at h;exact h.elim
theorem PuRs.kp{as:List Addr}(k:Kp H H' as):∀{ds:List D} {xs:List V},PuRs K H ds xs->PuRs K H' ds xs
 | [],_,h=>by unfold PuRs at h ⊢;exact h
 | d::ds,_,h=>by
  unfold PuRs at h ⊢;obtain⟨x,r,e,h1,h2⟩:=h;exact⟨x,r,e,PuR.kp k h1,PuRs.kp k h2⟩
end
theorem Kp.dcn{a:Addr}{bs:List Addr}{ks:List D}{vs:List V}(k:Kp H H' (a::bs))(h:DcN K H a ks vs):DcN K H' a ks vs:=by
 obtain⟨es,ep,e,h1,h2,h3,h4,h5,h6⟩:=h;exact⟨es,ep,k.2.2 a X4 _ e,h1,h2,h3,h4,λx hx=>PuR.kp k (h5 x hx),h6⟩
theorem Kp.dca{a:Addr}{bs:List Addr}{ks:List D}{vs:List V}(k:Kp H H' (a::bs))(h:DcA K H a ks vs):DcA K H' a ks vs:=by
 rcases h with h | ⟨kv,m,e,h⟩
 ·exact .inl (k.dcn h)
 ·exact .inr ⟨kv,m,k.2.2 a X4 _ e,h⟩
theorem Kp.of_same{as:List Addr}(s:jqp H H'):Kp H H' as:=⟨λa xs h=>s a _ h,λa o u h=>s a _ h,λa _ ob h=>s a ob h⟩
mutual
theorem RepL.kp{g:Bool}:∀{d:D} {v:V} {as:List Addr},RepL K H g d v as->Kp H H' as->RepL K H' g d v as
 | .non,_,_,h,_=>by unfold RepL at h ⊢;exact h
 | .bl _,_,_,h,_=>by unfold RepL at h ⊢;exact h
 | .int _,_,_,h,_=>by unfold RepL at h ⊢;exact h
 | .str _,_,_,h,_=>by unfold RepL at h ⊢;exact h
 | .tup ds,_,_,h,k=>by
  unfold RepL at h ⊢;obtain⟨a,xs,e,s,r⟩:=h;exact⟨a,xs,e,k.tupT s,RepA.kp r k⟩
 | .lst ds,_,_,h,k=>by
  unfold RepL at h ⊢;obtain⟨a,xs,bs,e,r,q⟩:=h;refine⟨a,xs,bs,e,?_,?_⟩
  ·rcases q with⟨_,rfl⟩| ⟨_,_,rfl⟩
   ·exact RepA.kp r k.tail
   ·exact RepA.kp r k
  ·rcases q with⟨h1,rfl⟩| ⟨hg,h1,rfl⟩
   ·exact .inl ⟨k.2.2 a X4 _ h1,rfl⟩
   ·exact .inr ⟨hg,k.frzL h1,rfl⟩
 | .dct kvs,_,_,h,k=>by
  unfold RepL at h ⊢;obtain⟨a,xs,bs,e,r,q,rfl⟩:=h;exact⟨a,xs,bs,e,RepP.kp r k.tail,k.dca q,rfl⟩
 | .obj _ _,_,_,h,k=>by
  unfold RepL at h ⊢;obtain⟨e,x,o,C,h1,h2,h3⟩:=h;exact⟨e,x,o,C,h1,k.2.1 _ _ _ h2,h3⟩
theorem RepA.kp{g:Bool}:∀{ds:List D} {xs:List V} {as:List Addr},RepA K H g ds xs as->Kp H H' as->RepA K H' g ds xs as
 | [],_,_,h,_=>by unfold RepA at h ⊢;exact h
 | d::ds,_,_,h,k=>by
  unfold RepA at h ⊢;obtain⟨x,r,bs,cs,e1,rfl,h1,h2⟩:=h;exact⟨x,r,bs,cs,e1,rfl,RepL.kp h1 k.left,RepA.kp h2 k.right⟩
theorem RepP.kp{g : Bool}: ∀{ds : List (D × D)} {xs : List V} {as : List Addr}, RepP K H g ds xs as -> Kp H H' as -> RepP K H' g ds xs as
  | [], _, _, h, _ => by unfold RepP at h ⊢; exact h
  | (q, d)::ds, _, _, h, k => by
    unfold RepP at h ⊢;obtain⟨x, r, bs, cs, e1, rfl, h1, h2⟩:= h;exact⟨x, r, bs, cs, e1, rfl, RepL.kp h1 k.left, RepP.kp h2 k.right⟩
end
mutual
theorem RepL.wk:∀{d:D} {v:V} {as:List Addr},RepL K H false d v as->RepL K H true d v as
 | .non,_,_,h=>by unfold RepL at h ⊢;exact h
 | .bl _,_,_,h=>by unfold RepL at h ⊢;exact h
 | .int _,_,_,h=>by unfold RepL at h ⊢;exact h
 | .str _,_,_,h=>by unfold RepL at h ⊢;exact h
 | .tup ds,_,_,h=>by
  unfold RepL at h ⊢;obtain⟨a,xs,e,s,r⟩:=h;exact⟨a,xs,e,s,RepA.wk r⟩
 | .lst ds,_,_,h=>by
  unfold RepL at h ⊢;obtain⟨a,xs,bs,e,r,q⟩:=h;refine⟨a,xs,bs,e,RepA.wk r,?_⟩;rcases q with q | ⟨z,_⟩
  ·exact .inl q
  ·cases z
 | .dct kvs,_,_,h=>by
  unfold RepL at h ⊢;obtain⟨a,xs,bs,e,r,q,z⟩:=h;exact⟨a,xs,bs,e,RepP.wk r,q,z⟩
 | .obj _ _,_,_,h=>by unfold RepL at h ⊢;exact h
theorem RepA.wk:∀{ds:List D} {xs:List V} {as:List Addr},RepA K H false ds xs as->RepA K H true ds xs as
 | [],_,_,h=>by unfold RepA at h ⊢;exact h
 | d::ds,_,_,h=>by
  unfold RepA at h ⊢;obtain⟨x,r,bs,cs,e1,e2,h1,h2⟩:=h;exact⟨x,r,bs,cs,e1,e2,RepL.wk h1,RepA.wk h2⟩
theorem RepP.wk : ∀{ds : List (D × D)} {xs : List V} {as : List Addr}, RepP K H false ds xs as -> RepP K H true ds xs as
  | [], _, _, h => by unfold RepP at h ⊢; exact h
  | (q, d)::ds, _, _, h => by
    unfold RepP at h ⊢;obtain⟨x, r, bs, cs, e1, e2, h1, h2⟩:= h;exact⟨x, r, bs, cs, e1, e2, RepL.wk h1, RepP.wk h2⟩
end
mutual
theorem RepL.al{g:Bool}:∀{d:D} {v:V} {as:List Addr},RepL K H g d v as->∀a∈as,(∃xs,H a=some (.lst xs))\/(∃ φ,H a=some (.ext φ))\/∃kvs,H a=some (.dK kvs)
 | .non,_,_,h=>by unfold RepL at h;rw[h.2];exact λ_ z=>nomatch z
 | .bl _,_,_,h=>by unfold RepL at h;rw[h.2];exact λ_ z=>nomatch z
 | .int _,_,_,h=>by unfold RepL at h;rw[h.2];exact λ_ z=>nomatch z
 | .str _,_,_,h=>by unfold RepL at h;rw[h.2.1];exact λ_ z=>nomatch z
 | .tup ds,_,_,h=>by
  unfold RepL at h;obtain⟨a,xs,e,s,r⟩:=h;exact RepA.al r
 | .lst ds,_,_,h=>by
  unfold RepL at h;obtain⟨a,xs,bs,e,r,q⟩:=h;rcases q with⟨h1,rfl⟩| ⟨_,_,rfl⟩
  ·intro b hb;rcases List.mem_cons.mp hb with rfl | hb
   ·exact .inl ⟨_,h1⟩
   ·exact RepA.al r b hb
  ·exact RepA.al r
 | .dct kvs,_,_,h=>by
  unfold RepL at h;obtain⟨a,xs,bs,e,r,q,rfl⟩:=h;intro b hb;rcases List.mem_cons.mp hb with rfl | hb
  ·rcases q with⟨es,ep,q,_⟩| ⟨kv,m,q,_⟩
   ·exact .inr (.inl ⟨_,q⟩)
   ·exact .inr (.inr ⟨_,q⟩)
  ·exact RepP.al r b hb
 | .obj _ _,_,_,h=>by unfold RepL at h;rw[h.1];exact λ_ z=>nomatch z
theorem RepA.al{g:Bool}:∀{ds:List D} {xs:List V} {as:List Addr},RepA K H g ds xs as->∀a∈as,(∃xs,H a=some (.lst xs))\/(∃ φ,H a=some (.ext φ))\/∃kvs,H a=some (.dK kvs)
 | [],_,_,h=>by unfold RepA at h;rw[h.2];exact λ_ z=>nomatch z
 | d::ds,_,_,h=>by
  unfold RepA at h;obtain⟨x,r,bs,cs,e1,rfl,h1,h2⟩:=h;intro a ha;rcases List.mem_append.mp ha with ha | ha
  ·exact RepL.al h1 a ha
  ·exact RepA.al h2 a ha
theorem RepP.al{g : Bool}: ∀{ds : List (D × D)} {xs : List V} {as : List Addr}, RepP K H g ds xs as -> ∀a ∈ as, (∃xs, H a = some (.lst xs)) \/ (∃ φ, H a = some (.ext φ)) \/ ∃kvs, H a = some (.dK kvs)
  | [], _, _, h => by unfold RepP at h; rw[h.2]; exact λ_ z => nomatch z
  | (_, d)::ds, _, _, h => by
    unfold RepP at h;obtain⟨x, r, bs, cs, e1, rfl, h1, h2⟩:= h;intro a ha;rcases List.mem_append.mp ha with ha | ha
    · exact RepL.al h1 a ha
    · exact RepP.al h2 a ha
end
mutual
theorem RepL.pu{g g':Bool}:∀{d:D} {v:V} {as:List Addr},RepL K H g d v as->d.pure=true->as=[]/\RepL K H g' d v []
 | .non,_,_,h,_=>by unfold RepL at h ⊢;exact⟨h.2,h.1,rfl⟩
 | .bl _,_,_,h,_=>by unfold RepL at h ⊢;exact⟨h.2,h.1,rfl⟩
 | .int _,_,_,h,_=>by unfold RepL at h ⊢;exact⟨h.2,h.1,rfl⟩
 | .str _,_,_,h,_=>by unfold RepL at h ⊢;exact⟨h.2.1,h.1,rfl,h.2.2⟩
 | .tup ds,_,_,h,p=>by
  unfold RepL at h ⊢;obtain⟨a,xs,e,s,r⟩:=h;obtain⟨z,r'⟩:=RepA.pu (g':=g') r (by unfold D.pure at p;exact p);exact⟨z,a,xs,e,s,r'⟩
 | .lst ds,_,_,h,p=>by unfold D.pure at p;cases p
 | .dct ds,_,_,h,p=>by unfold D.pure at p;cases p
 | .obj _ _,_,_,h,p=>by unfold D.pure at p;cases p
theorem RepA.pu{g g':Bool}:∀{ds:List D} {xs:List V} {as:List Addr},RepA K H g ds xs as->D.pures ds=true->as=[]/\RepA K H g' ds xs []
 | [],_,_,h,_=>by unfold RepA at h ⊢;exact⟨h.2,h.1,rfl⟩
 | d::ds,_,_,h,p=>by
  unfold RepA at h ⊢;unfold D.pures at p;rw[Bool.and_eq_true]at p;obtain⟨x,r,bs,cs,e1,rfl,h1,h2⟩:=h;obtain⟨rfl,q1⟩:=RepL.pu (g':=g') h1 p.1;obtain⟨rfl,q2⟩:=RepA.pu (g':=g') h2 p.2;exact⟨rfl,x,r,[],[],e1,rfl,q1,q2⟩
end
theorem RepR.wk:∀{d:D} {v:V} {as:List Addr},RepR K H d v as->RepL K H true d v as
 | .lst ds,_,_,h=>by
  obtain⟨a,xs,bs,e,r,q,z⟩:=h;unfold RepL;exact⟨a,xs,bs,e,r,.inl ⟨q,z⟩⟩
 | .dct kvs,_,_,h=>by
  obtain⟨a,xs,bs,e,r,q,z⟩:=h;unfold RepL;exact⟨a,xs,bs,e,r,q,z⟩
theorem RepR.kp:∀{d:D} {v:V} {as:List Addr},RepR K H d v as->Kp H H' as->RepR K H' d v as
 | .lst ds,_,_,h,k=>by
  obtain⟨a,xs,bs,e,r,q,rfl⟩:=h;exact⟨a,xs,bs,e,r.kp k.tail,k.2.2 a X4 _ q,rfl⟩
 | .dct kvs,_,_,h,k=>by
  obtain⟨a,xs,bs,e,r,q,rfl⟩:=h;exact⟨a,xs,bs,e,r.kp k.tail,k.dca q,rfl⟩
theorem RepO.wk:∀{o:Own} {d:D} {v:V} {as:List Addr},RepO K H o d v as->RepL K H true d v as
 | .no,_,_,_,h=>h
 | .rt,_,_,_,h=>RepR.wk h
 | .dp,_,_,_,h=>RepL.wk h
theorem RepO.kp:∀{o:Own} {d:D} {v:V} {as:List Addr},RepO K H o d v as->Kp H H' as->RepO K H' o d v as
 | .no,_,_,_,h,k=>RepL.kp h k
 | .rt,_,_,_,h,k=>RepR.kp h k
 | .dp,_,_,_,h,k=>RepL.kp h k
end
structure Sl where
 o:Own
 d:D
 v:V
 as:List Addr
def Sl.own(x:Sl):List Addr:=match x.o with
 | .no=>[]
 | .rt=>x.as.take 1
 | .dp=>x.as
def Sl.frz(x:Sl):List Addr:=match x.o with
 | .no=>x.as
 | .rt=>x.as.drop 1
 | .dp=>[]
theorem Sl.parts(x:Sl):x.own++x.frz=x.as:=by
 unfold Sl.own Sl.frz;cases x.o with
 | no=>rfl
 | rt=>exact List.take_append_drop 1 x.as
 | dp=>exact Xq _
theorem Sl.own_as{x:Sl}{a:Addr}(h:a∈x.own):a∈x.as:=by rw[<-x.parts];exact ll9 _ h
theorem Sl.frz_as{x:Sl}{a:Addr}(h:a∈x.frz):a∈x.as:=by rw[<-x.parts];exact lr9 _ h
theorem Sl.as_of{x:Sl}{a:Addr}(h:a∈x.as):a∈x.own\/a∈x.frz:=by rw[<-x.parts]at h;exact List.mem_append.mp h
def Sl.let(x:Sl):Sl:={ x with o:=.no }
abbrev Ls:=List (Option Sl)
def jj6(L:Ls):List Addr:=L.flatMap λx=>x.elim [] Sl.own
def jjd(L:Ls):List Addr:=L.flatMap λx=>x.elim [] Sl.frz
@[simp] theorem wja:jj6 []=[]:=rfl
@[simp] theorem vxa:jjd []=[]:=rfl
@[simp] theorem jj3 (x:Sl)(L:Ls):jj6 (some x::L)=x.own++jj6 L:=by simp[jj6]
@[simp] theorem jj8 (x:Sl)(L:Ls):jjd (some x::L)=x.frz++jjd L:=by simp[jjd]
@[simp] theorem qk9 (L:Ls):jj6 (none::L)=jj6 L:=by simp[jj6]
@[simp] theorem kxz (L:Ls):jjd (none::L)=jjd L:=by simp[jjd]
@[simp] theorem jj2 (L T:Ls):jj6 (L++T)=jj6 L++jj6 T:=by simp[jj6]
@[simp] theorem jj5 (L T:Ls):jjd (L++T)=jjd L++jjd T:=by simp[jjd]
theorem mem_owned{L:Ls}{a:Addr}:a∈jj6 L↔∃x,some x∈L/\a∈x.own:=by
 unfold jj6;rw[List.mem_flatMap];constructor
 ·rintro ⟨y,hy,h⟩;cases y with
  | none=>exact nomatch h
  | some x=>exact⟨x,hy,h⟩
 ·rintro ⟨x,hx,h⟩;exact⟨some x,hx,h⟩
theorem mem_frozen{L:Ls}{a:Addr}:a∈jjd L↔∃x,some x∈L/\a∈x.frz:=by
 unfold jjd;rw[List.mem_flatMap];constructor
 ·rintro ⟨y,hy,h⟩;cases y with
  | none=>exact nomatch h
  | some x=>exact⟨x,hy,h⟩
 ·rintro ⟨x,hx,h⟩;exact⟨some x,hx,h⟩
def Sl.ok(K:PySem.W.Frag)(H:Hp)(x:Sl):Prop:=RepO K H x.o x.d x.v x.as
theorem Sl.ok.al{K:PySem.W.Frag}{H:Hp}{x:Sl}(h:x.ok K H):∀a∈x.as,(∃xs,H a=some (.lst xs))\/(∃ φ,H a=some (.ext φ))\/∃kvs,H a=some (.dK kvs):=(RepO.wk h).al
theorem Sl.ok.some{K:PySem.W.Frag}{H:Hp}{x:Sl}(h:x.ok K H){a:Addr}(ha:a∈x.as):H a≠none:=λz=>by
 rcases h.al a ha with⟨xs,e⟩| ⟨xs,e⟩| ⟨xs,e⟩<;>(rw[z]at e;cases e)
structure World (K:PySem.W.Frag)(H:Hp)(L:Ls):Prop where
 ok:∀x,some x∈L->x.ok K H
 nd:(jj6 L).Nodup
 ds:∀a∈jj6 L,a∉jjd L
structure Step (H:Hp)(L:Ls)(H':Hp)(L':Ls):Prop where
 keep:∀a ob,H a=some ob->a∉jj6 L->H' a=some ob
 own:∀a∈jj6 L',a∈jj6 L\/H a=none
 frz:∀a∈jjd L',a∈jjd L\/a∈jj6 L\/H a=none
section
variable {K:PySem.W.Frag}{H H1 H2 H':Hp}{L L1 L2' L' T:Ls}{x y:Sl}
theorem World.own_al(w:World K H L){a:Addr}(h:a∈jj6 L):(∃xs,H a=some (.lst xs))\/(∃ φ,H a=some (.ext φ))\/∃kvs,H a=some (.dK kvs):=by
 obtain⟨x,hx,ha⟩:=mem_owned.mp h;exact(w.ok x hx).al a (Sl.own_as ha)
theorem World.own_some(w:World K H L){a:Addr}(h:a∈jj6 L):H a≠none:=by
 obtain⟨x,hx,ha⟩:=mem_owned.mp h;exact(w.ok x hx).some (Sl.own_as ha)
theorem World.frz_some(w:World K H L){a:Addr}(h:a∈jjd L):H a≠none:=by
 obtain⟨x,hx,ha⟩:=mem_frozen.mp h;exact(w.ok x hx).some (Sl.frz_as ha)
theorem Step.refl:Step H L H L:=⟨λ_ _ h _=>h,λ_ h=>.inl h,λ_ h=>.inl h⟩
theorem Step.trans(a:Step H L H1 L1)(b:Step H1 L1 H2 L2'):Step H L H2 L2' where
 keep:=λc ob h hn=>b.keep c ob (a.keep c ob h hn) λz=>(a.own c z).elim hn λe=>by rw[h]at e;cases e
 own:=λc hc=>by
  rcases b.own c hc with z | z
  ·exact a.own c z
  ·by_cases h:c∈jj6 L
   ·exact .inl h
   ·refine .inr ?_;cases e:H c with
    | none=>rfl
    | some ob=>rw[a.keep c ob e h]at z;cases z
 frz:=λc hc=>by
  rcases b.frz c hc with z | z | z
  ·exact a.frz c z
  ·exact .inr (a.own c z)
  ·by_cases h:c∈jj6 L
   ·exact .inr (.inl h)
   ·refine .inr (.inr ?_);cases e:H c with
    | none=>rfl
    | some ob=>rw[a.keep c ob e h]at z;cases z
theorem Step.kp(a:Step H L H' L')(w:World K H L){as:List Addr}(h:∀b∈as,b∉jj6 L):Kp H H' as:=by
 have no:∀b ob,H b=some ob->(∀xs,ob≠.lst xs)->(∀ φ,ob≠.ext φ)->(∀kvs,ob≠.dK kvs)->H' b=some ob:=λb ob e h1 h2 h3=>a.keep b ob e λz=>by
  rcases w.own_al z with⟨xs,q⟩| ⟨es,q⟩| ⟨es,q⟩
  ·rw[e]at q;cases q;exact h1 _ rfl
  ·rw[e]at q;cases q;exact h2 _ rfl
  ·rw[e]at q;cases q;exact h3 _ rfl
 exact⟨λb xs e=>no b _ e (λ_ z=>(nomatch z)) (λ_ z=>(nomatch z)) (λ_ z=>(nomatch z)),λb o u e=>no b _ e (λ_ z=>(nomatch z)) (λ_ z=>(nomatch z)) (λ_ z=>(nomatch z)),λb hb ob e=>a.keep b ob e (h b hb)⟩
theorem Step.frame(a:Step H L H' L')(w:World K H (L++T))(w':World K H' L')(wL:World K H L):World K H' (L'++T):=by
 have nd:=w.nd;rw [jj2,Xe]at nd;have dis:∀b∈jj6 L,b∉jj6 T:=λb hb hT=>nd.2.2 b hb b hT rfl
 have okT:∀x,some x∈T->x.ok K H:=λx hx=>w.ok x (lr9 _ hx)
 have nT:∀x,some x∈T->∀b∈x.as,b∉jj6 L:=λx hx b hb hL=>by
  rcases Sl.as_of hb with z | z
  ·exact dis b hL (mem_owned.mpr ⟨x,hx,z⟩)
  ·refine w.ds b (by rw[jj2];exact ll9 _ hL) ?_;rw[jj5];exact lr9 _ (mem_frozen.mpr ⟨x,hx,z⟩)
 refine⟨λx hx=>?_,?_,λb hb=>?_⟩
 ·rcases List.mem_append.mp hx with hx | hx
  ·exact w'.ok x hx
  ·exact(okT x hx).kp (a.kp wL (nT x hx))
 ·rw[jj2,Xe];refine⟨w'.nd,nd.2.1,λb hb c hc e=>?_⟩;subst e;obtain⟨x,hx,hbx⟩:=mem_owned.mp hc;rcases a.own b hb with z | z
  ·exact dis b z hc
  ·exact(okT x hx).some (Sl.own_as hbx) z
 ·rw[jj2]at hb;rw[jj5];intro hf;rcases List.mem_append.mp hb with hb | hb
  ·rcases List.mem_append.mp hf with hf | hf
   ·exact w'.ds b hb hf
   ·obtain⟨x,hx,hbx⟩:=mem_frozen.mp hf;rcases a.own b hb with z | z
    ·exact nT x hx b (Sl.frz_as hbx) z
    ·exact(okT x hx).some (Sl.frz_as hbx) z
  ·rcases List.mem_append.mp hf with hf | hf
   ·obtain⟨x,hx,hbx⟩:=mem_owned.mp hb;rcases a.frz b hf with z | z | z
    ·exact w.ds b (by rw[jj2];exact lr9 _ hb) (by rw[jj5];exact ll9 _ z)
    ·exact dis b z hb
    ·exact(okT x hx).some (Sl.own_as hbx) z
   ·exact w.ds b (by rw[jj2];exact lr9 _ hb) (by rw[jj5];exact lr9 _ hf)
theorem World.left(w:World K H (L++T)):World K H L:=by
 have nd:=w.nd;rw[jj2,Xe]at nd;exact⟨λx hx=>w.ok x (ll9 _ hx),nd.1,λa ha hf=>w.ds a (by rw[jj2];exact ll9 _ ha) (by rw[jj5];exact ll9 _ hf)⟩
theorem World.right(w:World K H (L++T)):World K H T:=by
 have nd:=w.nd;rw[jj2,Xe]at nd;exact⟨λx hx=>w.ok x (lr9 _ hx),nd.2.1,λa ha hf=>w.ds a (by rw[jj2];exact lr9 _ ha) (by rw[jj5];exact lr9 _ hf)⟩
theorem World.comm(w:World K H (L++T)):World K H (T++L):=by
 refine⟨λx hx=>w.ok x ?_,?_,λa ha hf=>w.ds a ?_ ?_⟩
 ·rcases List.mem_append.mp hx with h | h
  ·exact lr9 _ h
  ·exact ll9 _ h
 ·have nd:=w.nd;rw[jj2,Xe]at nd ⊢;exact⟨nd.2.1,nd.1,λa ha b hb e=>nd.2.2 b hb a ha e.symm⟩
 ·rw[jj2]at ha ⊢;rcases List.mem_append.mp ha with h | h
  ·exact lr9 _ h
  ·exact ll9 _ h
 ·rw[jj5]at hf ⊢;rcases List.mem_append.mp hf with h | h
  ·exact lr9 _ h
  ·exact ll9 _ h
theorem World.tail{q:Option Sl}(w:World K H (q::L)):World K H L:=World.right (L:=[q]) w
theorem World.head(w:World K H (some x::L)):x.ok K H:=w.ok x X4
theorem World.apart(w:World K H (some x::L)):∀a∈x.as,a∉jj6 L:=λa ha hL=>by
 rcases Sl.as_of ha with z | z
 ·have nd:=w.nd;rw[jj3,Xe]at nd;exact nd.2.2 a z a hL rfl
 ·exact w.ds a (by rw[jj3];exact lr9 _ hL) (by rw[jj8];exact ll9 _ z)
theorem World.cons(w:World K H L)(h:x.ok K H)(n:x.own.Nodup)(h1:∀a∈x.own,a∉jj6 L)(h2:∀a∈x.own,a∉jjd L)(h3:∀a∈x.frz,a∉jj6 L)(h4:∀a∈x.own,a∉x.frz):World K H (some x::L):=by
 refine⟨λy hy=>?_,?_,λa ha hf=>?_⟩
 ·rcases List.mem_cons.mp hy with z | z
  ·cases z;exact h
  ·exact w.ok y z
 ·rw[jj3,Xe];exact⟨n,w.nd,λa ha b hb e=>by subst e;exact h1 a ha hb⟩
 ·rw[jj3]at ha;rw[jj8]at hf;rcases List.mem_append.mp ha with ha | ha
  ·rcases List.mem_append.mp hf with hf | hf
   ·exact h4 a ha hf
   ·exact h2 a ha hf
  ·rcases List.mem_append.mp hf with hf | hf
   ·exact h3 a hf ha
   ·exact w.ds a ha hf
theorem World.consNo(w:World K H L)(h:x.ok K H)(ho:x.o=.no)(h3:∀a∈x.as,a∉jj6 L):World K H (some x::L):=by
 have e1:x.own=[]:=by unfold Sl.own;rw[ho]
 have e2:x.frz=x.as:=by unfold Sl.frz;rw[ho]
 exact w.cons h (by rw[e1];exact Xv) (by rw[e1];exact λ_ z=>nomatch z) (by rw[e1];exact λ_ z=>nomatch z) (by rw[e2];exact h3) (by rw[e1];exact λ_ z=>nomatch z)
theorem World.consPu(w:World K H L)(h:x.ok K H)(e:x.as=[]):World K H (some x::L):=by
 have e1:∀a,a∉x.own:=λa ha=>by have:=Sl.own_as ha;rw[e]at this;exact nomatch this
 have e2:∀a,a∉x.frz:=λa ha=>by have:=Sl.frz_as ha;rw[e]at this;exact nomatch this
 have e3:x.own=[]:=List.eq_nil_iff_forall_not_mem.mpr e1;exact w.cons h (by rw[e3];exact Xv) (λa z=>absurd z (e1 a)) (λa z=>absurd z (e1 a)) (λa z=>absurd z (e2 a)) (λa z=>absurd z (e1 a))
theorem jqm{L:Ls}{i:Nat}{q:Option Sl}(h:some y∈L.set i q):q=some y\/some y∈L:=by
 rcases List.mem_or_eq_of_mem_set h with z | z
 ·exact .inr z
 ·exact .inl z.symm
theorem jkm{i:Nat}{a:Addr}(h:a∈jj6 (L.set i (some x))):a∈x.own\/a∈jj6 L:=by
 obtain⟨y,hy,ha⟩:=mem_owned.mp h;rcases jqm hy with z | z
 ·cases z;exact .inl ha
 ·exact .inr (mem_owned.mpr ⟨y,z,ha⟩)
theorem jkr{i:Nat}{a:Addr}(h:a∈jjd (L.set i (some x))):a∈x.frz\/a∈jjd L:=by
 obtain⟨y,hy,ha⟩:=mem_frozen.mp h;rcases jqm hy with z | z
 ·cases z;exact .inl ha
 ·exact .inr (mem_frozen.mpr ⟨y,z,ha⟩)
theorem jqf:∀{L:Ls} {i:Nat},(x.own++jj6 L).Nodup->(jj6 (L.set i (some x))).Nodup
 | [],_,h=>by simp
 | q::L,0,h=>by
  rw[List.set_cons_zero,jj3];have e:jj6 (q::L)=q.elim [] Sl.own++jj6 L:=by simp[jj6]
  rw[e,Xe]at h;obtain⟨h1,h2,h3⟩:=h;rw[Xe]at h2 ⊢;exact⟨h1,h2.2.1,λa ha b hb=>h3 a ha b (lr9 _ hb)⟩
 | q::L,i+1,h=>by
  rw[List.set_cons_succ];have e:∀M:Ls,jj6 (q::M)=q.elim [] Sl.own++jj6 M:=λM=>by simp[jj6]
  rw[e]at h ⊢;rw[Xe]at h;obtain⟨h1,h2,h3⟩:=h;rw[Xe]at h2;rw[Xe];refine⟨h2.1,jqf (by rw[Xe];exact⟨h1,h2.2.1,λa ha b hb=>h3 a ha b (lr9 _ hb)⟩),λa ha b hb e=>?_⟩;subst e;rcases jkm hb with z | z
  ·exact h3 a z a (ll9 _ ha) rfl
  ·exact h2.2.2 a ha a z rfl
theorem World.set{i:Nat}(w:World K H (some x::L)):World K H (L.set i (some x)):=by
 refine⟨λy hy=>?_,jqf (by have:=w.nd;rwa [jj3]at this),λa ha hf=>?_⟩
 ·rcases jqm hy with z | z
  ·cases z;exact w.head
  ·exact w.ok y (lc9 _ z)
 ·refine w.ds a ?_ ?_
  ·rw[jj3];exact List.mem_append.mpr (jkm ha)
  ·rw[jj8];exact List.mem_append.mpr (jkr hf)
theorem Step.set{i:Nat}:Step H (some x::L) H (L.set i (some x)) where
 keep:=λ_ _ h _=>h
 own:=λa ha=>.inl (by rw[jj3];exact List.mem_append.mpr (jkm ha))
 frz:=λa ha=>.inl (by rw[jj8];exact List.mem_append.mpr (jkr ha))
theorem Step.drop{q:Option Sl}:Step H (q::L) H L where
 keep:=λ_ _ h _=>h
 own:=λa ha=>.inl (by rw[show(q::L:Ls)=[q]++L from rfl,jj2];exact lr9 _ ha)
 frz:=λa ha=>.inl (by rw[show(q::L:Ls)=[q]++L from rfl,jj5];exact lr9 _ ha)
theorem jjz{i:Nat}(h:L[i]?=some (some x)):some x∈L:=Xp h
theorem jwk(x:Sl):x.let.own=[]/\x.let.frz=x.as/\x.let.as=x.as:=⟨rfl,rfl,rfl⟩
theorem kwb{i:Nat}{a:Addr}(h:a∈jj6 (L.set i (some x.let))):a∈jj6 L:=by
 rcases jkm h with z | z
 ·exact nomatch z
 ·exact z
theorem kxv:∀{L:Ls} {i:Nat},(jj6 L).Nodup->(∀a∈jj6 L,a∉jjd L)->L[i]?=some (some x)->∀a∈x.as,a∉jj6 (L.set i (some x.let))
 | [],_,_,_,h,_,_=>by simp at h
 | q::L,0,nd,ds,h,a,ha=>by
  have e:q=some x:=by simpa using h
  subst e;rw[List.set_cons_zero,jj3];intro hm;have hm:a∈jj6 L:=by simpa [jwk]using hm
  rcases Sl.as_of ha with z | z
  ·rw[jj3,Xe]at nd;exact nd.2.2 a z a hm rfl
  ·exact ds a (by rw[jj3];exact lr9 _ hm) (by rw[jj8];exact ll9 _ z)
 | q::L,i+1,nd,ds,h,a,ha=>by
  have h:L[i]?=some (some x):=by simpa using h
  rw[List.set_cons_succ];have e:∀M:Ls,jj6 (q::M)=q.elim [] Sl.own++jj6 M:=λM=>by simp[jj6]
  have f:jjd (q::L)=q.elim [] Sl.frz++jjd L:=by simp[jjd]
  rw[e];intro hm;rw[e,Xe]at nd;rcases List.mem_append.mp hm with hm | hm
  ·rcases Sl.as_of ha with z | z
   ·exact nd.2.2 a hm a (mem_owned.mpr ⟨x,jjz h,z⟩) rfl
   ·exact ds a (by rw[e];exact ll9 _ hm) (by rw[f];exact lr9 _ (mem_frozen.mpr ⟨x,jjz h,z⟩))
  ·exact kxv (L:=L) nd.2.1 (λb hb hf=>ds b (by rw[e];exact lr9 _ hb) (by rw[f];exact lr9 _ hf)) h a ha hm
theorem jwj(h:x.ok K H):x.let.ok K H:=RepO.wk h
theorem World.let{i:Nat}(w:World K H L)(h:L[i]?=some (some x)):World K H (L.set i (some x.let)):=by
 have out:=kxv w.nd w.ds h;refine⟨λy hy=>?_,jqf (by rw[(jwk x).1];exact w.nd),λa ha hf=>?_⟩
 ·rcases jqm hy with z | z
  ·cases z;exact jwj (w.ok x (jjz h))
  ·exact w.ok y z
 ·rcases jkr hf with z | z
  ·exact out a z ha
  ·exact w.ds a (kwb ha) z
theorem World.read{i:Nat}(w:World K H L)(h:L[i]?=some (some x)):World K H (some x.let::L.set i (some x.let)):=
 (w.let h).consNo (jwj (w.ok x (jjz h))) rfl (kxv (x:=x) w.nd w.ds h)
theorem Step.read{i:Nat}(h:L[i]?=some (some x)):Step H L H (some x.let::L.set i (some x.let)) where
 keep:=λ_ _ h _=>h
 own:=λa ha=>.inl (by rw[jj3,(jwk x).1]at ha;exact kwb ha)
 frz:=λa ha=>by
  have hx:=jjz h;have q:∀a∈x.as,a∈jjd L\/a∈jj6 L\/H a=none:=λa ha=>by
   rcases Sl.as_of ha with z | z
   ·exact .inr (.inl (mem_owned.mpr ⟨x,hx,z⟩))
   ·exact .inl (mem_frozen.mpr ⟨x,hx,z⟩)
  rw[jj8]at ha;rcases List.mem_append.mp ha with z | z
  ·exact q a z
  ·rcases jkr z with z | z
   ·exact q a z
   ·exact .inl z
end
inductive Mt:En->L2.St->Ls->Prop
 | nil:Mt [] [] []
 | un {E:En} {σ:L2.St} {L:Ls} {y:Option V}:Mt E σ L->Mt (none::E) (y :: σ) (none::L)
 | cons {E:En} {σ:L2.St} {L:Ls} {x:Sl}:Mt E σ L->Mt (some (x.o,x.d)::E) (some x.v :: σ) (some x::L)
theorem Mt.get:∀{E:En} {σ:L2.St} {L:Ls} {i:Nat} {o:Own} {d:D},Mt E σ L->E[i]?=some (some (o,d))->∃x,L[i]?=some (some x)/\x.o=o/\x.d=d/\σ[i]?=some (some x.v)
 | _,_,_,_,_,_,.nil,h=>by simp at h
 | _,_,_,0,_,_,.un _,h=>by simp at h
 | _,_,_,i+1,_,_,.un m,h=>by simpa using m.get (i:=i) (by simpa using h)
 | _,_,_,0,_,_,.cons (x:=x) m,h=>by
  simp only[List.getElem?_cons_zero,Option.some.injEq,Prod.mk.injEq]at h;exact⟨x,by simp,h.1,h.2,by simp⟩
 | _,_,_,i+1,_,_,.cons m,h=>by simpa using m.get (i:=i) (by simpa using h)
theorem Mt.set{x:Sl}:∀{E:En} {σ:L2.St} {L:Ls} (i:Nat),Mt E σ L->Mt (E.set i (some (x.o,x.d))) (σ.set i (some x.v)) (L.set i (some x))
 | _,_,_,_,.nil=>.nil
 | _,_,_,0,.un m=>.cons m
 | _,_,_,i+1,.un m=>.un (m.set i)
 | _,_,_,0,.cons m=>.cons m
 | _,_,_,i+1,.cons m=>.cons (m.set i)
theorem Mt.let{x:Sl}:∀{E:En} {σ:L2.St} {L:Ls} {i:Nat},Mt E σ L->L[i]?=some (some x)->Mt (E.set i (some (.no,x.d))) σ (L.set i (some x.let))
 | _,_,_,_,.nil,h=>by simp at h
 | _,_,_,0,.un m,h=>by simp at h
 | _,_,_,i+1,.un m,h=>.un (m.let (i:=i) (by simpa using h))
 | _,_,_,0,.cons (x:=y) m,h=>by
  have e:y=x:=by simpa using h
  subst e;exact .cons (x:=y.let) m
 | _,_,_,i+1,.cons m,h=>.cons (m.let (i:=i) (by simpa using h))
theorem Mt.len:∀{E:En} {σ:L2.St} {L:Ls},Mt E σ L->E.length=σ.length/\L.length=σ.length
 | _,_,_,.nil=>⟨rfl,rfl⟩
 | _,_,_,.un m=>by simp[m.len]
 | _,_,_,.cons m=>by simp[m.len]
def sls(L:Ls):List Sl:=L.filterMap id
theorem jkx(L:Ls):jj6 L=(sls L).flatMap Sl.own:=by
 induction L with
 | nil=>rfl
 | cons q L ih =>
  cases q with
  | none=>rw[qk9,ih];rfl
  | some x=>rw[jj3,ih];rfl
theorem jkv(L:Ls):jjd L=(sls L).flatMap Sl.frz:=by
 induction L with
 | nil=>rfl
 | cons q L ih =>
  cases q with
  | none=>rw[kxz,ih];rfl
  | some x=>rw[jj8,ih];rfl
theorem mem_sls{L:Ls}{x:Sl}:x∈sls L↔some x∈L:=by simp[sls]
@[simp] theorem jvr (L T:Ls):sls (L++T)=sls L++sls T:=by simp[sls]
@[simp] theorem qz4 (L:Ls):sls (none::L)=sls L:=rfl
@[simp] theorem kzm (x:Sl)(L:Ls):sls (some x::L)=x::sls L:=rfl
@[simp] theorem wqs:sls []=[]:=rfl
@[simp] theorem wqt (T:List Sl):sls (T.map some)=T:=by simp[sls]
@[simp] theorem vqd (k:Nat):sls (List.replicate k none)=[]:=by
 induction k with
 | zero=>rfl
 | succ k ih=>rw[List.replicate_succ,qz4,ih]
theorem jqc{α β:Type}(f:α->List β){l l':List α}(h:l.Sublist l'):(l.flatMap f).Sublist (l'.flatMap f):=by
 induction h with
 | slnil=>exact List.Sublist.refl _
 | cons a _ ih=>rw[Yu];exact List.Sublist.trans ih (List.sublist_append_right _ _)
 | cons_cons a _ ih=>rw[Yu,Yu];exact List.Sublist.append (List.Sublist.refl _) ih
section
variable {K:PySem.W.Frag}{H H':Hp}{L L' M M':Ls}
theorem World.same(w:World K H L)(p:(sls L).Perm (sls L')):World K H L':=by
 have po:(jj6 L).Perm (jj6 L'):=by rw[jkx,jkx];exact p.flatMap_right _
 have pf:(jjd L).Perm (jjd L'):=by rw[jkv,jkv];exact p.flatMap_right _
 exact⟨λx hx=>w.ok x (mem_sls.mp (p.mem_iff.mpr (mem_sls.mpr hx))),po.nodup_iff.mp w.nd,λa ha hf=>w.ds a (po.mem_iff.mpr ha) (pf.mem_iff.mpr hf)⟩
theorem Step.same(s:Step H L H' L')(p:(sls L).Perm (sls M))(p':(sls L').Perm (sls M')):Step H M H' M':=by
 have po:(jj6 L).Perm (jj6 M):=by rw[jkx,jkx];exact p.flatMap_right _
 have pf:(jjd L).Perm (jjd M):=by rw[jkv,jkv];exact p.flatMap_right _
 have po':(jj6 L').Perm (jj6 M'):=by rw[jkx,jkx];exact p'.flatMap_right _
 have pf':(jjd L').Perm (jjd M'):=by rw[jkv,jkv];exact p'.flatMap_right _
 exact⟨λa ob h hn=>s.keep a ob h λz=>hn (po.mem_iff.mp z),λa ha=>(s.own a (po'.mem_iff.mpr ha)).imp (λz=>po.mem_iff.mp z) id,
  λa ha=>(s.frz a (pf'.mem_iff.mpr ha)).imp (λz=>pf.mem_iff.mp z) λz=>z.imp (λz=>po.mem_iff.mp z) id⟩
theorem World.sub(w:World K H L)(p:(sls L').Sublist (sls L)):World K H L':=by
 refine⟨λx hx=>w.ok x (mem_sls.mp (p.subset (mem_sls.mpr hx))),?_,λa ha hf=>w.ds a ?_ ?_⟩
 ·have:=w.nd;rw[jkx]at this ⊢;exact(jqc _ p).nodup this
 ·rw[jkx]at ha ⊢;exact(jqc _ p).subset ha
 ·rw[jkv]at hf ⊢;exact(jqc _ p).subset hf
theorem Step.sub(s:Step H L H' L')(p:(sls M).Sublist (sls L')):Step H L H' M:=by
 refine⟨s.keep,λa ha=>s.own a ?_,λa ha=>s.frz a ?_⟩
 ·rw[jkx]at ha ⊢;exact(jqc _ p).subset ha
 ·rw[jkv]at ha ⊢;exact(jqc _ p).subset ha
end
theorem jx8:∀{L:Ls} {j:Nat},(sls (at' L j::L.set j none)).Perm (sls L)
 | [],j=>by simp[at',sls]
 | q::L,0=>by
  cases q with
  | none=>simp[at',sls]
  | some x=>simp[at',sls]
 | q::L,j+1=>by
  have ih:=jx8 (L:=L) (j:=j);have e:at' (q::L) (j+1)=at' L j:=by simp[at']
  rw[e,List.set_cons_succ];have e2:∀(a b:Option Sl) (M:Ls),(sls (a::b::M)).Perm (sls (b::a::M)):=λa b M=>by
   cases a<;>cases b<;>simp[sls]
   exact List.Perm.swap ..
  refine(e2 _ _ _).trans ?_;cases q with
  | none=>simpa [sls]using ih
  | some y=>simpa [sls]using ih
theorem qjm:∀{R:List Nat} {L:Ls},R.Nodup->(sls (R.map (at' L)++clr R L)).Perm (sls L)
 | [],L,_=>by simp[clr]
 | j::R,L,h=>by
  rw[List.nodup_cons]at h;have e:R.map (at' L)=R.map (at' (L.set j none)):=by
   apply List.map_congr_left;intro i hi;have:j≠i:=λe=>h.1 (e▸hi)
   unfold at';rw[Yj this]
  rw[List.map_cons,List.cons_append,clr,e];have ih:=qjm (R:=R) (L:=L.set j none) h.2;refine List.Perm.trans ?_ (jx8 (L:=L) (j:=j));cases hq:at' L j with
  | none=>simpa [sls]using ih
  | some x=>simpa [sls]using ih
theorem qwz{α:Type}:∀{R:List Nat} {L:List (Option α)},(clr R L).length=L.length
 | [],_=>rfl
 | j::R,L=>by rw[clr,qwz,List.length_set]
theorem qx0{α:Type}:∀{R:List Nat} {L:List (Option α)} {j:Nat},j∈R->at' (clr R L) j=none
 | [],_,_,h=>by cases h
 | i :: R,L,j,h=>by
  rw [clr]
  by_cases hR:j∈R
  ·exact qx0 hR
  ·have e:j=i:=by simpa [hR]using h
   subst e;have gen:∀{R:List Nat} {M:List (Option α)},j∉R->at' (clr R M) j=at' M j:=by
    intro R
    induction R with
    | nil=>intro M _;rfl
    | cons r R ih =>
     intro M h;rw[Xu,not_or]at h;rw[clr,ih h.2];unfold at';rw[Yj (Ne.symm h.1)]
   rw[gen hR];unfold at'
   by_cases hl:j<L.length
   ·rw[List.getElem?_set_self hl];rfl
   ·rw[List.set_eq_of_length_le (by omega),Y8 (by omega)];rfl
theorem kx8:∀{R:List Nat} {B L:Ls},R.Nodup->(∀j∈R,at' L j=none)->(∀j∈R,j<L.length)->B.length=R.length->(sls (back R B L)).Perm (sls (B++L))
 | [],B,L,_,_,_,hl=>by
  have:B=[]:=by simpa using hl
  subst this;simp [back]
 | j :: R,[],L,_,_,_,hl=>by simp at hl
 | j :: R,q::B,L,hn,hz,hr,hl=>by
  rw [List.nodup_cons]at hn;rw [back];have hj:=hr j X4;have ih:=kx8 (R:=R) (B:=B) (L:=L.set j q) hn.2 (λi hi=>by
   have:j≠i:=λe=>hn.1 (e▸hi)
   unfold at';rw [Yj this];exact hz i (lc9 _ hi)) (λi hi=>by rw[List.length_set];exact hr i (lc9 _ hi)) (by simpa using hl)
  refine ih.trans ?_;have sp:∀{M:Ls} {i:Nat},at' M i=none->i<M.length->(sls (M.set i q)).Perm (sls (q::M)):=by
   intro M
   induction M with
   | nil=>intro i _ h;simp at h
   | cons r M ihM =>
    intro i h1 h2;cases i with
    | zero =>
     have:r=none:=by simpa [at']using h1
     subst this;cases q<;>simp[sls]
    | succ i =>
     have:=ihM (i:=i) (by simpa [at']using h1) (by simpa using h2);rw[List.set_cons_succ];cases r with
     | none=>cases q<;>simpa [sls]using this
     | some y =>
      cases q with
      | none=>simpa [sls]using this
      | some x =>
       simp only[kzm]at this ⊢;exact(this.cons y).trans (List.Perm.swap ..)
  rw[jvr,List.cons_append];have h1:=sp (hz j X4) hj;have h2:(sls B++sls (L.set j q)).Perm (sls B++sls (q::L)):=h1.append_left _;refine h2.trans ?_;cases q with
  | none=>simp
  | some x =>
   simp only[kzm,jvr];exact List.perm_middle
section
variable {K:PySem.W.Frag}{H H1 H2 H':Hp}{L L1 L' T:Ls}{x y:Sl}
theorem jqa(p:L.Perm L'):(jj6 L).Perm (jj6 L'):=p.flatMap_right _
theorem jww(p:L.Perm L'):(jjd L).Perm (jjd L'):=p.flatMap_right _
theorem World.perm(w:World K H L)(p:L.Perm L'):World K H L' :=
 ⟨λx hx=>w.ok x (p.mem_iff.mpr hx),(jqa p).nodup_iff.mp w.nd,λa ha hf=>w.ds a ((jqa p).mem_iff.mpr ha) ((jww p).mem_iff.mpr hf)⟩
theorem Step.perm(s : Step H L H' L'){M M' : Ls}(p : L.Perm M)(p' : L'.Perm M'): Step H M H' M' :=
  ⟨λa ob h hn => s.keep a ob h λz => hn ((jqa p).mem_iff.mp z),
   λa ha => (s.own a ((jqa p').mem_iff.mpr ha)).imp (λz => (jqa p).mem_iff.mp z) id,
   λa ha => (s.frz a ((jww p').mem_iff.mpr ha)).imp (λz => (jww p).mem_iff.mp z) λz => z.imp (λz => (jqa p).mem_iff.mp z) id⟩
theorem Step.frm(s:Step H L H' L'):Step H (L++T) H' (L'++T) where
 keep:=λa ob h hn=>s.keep a ob h λz=>hn (by rw[jj2];exact ll9 _ z)
 own:=λa ha=>by
  rw[jj2]at ha ⊢;rcases List.mem_append.mp ha with z | z
  ·exact(s.own a z).imp (ll9 _) id
  ·exact .inl (lr9 _ z)
 frz:=λa ha=>by
  rw[jj5]at ha ⊢;rw[jj2];rcases List.mem_append.mp ha with z | z
  ·exact(s.frz a z).imp (ll9 _) λz=>z.imp (ll9 _) id
  ·exact .inl (lr9 _ z)
theorem wke(w:World K H (T++L))(s:Step H L H' L')(w':World K H' L'):World K H' (T++L')/\Step H (T++L) H' (T++L'):=by
 have w1:World K H (L++T):=w.comm;exact⟨(s.frame w1 w' w1.left).comm,s.frm.perm List.perm_append_comm List.perm_append_comm⟩
end
theorem ex8{α β γ:Type}{P:Prop}{a b c d e:α->β->γ->Prop}(h:∃x y z,a x y z/\b x y z/\c x y z/\d x y z/\e x y z)(f:∀x y z,a x y z->b x y z->c x y z->d x y z->e x y z->P):P :=
 h.elim λx h=>h.elim λy h=>h.elim λz h=>f x y z h.1 h.2.1 h.2.2.1 h.2.2.2.1 h.2.2.2.2
theorem ex7{α β γ:Type}{P:Prop}{a b c d:α->β->γ->Prop}(h:∃x y z,a x y z/\b x y z/\c x y z/\d x y z)(f:∀x y z,a x y z->b x y z->c x y z->d x y z->P):P :=
 h.elim λx h=>h.elim λy h=>h.elim λz h=>f x y z h.1 h.2.1 h.2.2.1 h.2.2.2
theorem jki{X:Cx}{e:Expr}{t t':TE}(h:PE X e t)(w:∀ σ H Q,t' σ H Q->t σ H Q):PE X e t':=λpins s σ H Q I q=>h pins s σ H Q I (w σ H Q q)
theorem qqy{X:Cx}{e:Expr}{t t':TT}(h:PT X e t)(w:∀ σ H Q,t' σ H Q->t σ H Q):PT X e t':=λpins s σ H Q I q=>h pins s σ H Q I (w σ H Q q)
theorem jve{X:Cx}{e:Stmt}{t t':TS}(h:PS X e t)(w:∀D σ H,t' D σ H->t D σ H):PS X e t':=λpins s σ H D I q=>h pins s σ H D I (w D σ H q)
theorem qqz{X:Cx}{e:List Stmt}{t t':TS}(h:PSs X e t)(w:∀D σ H,t' D σ H->t D σ H):PSs X e t':=λpins s σ H D I q=>h pins s σ H D I (w D σ H q)
structure Fx0 where
 K:PySem.W.Frag
 mg:Str->Option Value
 EX:XK
def Xc{α:Type}(Z:Fx0)(σ:L2.St)(H:Hp)(L:Ls)(r:Res α):Prop:=∀E' c,r=.exc E' c->∀C L' H',Z.mg c=some (.ref C)->Mt E' σ L'->World Z.K H' L'->Step H L H' L'->Z.EX (.ref C) none H'
theorem Xc.step{α:Type}{Z:Fx0}{σ:L2.St}{H H1:Hp}{L L1:Ls}{r:Res α}(x:Xc Z σ H L r)(s:Step H L H1 L1):Xc Z σ H1 L1 r:=λE' c e C L' H' hm m w s'=>x E' c e C L' H' hm m w (s.trans s')
theorem Xc.map{α β:Type}{Z:Fx0}{σ:L2.St}{H:Hp}{L:Ls}{r:Res α}{E':En}{c:Str}(x:Xc Z σ H L r)(e:r=.exc E' c):Xc Z σ H L (.exc E' c:Res β):=λE1 c1 e1=>by
 injection e1 with h1 h2;subst h1 h2;exact x _ _ e
def tQ(Z:Fx0)(q:Bool)(c:Ex):TE:=fun σ H Q=>∃E L r,Mt E σ L/\World Z.K H L/\c E=some r/\Xc Z σ H L r /\
 ∀E' a,r=.ok E' a->∀(x:Sl) L' H',x.o=a.1->x.d=a.2->Mt E' σ L'->World Z.K H' (some x::L')->Step H L H' (some x::L')->(q=true->jqp H H'/\∀b∈x.own,H b=none)->Q x.v H'
def Src(H:Hp)(L:Ls)(as:List Addr):Prop:=∀b∈as,b∈jjd L\/b∈jj6 L\/H b=none
theorem Src.back{H H1:Hp}{L L1:Ls}{as:List Addr}(h:Src H1 L1 as)(s:Step H L H1 L1):Src H L as:=λb hb=>by
 rcases h b hb with z | z | z
 ·exact s.frz b z
 ·exact .inr (s.own b z)
 ·by_cases ho:b∈jj6 L
  ·exact .inr (.inl ho)
  ·refine .inr (.inr ?_);cases e:H b with
   | none=>rfl
   | some ob=>rw[s.keep b ob e ho]at z;cases z
def tV(Z:Fx0)(q:Bool)(c:Ex):TE:=fun σ H Q=>∃E L r,Mt E σ L/\World Z.K H L/\c E=some r/\Xc Z σ H L r /\
 ∀E' a,r=.ok E' a->∀(x:Sl) L' H',x.o=a.1->x.d=a.2->Mt E' σ L'->World Z.K H' L'->x.ok Z.K H'->(∀b∈x.frz,b∉jj6 L')->Src H L x.as->Step H L H' L'->(q=true->jqp H H')->Q x.v H'
def QE(X:Cx)(Z:Fx0)(q:Bool)(c:Ex)(e:Expr):Prop:=PE X e (tQ Z q c)
def QV(X:Cx)(Z:Fx0)(q:Bool)(c:Ex)(e:Expr):Prop:=PE X e (tV Z q c)
section
variable {X:Cx}{Z:Fx0}{q qa qb:Bool}{a b c:Ex}{e ea eb:Expr}{pos:Pos}{α:Type}{σ:L2.St}{H:Hp}{L:Ls}{E:En}
theorem jjx{β:Type}{m:Option (Res α)}{F:En->α->Option (Res β)}{r:Res β}(h:bnd m F=some r):(∃E1 x,m=some (.ok E1 x)/\F E1 x=some r)\/∃E1 c,m=some (.exc E1 c)/\r=.exc E1 c:=by
 cases m with
 | none=>cases h
 | some q =>
  cases q with
  | ok E1 x=>exact .inl ⟨E1,x,rfl,h⟩
  | exc E1 c=>exact .inr ⟨E1,c,rfl,(oq9 h).symm⟩
theorem kqt{F:En->Sd->Option (Res α)}{r:Res α}{G:VK}(m:Mt E σ L)(w:World Z.K H L)(h:bnd (a E) F=some r)(xc:Xc Z σ H L r)
  (k:∀E1 s,F E1 s=some r->∀(x:Sl) L1 H1,x.o=s.1->x.d=s.2->Mt E1 σ L1->World Z.K H1 (some x::L1)->Step H L H1 (some x::L1)->(q=true->jqp H H1/\∀b∈x.own,H b=none)->G x.v H1):tQ Z q a σ H G:=by
 rcases jjx h with⟨E1,s,h1,h2⟩| ⟨E1,c,h1,h2⟩
 ·exact⟨E,L,_,m,w,h1,(λ_ _ z=>by cases z),λE' s' z x L' H' e1 e2 m' w' st sm=>by
   injection z with z1 z2;subst z1 z2;exact k _ _ h2 x L' H' e1 e2 m' w' st sm⟩
 ·exact⟨E,L,_,m,w,h1,xc.map h2,λE' s' z=>by cases z⟩
theorem jvj{F:En->Sd->Option (Res α)}{r:Res α}{G:VK}(m:Mt E σ L)(w:World Z.K H L)(h:bnd (a E) F=some r)(xc:Xc Z σ H L r)
  (k:∀E1 s,F E1 s=some r->∀(x:Sl) L1 H1,x.o=s.1->x.d=s.2->Mt E1 σ L1->World Z.K H1 L1->x.ok Z.K H1->(∀b∈x.frz,b∉jj6 L1)->Src H L x.as->Step H L H1 L1->(q=true->jqp H H1)->G x.v H1):tV Z q a σ H G:=by
 rcases jjx h with⟨E1,s,h1,h2⟩| ⟨E1,c,h1,h2⟩
 ·exact⟨E,L,_,m,w,h1,(λ_ _ z=>by cases z),λE' s' z x L' H' e1 e2 m' w' ok fr sr st sm=>by
   injection z with z1 z2;subst z1 z2;exact k _ _ h2 x L' H' e1 e2 m' w' ok fr sr st sm⟩
 ·exact⟨E,L,_,m,w,h1,xc.map h2,λE' s' z=>by cases z⟩
theorem jvq{x:Sl}{K:PySem.W.Frag}{H1 H2:Hp}{L1 L2':Ls}(ok:x.ok K H1)(fr:∀b∈x.frz,b∉jj6 L1)(st:Step H1 L1 H2 L2')(sm:jqp H1 H2):x.ok K H2/\∀b∈x.frz,b∉jj6 L2' :=
 ⟨RepO.kp ok (Kp.of_same sm),λb hb ho=>(st.own b ho).elim (fr b hb) λz=>ok.some (Sl.frz_as hb) z⟩
theorem jqr{x:Option α}{r:Res α}(h:val E x=some r):∃y,x=some y/\r=.ok E y:=by
 cases x with
 | none=>cases h
 | some y=>exact⟨y,rfl,(oq9 h).symm⟩
theorem QE.weak(h:QE X Z true c e):QE X Z q c e:=jki h fun σ H Q h_z=>ex8 h_z λE L r m w hc xc k=>⟨E,L,r,m,w,hc,xc,λE' s z x L' H' e1 e2 m' w' st sm=>k E' s z x L' H' e1 e2 m' w' st λ_=>sm rfl⟩
theorem jx7{x:Sl}{H1:Hp}{L1:Ls}(st:Step H L H1 (some x::L1)):Src H L x.as:=λb hb=>by
 rcases Sl.as_of hb with z | z
 ·exact .inr (st.own b (by rw[jj3];exact ll9 _ z))
 ·exact st.frz b (by rw[jj8];exact ll9 _ z)
theorem jjq(h:QE X Z q c e):QV X Z q (vE c) e:=jki h fun σ H Q h_z=>ex8 h_z λE L r m w hc xc k =>
 kqt m w hc xc λE1 s h1 x L1 H1 e1 e2 m1 w1 st sm=>by
  cases oq9 h1;exact k _ _ rfl x.let L1 H1 rfl e2 m1 w1.tail (jwj w1.head) (λb hb=>w1.apart b hb) (jx7 (x:=x) st) (st.trans Step.drop) λhq=>(sm hq).1
theorem jx5{x:Sl}{H1:Hp}{L1:Ls}(st:Step H L H1 L1)(sr:Src H L x.as)(ho:x.own=[]):Step H L H1 (some x::L1) where
 keep:=st.keep
 own:=λb hb=>by rw[jj3,ho]at hb;exact st.own b hb
 frz:=λb hb=>by
  rw[jj8]at hb;rcases List.mem_append.mp hb with z | z
  ·exact sr b (Sl.frz_as z)
  ·exact st.frz b z
theorem qvd{x:Sl}(h:x.o=.no):x.own=[]:=by unfold Sl.own;rw[h]
theorem kwq{x:Sl}(h:x.o=.no):x.frz=x.as:=by unfold Sl.frz;rw[h]
theorem vvg{x:Sl}(h:x.as=[]):x.own=[]:=List.eq_nil_iff_forall_not_mem.mpr λa ha=>by have:=Sl.own_as ha;rw[h]at this;exact nomatch this
theorem jv1(h:QV X Z q c e):QE X Z q (cH c) e:=jki h fun σ H Q h_z=>ex8 h_z λE L r m w hc xc k =>
 jvj m w hc xc λE1 s h1 x L1 H1 e1 e2 m1 w1 ok fr sr st sm=>by
  by_cases ho:s.1=.no
  ·rw[Xf ho]at h1;cases oq9 h1;have eo:x.o=.no:=e1.trans ho;exact k _ _ rfl x L1 H1 eo e2 m1 (w1.consNo ok eo λb hb=>fr b (by rw[kwq eo];exact hb)) (jx5 st sr (qvd eo)) λhq=>⟨sm hq,by rw[qvd eo];exact λ_ z=>(nomatch z)⟩
  ·rw[Xj ho]at h1
   by_cases hp:s.2.pure=true
   ·rw[Xf hp]at h1;cases oq9 h1;obtain⟨z,rp⟩:=RepL.pu (g':=false) (RepO.wk ok) (by rw[e2];exact hp);exact k _ _ rfl ⟨.dp,x.d,x.v,[]⟩ L1 H1 rfl e2 m1 (w1.consPu rp rfl) (jx5 (x:=⟨.dp,x.d,x.v,[]⟩) st (λb hb=>nomatch hb) rfl) λhq=>⟨sm hq,λ_ z=>(nomatch z)⟩
   ·rw[Xj hp]at h1;cases h1
theorem q_C{d:D}{v:V}(h:PE X e (tC v))(hr:∀H,RepL Z.K H false d v []):QE X Z true (cC d) e:=jki h fun σ H Q h_z=>ex8 h_z λE L r m w hc xc k=>by
 cases oq9 hc;exact k _ _ rfl ⟨.dp,d,v,[]⟩ L H rfl rfl m (w.consPu (hr H) rfl) (jx5 (x:=⟨.dp,d,v,[]⟩) Step.refl (λb hb=>nomatch hb) rfl) λ_=>⟨λ_ _ z=>z,λ_ z=>(nomatch z)⟩
theorem q_V{i:Nat}(h:PE X e (qxv i)):QE X Z true (cV i) e:=jki h fun σ H Q h_z=>ex8 h_z λE L r m w hc xc k=>by
 unfold cV at hc
 split at hc
 ·rename_i o d hE;cases oq9 hc;obtain⟨x,h1,h2,h3,h4⟩:=m.get hE;refine⟨x.v,h4,k _ _ rfl x.let _ H rfl h3 ?_ (w.read h1) (Step.read h1) λ_=>⟨λ_ _ z=>z,λ_ z=>(nomatch z)⟩⟩;have:=m.let h1
  rwa [h3]at this
 ·cases hc
theorem qvl:∀{E:En} {σ:L2.St} {L:Ls} (j:Nat),Mt E σ L->Mt (E.set j none) σ (L.set j none):=by
 intro E σ L j m
 induction m generalizing j with
 | nil=>exact .nil
 | un m ih=>cases j with
  | zero=>exact .un m
  | succ j=>exact .un (ih j)
 | cons m ih=>cases j with
  | zero=>exact .un m
  | succ j=>exact .cons (ih j)
theorem jxd{x:Sl}:∀{L:Ls} {i:Nat},L[i]?=some (some x)->(none::L).Perm (some x::L.set i none)
 | [],_,h=>by simp at h
 | q::L,0,h=>by
  have e:q=some x:=by simpa using h
  subst e;exact List.Perm.swap ..
 | q::L,i+1,h=>by
  have:=jxd (L:=L) (i:=i) (by simpa using h);rw[List.set_cons_succ];exact(List.Perm.swap ..).trans ((this.cons q).trans (List.Perm.swap ..))
theorem vzj{i:Nat}(h:PE X e (qxv i)):QE X Z false (cMv i) e:=jki h fun σ H Q h_z=>ex8 h_z λE L r m w hc xc k=>by
 unfold cMv at hc
 split at hc
 ·rename_i s hE;cases oq9 hc;obtain⟨o,d⟩:=s;obtain⟨x,h1,h2,h3,h4⟩:=m.get hE;have wn:World Z.K H (none::L):=⟨λy hy=>w.ok y (by simpa using hy),by simpa using w.nd,by simpa using w.ds⟩;have sn:Step H L H (none::L):=⟨λ_ _ z _=>z,λa z=>.inl (by simpa using z),λa z=>.inl (by simpa using z)⟩;exact⟨x.v,h4,k _ _ rfl x _ H h2 h3 (qvl i m) (wn.perm (jxd h1)) (sn.trans (Step.refl.perm (List.Perm.refl _) (jxd h1))) λz=>(nomatch z)⟩
 ·cases hc
theorem q_vV{i:Nat}(h:PE X e (qxv i)):QV X Z true (vV i) e:=jki h fun σ H Q h_z=>ex8 h_z λE L r m w hc xc k=>by
 unfold vV at hc
 split at hc
 ·rename_i s hE;cases oq9 hc;obtain⟨o,d⟩:=s;obtain⟨x,h1,h2,h3,h4⟩:=m.get hE;have hx:=jjz h1;refine⟨x.v,h4,k _ _ rfl x L H h2 h3 m w (w.ok x hx) (λb hb ho=>w.ds b ho (mem_frozen.mpr ⟨x,hx,hb⟩)) (λb hb=>?_) Step.refl λ_=>λ_ _ z=>z⟩;rcases Sl.as_of hb with z | z
  ·exact .inr (.inl (mem_owned.mpr ⟨x,hx,z⟩))
  ·exact .inl (mem_frozen.mpr ⟨x,hx,z⟩)
 ·cases hc
structure Out (K:PySem.W.Frag)(H H':Hp)(z:Sl)(fr:List Addr):Prop where
 same:jqp H H'
 ok:z.ok K H'
 new:∀b∈z.own,H b=none
 nd:z.own.Nodup
 fr:∀b∈z.frz,b∈fr
def Ad1(K:PySem.W.Frag)(r:V->Hp->VK->Prop)(f:Sd->Option Sd):Prop:=∀(H:Hp) (x:Sl) (s:Sd) (Q:VK),x.ok K H->f (x.o,x.d)=some s->(∀(z:Sl) H',z.o=s.1->z.d=s.2->Out K H H' z x.frz->Q z.v H')->r x.v H Q
def Ad2(K:PySem.W.Frag)(r:R2)(f:Sd->Sd->Option Sd):Prop:=∀(H:Hp) (x y:Sl) (s:Sd) (Q:VK),x.ok K H->y.ok K H->f (x.o,x.d) (y.o,y.d)=some s->(∀(z:Sl) H',z.o=s.1->z.d=s.2->Out K H H' z (x.frz++y.frz)->Q z.v H')->r x.v y.v H Q
theorem jxf{K:PySem.W.Frag}{H H':Hp}{d:D}{v:V}{fr:List Addr}(s:jqp H H')(r:RepL K H' false d v []):Out K H H' ⟨.dp,d,v,[]⟩ fr:=⟨s,r,λ_ h=>(nomatch h),Xv,λ_ h=>(nomatch h)⟩
theorem jk3{H:Hp}:jqp H H:=λ_ _ z=>z
theorem jj7{H H1 H2:Hp}(a:jqp H H1)(b:jqp H1 H2):jqp H H2:=λc ob h=>b c ob (a c ob h)
theorem jky{z:Sl}{fr:List Addr}{H1 H2:Hp}{L1:Ls}(w:World Z.K H1 L1)(st:Step H L H1 L1)(o:Out Z.K H1 H2 z fr)(ap:∀b∈fr,b∉jj6 L1)(al:∀b∈fr,H1 b≠none)(sr:Src H L fr):
  World Z.K H2 (some z::L1)/\Step H L H2 (some z::L1):=by
 have w2:World Z.K H2 L1:=⟨λx hx=>RepO.kp (w.ok x hx) (Kp.of_same o.same),w.nd,w.ds⟩;refine⟨w2.cons o.ok o.nd (λb hb ho=>w.own_some ho (o.new b hb)) (λb hb hf=>w.frz_some hf (o.new b hb)) (λb hb=>ap b (o.fr b hb)) (λb hb hf=>al b (o.fr b hf) (o.new b hb)),?_⟩;refine⟨λb ob h hn=>o.same b ob (st.keep b ob h hn),λb hb=>?_,λb hb=>?_⟩
 ·rw[jj3]at hb;rcases List.mem_append.mp hb with z | z
  ·by_cases ho:b∈jj6 L
   ·exact .inl ho
   ·refine .inr ?_;cases e:H b with
    | none=>rfl
    | some ob=>have:=o.new b z;rw[st.keep b ob e ho]at this;cases this
  ·exact st.own b z
 ·rw[jj8]at hb;rcases List.mem_append.mp hb with z | z
  ·exact sr b (o.fr b z)
  ·exact st.frz b z
theorem jx6{as bs:List Addr}(h:Src H L as)(hb:∀b∈bs,b∈as):Src H L bs:=λb z=>h b (hb b z)
theorem vqc{as bs:List Addr}(h:Src H L as)(h':Src H L bs):Src H L (as++bs):=λb z=>(List.mem_append.mp z).elim (h b) (h' b)
theorem jk4{H H1:Hp}{b:Addr}(s:jqp H H1)(h:H1 b=none):H b=none:=by
 cases e:H b with
 | none=>rfl
 | some ob=>rw[s b ob e]at h;cases h
theorem qjv{r:V->Hp->VK->Prop}{f:Sd->Option Sd}(ad:Ad1 Z.K r f){Q:VK}(h:tQ Z q (cF1 f a) σ H Q):tUn r (tV Z q a) σ H Q:=by
 obtain⟨E,L,R,m,w,hc,xc,k⟩:=h;refine jvj m w hc xc λE1 s h1 x L1 H1 e1 e2 m1 w1 ok fr sr st sm=>?_
 obtain⟨z,hz,rfl⟩:=jqr h1;refine ad H1 x z Q ok (by rw[e1,e2];exact hz) λy H' ho hd o=>?_
 obtain⟨w3,st3⟩:=jky w1 st o fr (λb hb=>ok.some (Sl.frz_as hb)) (jx6 sr λb hb=>Sl.frz_as hb);exact k _ _ rfl y L1 H' ho hd m1 w3 st3 λhq=>⟨jj7 (sm hq) o.same,λb hb=>jk4 (sm hq) (o.new b hb)⟩
theorem kvt{r:R2}{f:Sd->Sd->Option Sd}(ad:Ad2 Z.K r f){Q:VK}(h:tQ Z qa (cF2 f a b) σ H Q):tOp r (tV Z qa a) (tV Z true b) σ H Q:=by
 obtain⟨E,L,R,m,w,hc,xc,k⟩:=h;refine jvj m w hc xc λE1 s h1 x L1 H1 e1 e2 m1 w1 ok fr sr st sm=>?_
 refine jvj m1 w1 h1 (xc.step st) λE2 s2 h2 y L2 H2 e3 e4 m2 w2 ok2 fr2 sr2 st2 sm2=>?_
 obtain⟨z,hz,rfl⟩:=jqr h2;have kx:=jvq ok fr st2 (sm2 rfl);refine ad H2 x y z Q kx.1 ok2 (by rw[e1,e2,e3,e4];exact hz) λy' H' ho hd o=>?_
 obtain⟨w3,st3⟩:=jky w2 (st.trans st2) o (λb hb=>(List.mem_append.mp hb).elim (kx.2 b) (fr2 b)) (λb hb=>(List.mem_append.mp hb).elim (λz=>kx.1.some (Sl.frz_as z)) λz=>ok2.some (Sl.frz_as z))
  (vqc (jx6 sr λb hb=>Sl.frz_as hb) (jx6 (sr2.back st) λb hb=>Sl.frz_as hb))
 exact k _ _ rfl y' L2 H' ho hd m2 w3 st3 λhq=>⟨jj7 (sm hq) (jj7 (sm2 rfl) o.same),λb hb=>jk4 (jj7 (sm hq) (sm2 rfl)) (o.new b hb)⟩
theorem vqq{op:Operator}{r:R2}{f:Sd->Sd->Option Sd}(ho:OpR X (binaryOp op) r)(ad:Ad2 Z.K r f)(ha:QV X Z qa a ea)(hb:QV X Z true b eb):QE X Z qa (cF2 f a b) (.BinOp ea op eb pos):=
 jki (wvg ho ha hb) fun σ H Q h=>kvt ad h
theorem jxb{op:CmpOp}{r:R2}{f:Sd->Sd->Option Sd}(ho:OpR X (compareOp op) r)(ad:Ad2 Z.K r f)(ha:QV X Z qa a ea)(hb:QV X Z true b eb)(hm:behindInMarks op eb=false):QE X Z qa (cF2 f a b) (.Compare ea [op] [eb] pos):=
 jki (vvc ho ha hb hm) fun σ H Q h=>kvt ad h
theorem RepA.get{K:PySem.W.Frag}{H:Hp}{g:Bool}:∀{ds:List D} {xs:List V} {as:List Addr} {i:Nat} {d:D},RepA K H g ds xs as->ds[i]?=some d->∃v bs,xs[i]?=some v/\RepL K H g d v bs/\∀b∈bs,b∈as
 | [],_,_,_,_,_,e=>by simp at e
 | d::ds,_,_,i,d',h,e=>by
  unfold RepA at h;obtain⟨x,r,bs,cs,rfl,rfl,h1,h2⟩:=h;cases i with
  | zero =>
   have e:d=d':=by simpa using e
   subst e;exact⟨x,bs,by simp,h1,λb hb=>ll9 _ hb⟩
  | succ i =>
   obtain⟨v,bs',e1,e2,e3⟩:=RepA.get (i:=i) h2 (by simpa using e);exact⟨v,bs',by simpa using e1,e2,λb hb=>lr9 _ (e3 b hb)⟩
theorem RepA.len{K:PySem.W.Frag}{H:Hp}{g:Bool}:∀{ds:List D} {xs:List V} {as:List Addr},RepA K H g ds xs as->ds.length=xs.length
 | [],_,_,h=>by unfold RepA at h;rw[h.1];rfl
 | d::ds,_,_,h=>by
  unfold RepA at h;obtain⟨x,r,bs,cs,rfl,rfl,h1,h2⟩:=h;simp[RepA.len h2]
theorem items{K:PySem.W.Frag}{H:Hp}{x:Sl}{ds:List D}(ok:x.ok K H)(h:x.d=.lst ds\/x.d=.tup ds):∃a xs bs,x.v=.ref a/\((x.d=.lst ds/\LsR K H a xs)\/(x.d=.tup ds/\SqT K H a xs))/\RepA K H (x.o != .dp) ds xs bs/\(∀b∈bs,b∈x.as)/\(x.o≠.dp->∀b∈bs,b∈x.frz):=by
 obtain⟨o,d,v,as⟩:=x;dsimp only at h;rcases h with rfl | rfl
 ·cases o with
  | no =>
   have ok:RepL K H true (.lst ds) v as:=ok;unfold RepL at ok;obtain⟨a,xs,bs,rfl,r,q⟩:=ok;rcases q with⟨q,rfl⟩| ⟨_,q,rfl⟩
   ·exact⟨a,xs,bs,rfl,.inl ⟨rfl,.inl (.inl q)⟩,r,λb hb=>lc9 _ hb,λ_ b hb=>lc9 _ hb⟩
   ·exact⟨a,xs,as,rfl,.inl ⟨rfl,.of q⟩,r,λb hb=>hb,λ_ b hb=>hb⟩
  | rt =>
   obtain⟨a,xs,bs,rfl,r,q,rfl⟩:=(show RepR K H (.lst ds) v as from ok);exact⟨a,xs,bs,rfl,.inl ⟨rfl,.inl (.inl q)⟩,r,λb hb=>lc9 _ hb,λ_ b hb=>by simpa [Sl.frz]using hb⟩
  | dp =>
   have ok:RepL K H false (.lst ds) v as:=ok;unfold RepL at ok;obtain⟨a,xs,bs,rfl,r,q⟩:=ok;rcases q with⟨q,rfl⟩| ⟨z,_⟩
   ·exact⟨a,xs,bs,rfl,.inl ⟨rfl,.inl (.inl q)⟩,r,λb hb=>lc9 _ hb,λz=>absurd rfl z⟩
   ·cases z
 ·cases o with
  | no =>
   have ok:RepL K H true (.tup ds) v as:=ok;unfold RepL at ok;obtain⟨a,xs,rfl,q,r⟩:=ok;exact⟨a,xs,as,rfl,.inr ⟨rfl,q⟩,r,λb hb=>hb,λ_ b hb=>hb⟩
  | rt=>exact(show RepR K H (.tup ds) v as from ok).elim
  | dp =>
   have ok:RepL K H false (.tup ds) v as:=ok;unfold RepL at ok;obtain⟨a,xs,rfl,q,r⟩:=ok;exact⟨a,xs,as,rfl,.inr ⟨rfl,q⟩,r,λb hb=>hb,λz=>absurd rfl z⟩
theorem jjs{K:PySem.W.Frag}{H:Hp}{x:Sl}{ds:List D}(ok:x.ok K H)(h:x.d=.lst ds\/x.d=.tup ds)(hl:jq0 (x.o,x.d)=true):∃a xs bs,x.v=.ref a/\((x.d=.lst ds/\LsR K H a xs)\/(x.d=.tup ds/\SqT K H a xs))/\RepA K H true ds xs bs/\(∀b∈bs,b∈x.frz):=by
 obtain⟨a,xs,bs,e,q,r,h1,h2⟩:=items ok h
 by_cases ho:x.o=.dp
 ·have hp:D.pures ds=true:=by
   unfold jq0 at hl;rw[show(x.o,x.d).1=Own.dp from ho]at hl;have:wwy x.d=ds:=by rcases h with h | h<;>rw[h]<;>rfl
   simpa [this]using hl
  obtain⟨rfl,r'⟩:=RepA.pu (g':=true) r hp;exact⟨a,xs,[],e,q,r',λ_ z=>nomatch z⟩
 ·have:(x.o != Own.dp)=true:=by simpa using ho
  rw[this]at r;exact⟨a,xs,bs,e,q,r,h2 ho⟩
end
section
variable {K:PySem.W.Frag}{H:Hp}{x y:Sl}
theorem jku{i:Int}(ok:x.ok K H)(h:x.d=.int i):x.v=.int i:=by
 have:=RepO.wk ok;rw[h]at this;unfold RepL at this;exact this.1
theorem qkd{i:Bool}(ok:x.ok K H)(h:x.d=.bl i):x.v=.bl i:=by
 have:=RepO.wk ok;rw[h]at this;unfold RepL at this;exact this.1
theorem wjn(ok:x.ok K H)(h:x.d=.non):x.v=.non:=by
 have:=RepO.wk ok;rw[h]at this;unfold RepL at this;exact this.1
theorem jqw{z:Str}(ok:x.ok K H)(h:x.d=.str z):x.v=.str z/\z.length<=sizeLine:=by
 have:=RepO.wk ok;rw[h]at this;unfold RepL at this;exact⟨this.1,this.2.2⟩
theorem jq1{i:Int}{g:Bool}:RepL K H g (.int i) (.int i) []:=by unfold RepL;exact⟨rfl,rfl⟩
theorem jzn{i:Bool}{g:Bool}:RepL K H g (.bl i) (.bl i) []:=by unfold RepL;exact⟨rfl,rfl⟩
theorem kxh{g:Bool}:RepL K H g .non .non []:=by unfold RepL;exact⟨rfl,rfl⟩
theorem kjk{z:Str}{g:Bool}(h:z.length<=sizeLine):RepL K H g (.str z) (.str z) []:=by unfold RepL;exact⟨rfl,rfl,h⟩
theorem vk2{i:Int}{fr:List Addr}:Out K H H ⟨.dp,.int i,.int i,[]⟩ fr:=jxf jk3 jq1
theorem qj0{i:Bool}{fr:List Addr}:Out K H H ⟨.dp,.bl i,.bl i,[]⟩ fr:=jxf jk3 jzn
theorem wvk{z:Str}{fr:List Addr}(h:z.length<=sizeLine):Out K H H ⟨.dp,.str z,.str z,[]⟩ fr:=jxf jk3 (kjk h)
theorem vx4{C:Int->Int->Prop}{g:Int->Int->Int}{f:Int->Int->Option Int}(h:∀i j k,f i j=some k->C i j/\k=g i j):Ad2 K (rI C λi j=>.int (g i j)) (pu2 (i2 f)):=by
 intro H x y s Q ox oy hf k;unfold pu2 i2 at hf;dsimp only at hf
 split at hf
 ·rename_i i j e1 e2;cases hk:f i j with
  | none=>rw[hk]at hf;cases hf
  | some n =>
   rw[hk]at hf;cases oq9 hf;obtain⟨hc,rfl⟩:=h i j n hk;exact⟨i,j,jku ox e1,jku oy e2,hc,k ⟨.dp,.int (g i j),.int (g i j),[]⟩ H rfl rfl vk2⟩
 ·cases hf
theorem jx0{g:Int->Int->Bool}:Ad2 K (rI0 λi j=>.bl (g i j)) (pu2 (c2 g)):=by
 intro H x y s Q ox oy hf k;unfold pu2 c2 at hf;dsimp only at hf
 split at hf
 ·rename_i i j e1 e2;cases oq9 hf;exact⟨i,j,jku ox e1,jku oy e2,k ⟨.dp,.bl (g i j),.bl (g i j),[]⟩ H rfl rfl qj0⟩
 ·cases hf
theorem vky:Ad2 K (rI wq6 λi j=>.int (i / j)) (pu2 qkl):=vx4 λi j k h=>by
 split at h
 ·rename_i c;exact⟨c,(oq9 h).symm⟩
 ·cases h
theorem wq1:Ad2 K (rI (λ_ j=>0<j) λi j=>.int (i % j)) (pu2 jv9):=vx4 λi j k h=>by
 split at h
 ·rename_i c;exact⟨c,(oq9 h).symm⟩
 ·cases h
theorem vkv:Ad2 K (rI wx6 λi j=>.int (i ^ j.toNat)) (pu2 vxc):=vx4 λi j k h=>by
 split at h
 ·rename_i c;exact⟨c,(oq9 h).symm⟩
 ·cases h
end
def vzd(K:PySem.W.Frag):R2:=λx y H Q=>∃l b xs zs,x=.ref l/\y=.ref b/\LsR K H l xs/\LsR K H b zs/\xs.length+zs.length<=sizeLine/\∀p,H p=none->Q (.ref p) (upd H p (.lst (xs++zs)))
theorem op_catL{X:Cx}:OpR X (binaryOp .Add) (vzd X.K):=by
 intro pins s σ H x y v u Q I rx ry h;obtain⟨l,b,xs,zs,rfl,rfl,hH,hB,hz,q⟩:=h;cases rx;cases ry;obtain⟨z,its,n,r,e⟩:=hH.is I;obtain⟨z2,its2,n2,r2,e2⟩:=hB.is I;have hl:=r.length;have hl2:=r2.length;refine PySem.P.add_list e e2 ?_ (by rw[Xa,Xa];omega);have ea:its.toArray++its2.toArray=(its++its2).toArray:=by simp
 rw[ea];exact⟨.ref _,_,I.lnew (t':=s.toks) (r.append r2) (by rw[X7];omega),rfl,q _ I.fresh⟩
def vze(K:PySem.W.Frag):R2:=λx y H Q=>∃a b ys,x=.ref a/\y=.ref b/\SqT K H a []/\SqT K H b ys/\Q (.ref b) H
theorem op_catE{X:Cx}:OpR X (binaryOp .Add) (vze X.K):=by
 intro pins s σ H x y v u Q I rx ry h;obtain⟨a,b,ys,rfl,rfl,ha,hb,q⟩:=h;cases rx;cases ry;obtain⟨its,r1,p1,_⟩:=I.tuple ha;obtain⟨its2,r2,p2,_⟩:=I.tuple hb;obtain⟨⟨cls,dd,data,sl⟩,ho,hc,n,hd⟩:=id p1;obtain⟨⟨cls2,dd2,data2,sl2⟩,ho2,hc2,n2,hd2⟩:=id p2;simp only at hc hd hc2 hd2;subst hc hd hc2 hd2;have e:its=[]:=r1.nil_iff.mpr rfl;subst e;exact concat_meets ⟨_,ho,rfl⟩ ⟨_,ho2,rfl⟩ noFill_tuple_add seq_tuple_add PySem.F.slot_tuple_add PySem.F.entry_tuple_add (PySem.F.args_tuple_add_2 _ _)
   (tuple_addW0 a b [].toArray its2.toArray n n2 dd dd2 sl sl2 (by simp)) ⟨ho,ho2,⟨.ref b,H,I,rfl,q⟩⟩
def vzf(K:PySem.W.Frag):R2:=λx y H Q=>rI0 (λi j=>.int (i+j)) x y H Q\/(∃i j,x=.str i/\y=.str j/\i.length+j.length<=sizeLine/\Q (.str (i++j)) H)\/vzd K x y H Q\/vze K x y H Q\/vzc K x y H Q
theorem wji{X:Cx}{K:PySem.W.Frag}(hK:X.K=K):OpR X (binaryOp .Add) (vzf K):=by subst hK;exact op_add.or (op_add_str.or (op_catL.or (op_catE.or vvj)))
theorem RepA.app{K:PySem.W.Frag}{H:Hp}{g:Bool}{ds':List D}{xs':List V}{bs':List Addr}(h':RepA K H g ds' xs' bs'):∀{ds:List D} {xs:List V} {as:List Addr},RepA K H g ds xs as->RepA K H g (ds++ds') (xs++xs') (as++bs')
 | [],_,_,h=>by unfold RepA at h;rw[h.1,h.2];exact h'
 | d::ds,_,_,h=>by
  unfold RepA at h;obtain⟨x,r,bs,cs,rfl,rfl,h1,h2⟩:=h;rw[List.cons_append];unfold RepA;exact⟨x,r++xs',bs,cs++bs',rfl,by rw[Xr],h1,RepA.app h' h2⟩
theorem jjp{H:Hp}{p:Addr}{o:HO}(h:H p=none):jqp H (upd H p o):=λb u q=>by rw[jjv (jk6 q h)];exact q
theorem jv6{K:PySem.W.Frag}{H:Hp}{p:Addr}{ds:List D}{xs:List V}{bs fr:List Addr}(hp:H p=none)(r:RepA K H true ds xs bs)(hb:∀b∈bs,b∈fr):Out K H (upd H p (.lst xs)) ⟨.rt,.lst ds,.ref p,p::bs⟩ fr:=by
 refine⟨jjp hp,⟨p,xs,bs,rfl,r.kp (Kp.of_same (jjp hp)),jjy,rfl⟩,λb hb=>?_,?_,λb hb'=>hb b (by simpa [Sl.frz]using hb')⟩
 ·have:b=p:=by simpa [Sl.own]using hb
  rw[this];exact hp
 ·simp[Sl.own]
theorem jz9{K:PySem.W.Frag}{H:Hp}{p:Addr}{ds:List D}{xs:List V}{bs fr:List Addr}(hp:H p=none)(r:RepA K H true ds xs bs)(hb:∀b∈bs,b∈fr):Out K H (upd H p (.tup xs)) ⟨.no,.tup ds,.ref p,bs⟩ fr:=by
 refine⟨jjp hp,?_,λb hb=>(nomatch hb),Xv,λb hb'=>hb b hb'⟩;show RepL K _ true (.tup ds) (.ref p) bs;unfold RepL;exact⟨p,xs,rfl,SqT.of jjy,r.kp (Kp.of_same (jjp hp))⟩
theorem wq4{K:PySem.W.Frag}:Ad2 K (vzf K) jk7:=by
 intro H x y s Q ox oy hf k;unfold jk7 at hf;dsimp only at hf
 split at hf
 ·rename_i i j e1 e2;cases oq9 hf;exact .inl ⟨i,j,jku ox e1,jku oy e2,k ⟨.dp,.int _,.int _,[]⟩ H rfl rfl vk2⟩
 ·rename_i i j e1 e2
  split at hf
  ·rename_i hl;cases oq9 hf;have hl':(i++j).length<=sizeLine:=by rw[strLen_append];exact hl
   exact .inr (.inl ⟨i,j,(jqw ox e1).1,(jqw oy e2).1,hl,k ⟨.dp,.str _,.str _,[]⟩ H rfl rfl (wvk hl')⟩)
  ·cases hf
 ·rename_i i j e1 e2
  split at hf
  ·rename_i hl;cases oq9 hf;obtain⟨a,xs,bs,e3,q3,r3,h3⟩:=jjs ox (.inl e1) hl.2.1;obtain⟨b,ys,cs,e4,q4,r4,h4⟩:=jjs oy (.inl e2) hl.2.2;have q3:LsR K H a xs:=by rcases q3 with⟨_,z⟩| ⟨z,_⟩;exact z;rw[e1]at z;cases z
   have q4:LsR K H b ys:=by rcases q4 with⟨_,z⟩| ⟨z,_⟩;exact z;rw[e2]at z;cases z
   refine .inr (.inr (.inl ⟨a,b,xs,ys,e3,e4,q3,q4,by rw[<-r3.len,<-r4.len];exact hl.1,λp hp=>?_⟩));exact k ⟨.rt,.lst (i++j),.ref p,p::(bs++cs)⟩ _ rfl rfl (jv6 hp (r4.app r3) λb hb=>(List.mem_append.mp hb).elim (λz=>ll9 _ (h3 b z)) λz=>lr9 _ (h4 b z))
  ·cases hf
 ·rename_i i j e1 e2
  split at hf
  ·rename_i hl;cases oq9 hf;obtain⟨a,xs,bs,e3,q3,r3,h3⟩:=jjs ox (.inr e1) hl.2.1;obtain⟨b,ys,cs,e4,q4,r4,h4⟩:=jjs oy (.inr e2) hl.2.2;have q3:SqT K H a xs:=by rcases q3 with⟨z,_⟩| ⟨_,z⟩;rw[e1]at z;cases z;exact z
   have q4:SqT K H b ys:=by rcases q4 with⟨z,_⟩| ⟨_,z⟩;rw[e2]at z;cases z;exact z
   have ap:=r4.app r3;have hfr:∀b∈bs++cs,b∈x.frz++y.frz:=λb hb=>(List.mem_append.mp hb).elim (λz=>ll9 _ (h3 b z)) λz=>lr9 _ (h4 b z)
   have same:∀c zs,zs=xs++ys->SqT K H c zs->Q (.ref c) H:=λc zs e hq=>by
    refine k ⟨.no,.tup (i++j),.ref c,bs++cs⟩ H rfl rfl ⟨jk3,?_,λb hb=>(nomatch hb),Xv,hfr⟩;show RepL K H true (.tup (i++j)) (.ref c) (bs++cs);unfold RepL;exact⟨c,zs,rfl,hq,by rw[e];exact ap⟩
   by_cases hx:xs=[]
   ·subst hx;exact .inr (.inr (.inr (.inl ⟨a,b,ys,e3,e4,q3,q4,same b ys rfl q4⟩)))
   ·refine .inr (.inr (.inr (.inr ⟨a,b,xs,ys,e3,e4,q3,q4,hx,by rw[<-r3.len,<-r4.len];exact hl.1,λhy=>?_,λhy p hp=>?_⟩)))
    ·exact same a xs (by rw[hy,Xq]) q3
    ·exact k ⟨.no,.tup (i++j),.ref p,bs++cs⟩ _ rfl rfl (jz9 hp ap hfr)
  ·cases hf
 ·cases hf
def tT(Z:Fx0)(q:Bool)(c:Ts):TT:=fun σ H Q=>∃E L r,Mt E σ L/\World Z.K H L/\c E=some r/\Xc Z σ H L r /\
 ∀E' k,r=.ok E' k->∀L' H',Mt E' σ L'->World Z.K H' L'->Step H L H' L'->(q=true->jqp H H')->Q k H'
def QT(X:Cx)(Z:Fx0)(q:Bool)(c:Ts)(e:Expr):Prop:=PT X e (tT Z q c)
def QW(X:Cx)(Z:Fx0)(q:Bool)(c:Ts)(e:Expr):Prop:=PW X e (tT Z q c)
section
variable {X:Cx}{Z:Fx0}{q qa qb:Bool}{a b c:Ex}{u v:Ts}{e ea eb:Expr}{es:List Expr}{pos:Pos}{α β:Type}{σ:L2.St}{H:Hp}{L:Ls}{E:En}
theorem vjv{e:Expr}{t t':TT}(h:PW X e t)(w:∀ σ H Q,t' σ H Q->t σ H Q):PW X e t':=λwh pins s σ H Q I q=>h wh pins s σ H Q I (w σ H Q q)
theorem qxu{F:En->Bool->Option (Res α)}{r:Res α}{G:Bool->Hp->Prop}(m:Mt E σ L)(w:World Z.K H L)(h:bnd (u E) F=some r)(xc:Xc Z σ H L r)
  (k:∀E1 s,F E1 s=some r->∀L1 H1,Mt E1 σ L1->World Z.K H1 L1->Step H L H1 L1->(q=true->jqp H H1)->G s H1):tT Z q u σ H G:=by
 rcases jjx h with⟨E1,s,h1,h2⟩| ⟨E1,c,h1,h2⟩
 ·exact⟨E,L,_,m,w,h1,(λ_ _ z=>by cases z),λE' s' z L' H' m' w' st sm=>by
   injection z with z1 z2;subst z1 z2;exact k _ _ h2 L' H' m' w' st sm⟩
 ·exact⟨E,L,_,m,w,h1,xc.map h2,λE' s' z=>by cases z⟩
theorem jw1(ha:QT X Z q u ea):QW X Z q u (.BoolOp .And [ea] pos):=vqt ha
theorem kw9(ha:QT X Z q u ea):QW X Z q u (.BoolOp .Or [ea] pos):=vzp ha
theorem jzo(ha:QT X Z q u ea)(hb:QW X Z q v (.BoolOp .And (eb::es) pos)):QW X Z q (Q.tAnd u v) (.BoolOp .And (ea::eb::es) pos):=
 vjv (vzq ha hb) fun σ H Q h_z=>ex8 h_z λE L r m w hc xc k=>qxu m w hc xc λE1 s h1 L1 H1 m1 w1 st sm=>by
  cases s with
  | true =>
   rw[Xf rfl]at h1 ⊢;exact⟨E1,L1,r,m1,w1,h1,xc.step st,λE' k' z L' H' m' w' st' sm'=>k E' k' z L' H' m' w' (st.trans st') λhq=>jj7 (sm hq) (sm' hq)⟩
  | false =>
   rw[Xj (by decide)]at h1 ⊢;cases oq9 h1;exact k _ _ rfl L1 H1 m1 w1 st sm
theorem kxj(ha:QT X Z q u ea)(hb:QW X Z q v (.BoolOp .Or (eb::es) pos)):QW X Z q (Q.tOr u v) (.BoolOp .Or (ea::eb::es) pos):=
 vjv (wv9 ha hb) fun σ H Q h_z=>ex8 h_z λE L r m w hc xc k=>qxu m w hc xc λE1 s h1 L1 H1 m1 w1 st sm=>by
  cases s with
  | false =>
   rw[Xj (by decide)]at h1 ⊢;exact⟨E1,L1,r,m1,w1,h1,xc.step st,λE' k' z L' H' m' w' st' sm'=>k E' k' z L' H' m' w' (st.trans st') λhq=>jj7 (sm hq) (sm' hq)⟩
  | true =>
   rw[Xf rfl]at h1 ⊢;cases oq9 h1;exact k _ _ rfl L1 H1 m1 w1 st sm
theorem QW.pt(h:QW X Z q u e):QT X Z q u e:=PW.pt h
theorem vzh(ha:QT X Z q u ea):QT X Z q (Q.tNot u) (.UnaryOp .Not ea pos):=
 qqy (vzr ha) fun σ H Q h_z=>ex8 h_z λE L r m w hc xc k=>qxu m w hc xc λE1 s h1 L1 H1 m1 w1 st sm=>by
  cases oq9 h1;exact k _ _ rfl L1 H1 m1 w1 st sm
theorem jjm{op:CmpOp}{r:R2}{f:Sd->Sd->Option Sd}(ho:OpR X (compareOp op) r)(ad:Ad2 Z.K r f)(ha:QV X Z qa a ea)(hb:QV X Z true b eb)(hm:behindInMarks op eb=false)(hf:∀x y s,f x y=some s->∃k,s.2=.bl k):QT X Z qa (Q.tE (cF2 f a b)) (.Compare ea [op] [eb] pos):=
 qqy (vqx ho ha hb hm) fun σ H Q h_z=>ex8 h_z λE L r m w hc xc k=>by
  refine kvt ad ?_;have hc':bnd (cF2 f a b E) (λE x=>val E (truth x.2))=some r:=hc;rcases jjx hc' with⟨E1,s,h1,h2⟩| ⟨E1,c,h1,h2⟩
  ·refine⟨E,L,_,m,w,h1,(λ_ _ z=>by cases z),λE' s' z x L' H' e1 e2 m' w' st sm=>?_⟩;injection z with z1 z2;subst z1 z2;obtain⟨kk,hk⟩:∃k,s.2=.bl k:=by
    unfold cF2 at h1;rcases jjx h1 with⟨E2,s2,h3,h4⟩| ⟨_,_,_,z⟩
    ·rcases jjx h4 with⟨E3,s3,h5,h6⟩| ⟨_,_,_,z⟩
     ·obtain⟨y,hy,z⟩:=jqr h6;cases z;exact hf _ _ _ hy
     ·cases z
    ·cases z
   rw[hk]at h2;cases oq9 h2;exact⟨kk,qkd w'.head (e2.trans hk),k _ _ rfl L' H' m' w'.tail (st.trans Step.drop) λhq=>(sm hq).1⟩
  ·exact⟨E,L,_,m,w,h1,xc.map h2,λE' s' z=>by cases z⟩
end
def Pn(pn:List Nat)(σ σ':L2.St):Prop:=∀p∈pn,σ'[p]?=σ[p]?
theorem Pn.refl{pn:List Nat}{σ:L2.St}:Pn pn σ σ:=λ_ _=>rfl
theorem Pn.trans{pn:List Nat}{σ σ1 σ2:L2.St}(a:Pn pn σ σ1)(b:Pn pn σ1 σ2):Pn pn σ σ2:=λp hp=>(b p hp).trans (a p hp)
theorem Pn.set{pn:List Nat}{σ σ1:L2.St}{i:Nat}{y:Option V}(a:Pn pn σ σ1)(h:i∉pn):Pn pn σ (σ1.set i y):=λp hp=>by
 have:i≠p:=λe=>h (e▸hp)
 rw[Yj this];exact a p hp
def FlP(Z:Fx0)(pn:List Nat)(D:Ends)(σ:L2.St)(H:Hp)(L:Ls):Fl->Prop
 | .nx E'=>∀ σ' L' H',Pn pn σ σ'->Mt E' σ' L'->World Z.K H' L'->Step H L H' L'->D.nx σ' H'
 | .ct E'=>∀ σ' L' H',Pn pn σ σ'->Mt E' σ' L'->World Z.K H' L'->Step H L H' L'->D.ct σ' H'
 | .bk E'=>∀ σ' L' H',Pn pn σ σ'->Mt E' σ' L'->World Z.K H' L'->Step H L H' L'->D.bk σ' H'
 | .rt E' a=>∀(x:Sl) σ' L' H',x.o=a.1->x.d=a.2->Pn pn σ σ'->Mt E' σ' L'->World Z.K H' (some x::L')->Step H L H' (some x::L')->D.rt x.v H'
 | .xc E' c=>∀C σ' L' H',Z.mg c=some (.ref C)->Pn pn σ σ'->Mt E' σ' L'->World Z.K H' L'->Step H L H' L'->Z.EX (.ref C) none H'
theorem FlP.step{Z:Fx0}{pn:List Nat}{D:Ends}{σ σ1:L2.St}{H H1:Hp}{L L1:Ls}{r:Fl}(k:FlP Z pn D σ H L r)(s:Step H L H1 L1)(p:Pn pn σ σ1):FlP Z pn D σ1 H1 L1 r:=by
 cases r with
 | nx E'=>exact fun σ' L' H' p' m w s'=>k σ' L' H' (p.trans p') m w (s.trans s')
 | ct E'=>exact fun σ' L' H' p' m w s'=>k σ' L' H' (p.trans p') m w (s.trans s')
 | bk E'=>exact fun σ' L' H' p' m w s'=>k σ' L' H' (p.trans p') m w (s.trans s')
 | rt E' a=>exact λx σ' L' H' e1 e2 p' m w s'=>k x σ' L' H' e1 e2 (p.trans p') m w (s.trans s')
 | xc E' c=>exact λC σ' L' H' hm p' m w s'=>k C σ' L' H' hm (p.trans p') m w (s.trans s')
theorem FlP.xc{α:Type}{Z:Fx0}{pn:List Nat}{D:Ends}{σ:L2.St}{H:Hp}{L:Ls}{E':En}{c:Str}(k:FlP Z pn D σ H L (.xc E' c)):Xc Z σ H L (.exc E' c:Res α):=λE1 c1 e C L' H' hm m w s=>by
 injection e with h1 h2;subst h1 h2;exact k C σ L' H' hm Pn.refl m w s
def tS(Z:Fx0)(pn:List Nat)(c:Sm):TS:=λD σ H=>∃E L r,Mt E σ L/\World Z.K H L/\c E=some r/\FlP Z pn D σ H L r
def QS(X:Cx)(Z:Fx0)(pn:List Nat)(c:Sm)(st:Stmt):Prop:=PS X st (tS Z pn c)
def QSs(X:Cx)(Z:Fx0)(pn:List Nat)(c:Sm)(st:List Stmt):Prop:=PSs X st (tS Z pn c)
section
variable {X:Cx}{Z:Fx0}{pn:List Nat}{q qa qb:Bool}{a b c:Ex}{u v:Ts}{A B:Sm}{e ea eb:Expr}{st:Stmt}{ss tt:List Stmt}{pos:Pos}{α:Type}{σ:L2.St}{H:Hp}{L:Ls}{E:En}{D:Ends}
theorem jw3{m:Option (Res α)}{F:En->α->Option Fl}{r:Fl}(h:ofE m F=some r):(∃E1 x,m=some (.ok E1 x)/\F E1 x=some r)\/∃E1 c,m=some (.exc E1 c)/\r=.xc E1 c:=by
 cases m with
 | none=>cases h
 | some q =>
  cases q with
  | ok E1 x=>exact .inl ⟨E1,x,rfl,h⟩
  | exc E1 c=>exact .inr ⟨E1,c,rfl,(oq9 h).symm⟩
theorem qqh{F:En->Sd->Option Fl}{r:Fl}{G:VK}(m:Mt E σ L)(w:World Z.K H L)(h:ofE (a E) F=some r)(k:FlP Z pn D σ H L r)
  (g:∀E1 s,F E1 s=some r->∀(x:Sl) L1 H1,x.o=s.1->x.d=s.2->Mt E1 σ L1->World Z.K H1 (some x::L1)->Step H L H1 (some x::L1)->(q=true->jqp H H1/\∀b∈x.own,H b=none)->G x.v H1):tQ Z q a σ H G:=by
 rcases jw3 h with⟨E1,s,h1,h2⟩| ⟨E1,c,h1,rfl⟩
 ·exact⟨E,L,_,m,w,h1,(λ_ _ z=>by cases z),λE' s' z x L' H' e1 e2 m' w' st sm=>by
   injection z with z1 z2;subst z1 z2;exact g _ _ h2 x L' H' e1 e2 m' w' st sm⟩
 ·exact⟨E,L,_,m,w,h1,k.xc,λE' s' z=>by cases z⟩
theorem vxx{F:En->Bool->Option Fl}{r:Fl}{G:Bool->Hp->Prop}(m:Mt E σ L)(w:World Z.K H L)(h:ofE (u E) F=some r)(k:FlP Z pn D σ H L r)
  (g:∀E1 s,F E1 s=some r->∀L1 H1,Mt E1 σ L1->World Z.K H1 L1->Step H L H1 L1->G s H1):tT Z q u σ H G:=by
 rcases jw3 h with⟨E1,s,h1,h2⟩| ⟨E1,c,h1,rfl⟩
 ·exact⟨E,L,_,m,w,h1,(λ_ _ z=>by cases z),λE' s' z L' H' m' w' st sm=>by
   injection z with z1 z2;subst z1 z2;exact g _ _ h2 L' H' m' w' st⟩
 ·exact⟨E,L,_,m,w,h1,k.xc,λE' s' z=>by cases z⟩
theorem jvl:QSs X Z pn jjw []:=qqz vv0 λD σ H h_z=>ex7 h_z λE L r m w hc k=>by
 cases oq9 hc;exact k σ L H Pn.refl m w Step.refl
theorem jje(h1:QS X Z pn A st)(h2:QSs X Z pn B ss):QSs X Z pn (jjc A B) (st::ss):=qqz (qzd h1 h2) λD σ H h_z=>ex7 h_z λE L r m w hc k=>by
 unfold jjc at hc;cases ha:A E with
 | none=>rw[ha]at hc;cases hc
 | some f =>
  rw[ha]at hc;cases f with
  | nx E1=>exact⟨E,L,_,m,w,ha,fun σ' L' H' p m' w' s=>⟨E1,L',r,m',w',hc,k.step s p⟩⟩
  | ct E1=>cases oq9 hc;exact⟨E,L,_,m,w,ha,k⟩
  | bk E1=>cases oq9 hc;exact⟨E,L,_,m,w,ha,k⟩
  | rt E1 x=>cases oq9 hc;exact⟨E,L,_,m,w,ha,k⟩
  | xc E1 x=>cases oq9 hc;exact⟨E,L,_,m,w,ha,k⟩
theorem jjh(h1:QS X Z pn A st):QSs X Z pn A [st]:=vqz h1
theorem jkg(h:QE X Z q a ea):QS X Z pn (jkd a) (.Return (some ea) pos):=jve (vzt h) λD σ H h_z=>ex7 h_z λE L r m w hc k =>
 qqh m w hc k λE1 s h1 x L1 H1 e1 e2 m1 w1 st _=>by
  cases oq9 h1;exact k x σ L1 H1 e1 e2 Pn.refl m1 w1 st
theorem kqv(hc:QT X Z q u e)(ha:QSs X Z pn A ss)(hb:QSs X Z pn B tt):QS X Z pn (sIf u A B) (.If e ss tt pos):=jve (wva hc ha hb) λD σ H h_z=>ex7 h_z λE L r m w hc k =>
 vxx m w hc k λE1 s h1 L1 H1 m1 w1 st=>by
  cases s with
  | true=>rw[Xf rfl]at h1 ⊢;exact⟨E1,L1,r,m1,w1,h1,k.step st Pn.refl⟩
  | false=>rw[Xj (by decide)]at h1 ⊢;exact⟨E1,L1,r,m1,w1,h1,k.step st Pn.refl⟩
theorem kq0{x:Sl}{i:Nat}{s:Sd}(m:Mt E σ L)(e1:x.o=s.1)(e2:x.d=s.2):Mt (E.set i (some s)) (σ.set i (some x.v)) (L.set i (some x)):=by
 have:=m.set (x:=x) i;rw[e1,e2]at this;exact this
theorem wv6{i:Nat}{y:Str}{pos':Pos}(hN:X.N.Nodup)(hi:X.N[i]?=some y)(hx:Loc X.env.scope y)(h:QE X Z q a ea)(hp:i∉pn:=by decide)(hs:swapsWith ea (some (.Name y pos')) pos.line X.env=pure false:=by rfl)(hf:X.fn y=true\/X.env.scope.names.lookup y=some .local:=by first | exact .inl rfl | exact .inr rfl | assumption):
  QS X Z pn (jjk i a) (.Assign [.Name y pos'] ea pos):=jve (vzs hN hi hx h hs hf) λD σ H h_z=>ex7 h_z λE L r m w hc k =>
 qqh m w hc k λE1 s h1 x L1 H1 e1 e2 m1 w1 st _=>by
  cases oq9 h1;exact k (σ.set i (some x.v)) (L1.set i (some x)) H1 (Pn.refl.set hp) (kq0 m1 e1 e2) w1.set (st.trans Step.set)
theorem vzo{i:Nat}{y:Str}{pos':Pos}(hp:i∉pn)(h:PS X (.Assign [.Name y pos'] ea pos) (λD σ H=>tQ Z q a σ H λv H1=>D.nx (σ.set i (some v)) H1)):
  QS X Z pn (jjk i a) (.Assign [.Name y pos'] ea pos):=jve h λD σ H h_z=>ex7 h_z λE L r m w hc k =>
 qqh m w hc k λE1 s h1 x L1 H1 e1 e2 m1 w1 st _=>by
  cases oq9 h1;exact k (σ.set i (some x.v)) (L1.set i (some x)) H1 (Pn.refl.set hp) (kq0 m1 e1 e2) w1.set (st.trans Step.set)
theorem vqm(hp:PassesOwn (model X.prog X.w) X.A X.env X.xe)(hc:QT X Z q u e)(hb:QSs X Z pn B ss):QS X Z pn (sWhile u B) (.While e ss [] pos):=jve (qze hp hc hb) λD σ H h_z=>ex7 h_z λE L r m w hr k=>by
 obtain⟨n0,hn⟩:=vq0 hr;refine⟨λn σ1 H1=>∃E1 L1,Mt E1 σ1 L1/\World Z.K H1 L1/\whN u B n E1=some r/\Step H L H1 L1/\Pn pn σ σ1,⟨n0,E,L,m,w,hn,Step.refl,Pn.refl⟩,?_⟩;rintro n σ1 H1 ⟨E1,L1,m1,w1,h1,st1,p1⟩;cases n with
 | zero=>cases h1
 | succ n =>
  have k1:=k.step st1 p1;unfold whN at h1;cases ht:u E1 with
  | none=>rw[ht]at h1;cases h1
  | some f =>
   rw [ht]at h1;cases f with
   | exc E2 c =>
    cases oq9 h1;exact⟨E1,L1,_,m1,w1,ht,k1.xc,λE' s' z=>by cases z⟩
   | ok E2 kk =>
    refine⟨E1,L1,_,m1,w1,ht,(λ_ _ z=>by cases z),λE' s' z L' H' m' w' st sm=>?_⟩;injection z with z1 z2;subst z1 z2;cases kk with
    | false =>
     rw[Xj (by decide)];cases oq9 h1;exact k1 σ1 L' H' Pn.refl m' w' st
    | true =>
     rw[Xf rfl];dsimp only at h1;refine⟨fun σ2 H2=>∃E2 L2,Mt E2 σ2 L2/\World Z.K H2 L2/\whN u B n E2=some r/\Step H L H2 L2/\Pn pn σ σ2,fun σ2 H2 h2=>⟨n,by omega,h2⟩,?_⟩;cases hB:B E2 with
     | none=>rw[hB]at h1;cases h1
     | some g =>
      rw[hB]at h1;have k2:=k1.step st Pn.refl;refine⟨E2,L',g,m',w',hB,?_⟩;cases g with
      | nx E3=>exact fun σ3 L3 H3 p3 m3 w3 s3=>⟨E3,L3,m3,w3,h1,st1.trans (st.trans s3),p1.trans p3⟩
      | ct E3=>exact fun σ3 L3 H3 p3 m3 w3 s3=>⟨E3,L3,m3,w3,h1,st1.trans (st.trans s3),p1.trans p3⟩
      | bk E3=>cases oq9 h1;exact k2
      | rt E3 x=>cases oq9 h1;exact k2
      | xc E3 c=>cases oq9 h1;exact k2
end
structure Walks (K:PySem.W.Frag)(J:It)(T:List Sl)(ds:List D):Prop where
 no:∀t∈T,t.o=.no
 go:∀i H,(∀t∈T,t.ok K H)->i<ds.length->J.go i H
 stop:∀H,(∀t∈T,t.ok K H)->J.stop ds.length H
 yld:∀i H v H' d,(∀t∈T,t.ok K H)->J.yld i H v H'->ds[i]?=some d->∃z:Sl,z.o=.no/\z.d=d/\z.v=v/\jqp H H'/\z.ok K H'/\∀b∈z.as,∃t∈T,b∈t.as
def tI(Z:Fx0)(q:Bool)(it:Ev (List D)):TI:=fun σ H R=>∃E L r,Mt E σ L/\World Z.K H L/\it E=some r/\Xc Z σ H L r /\
 ∀E' ds,r=.ok E' ds->∀J T L' H',Mt E' σ L'->World Z.K H' (L'++T.map some)->Step H L H' (L'++T.map some)->ds.length<=sizeLine->(q=true->jqp H H')->Walks Z.K J T ds->R J H'
def QI(X:Cx)(Z:Fx0)(q:Bool)(tg:Expr)(it:Ev (List D))(e:Expr):Prop:=PI X tg e (tI Z q it)
def wwe(K:PySem.W.Frag)(H0:Hp)(T:List Sl)(H:Hp):Prop:=(∀t∈T,t.ok K H)/\∀t∈T,Kp H0 H t.as
structure WalksD (K:PySem.W.Frag)(H0:Hp)(J:It)(T:List Sl)(ds:List D):Prop where
 no:∀t∈T,t.o=.no
 go:∀i H,wwe K H0 T H->i<ds.length->J.go i H
 stop:∀H,wwe K H0 T H->J.stop ds.length H
 yld:∀i H v H' d,wwe K H0 T H->J.yld i H v H'->ds[i]?=some d->∃z:Sl,z.o=.no/\z.d=d/\z.v=v/\jqp H H'/\z.ok K H'/\∀b∈z.as,∃t∈T,b∈t.as
theorem Walks.D{K:PySem.W.Frag}{H0:Hp}{J:It}{T:List Sl}{ds:List D}(h:Walks K J T ds):WalksD K H0 J T ds:=⟨h.no,λi H o=>h.go i H o.1,λH o=>h.stop H o.1,λi H v H' d o=>h.yld i H v H' d o.1⟩
def tID(Z:Fx0)(q:Bool)(it:Ev (List D)):TI:=fun σ H R=>∃E L r,Mt E σ L/\World Z.K H L/\it E=some r/\Xc Z σ H L r /\
 ∀E' ds,r=.ok E' ds->∀J T L' H',Mt E' σ L'->World Z.K H' (L'++T.map some)->Step H L H' (L'++T.map some)->ds.length<=sizeLine->(q=true->jqp H H')->WalksD Z.K H' J T ds->R J H'
def QID(X:Cx)(Z:Fx0)(q:Bool)(tg:Expr)(it:Ev (List D))(e:Expr):Prop:=PI X tg e (tID Z q it)
theorem QI.D{X:Cx}{Z:Fx0}{q:Bool}{tg:Expr}{it:Ev (List D)}{e:Expr}(h:QI X Z q tg it e):QID X Z q tg it e:=λpins s σ H R I hz=>h pins s σ H R I (by
 obtain⟨E,L,r,m,w,e,x,k⟩:=hz;exact⟨E,L,r,m,w,e,x,λE' ds z J T L' H' m' w' st hl sm wk=>k E' ds z J T L' H' m' w' st hl sm wk.D⟩)
structure WalksS (K:PySem.W.Frag)(q:Bool)(H0:Hp)(J:It)(T:List Sl)(ds:List D):Prop where
 no:∀t∈T,t.o=.no
 go:∀i H,(∀t∈T,t.ok K H)->(q=true->jqp H0 H)->i<ds.length->J.go i H
 stop:∀H,(∀t∈T,t.ok K H)->(q=true->jqp H0 H)->J.stop ds.length H
 yld:∀i H v H' d,(∀t∈T,t.ok K H)->(q=true->jqp H0 H)->J.yld i H v H'->ds[i]?=some d->∃z:Sl,z.o=.no/\z.d=d/\z.v=v/\jqp H H'/\z.ok K H'/\∀b∈z.as,∃t∈T,b∈t.as
theorem vq1{K:PySem.W.Frag}{q:Bool}{H0:Hp}{J:It}{T:List Sl}{ds:List D}(h:Walks K J T ds):WalksS K q H0 J T ds:=⟨h.no,λi H o _=>h.go i H o,λH o _=>h.stop H o,λi H v H' d o _=>h.yld i H v H' d o⟩
def tIS(Z:Fx0)(q:Bool)(it:Ev (List D)):TI:=fun σ H R=>∃E L r,Mt E σ L/\World Z.K H L/\it E=some r/\Xc Z σ H L r /\
 ∀E' ds,r=.ok E' ds->∀J T L' H',Mt E' σ L'->World Z.K H' (L'++T.map some)->Step H L H' (L'++T.map some)->ds.length<=sizeLine->(q=true->jqp H H')->WalksS Z.K q H J T ds->R J H'
def QIS(X:Cx)(Z:Fx0)(q:Bool)(tg:Expr)(it:Ev (List D))(e:Expr):Prop:=PI X tg e (tIS Z q it)
theorem wwp{X:Cx}{Z:Fx0}{q:Bool}{tg:Expr}{it:Ev (List D)}{e:Expr}(h:QI X Z q tg it e):QIS X Z q tg it e:=λpins s σ H R I hz=>h pins s σ H R I (by
 obtain⟨E,L,r,m,w,e,x,k⟩:=hz;exact⟨E,L,r,m,w,e,x,λE' ds z J T L' H' m' w' st hl sm wk=>k E' ds z J T L' H' m' w' st hl sm (vq1 wk)⟩)
def tG(Z:Fx0)(pn:List Nat)(tg:Tg):TG:=λv σ H Q=>∃(E:En) (L:Ls) (z:Sl) (E':En),Mt E σ L/\World Z.K H (some z::L)/\z.o=.no/\z.v=v/\tg.put z.d E=some E' /\
 ∀ σ' L',Pn pn σ σ'->Mt E' σ' L'->World Z.K H L'->Step H (some z::L) H L'->Q σ' H
def QG(X:Cx)(Z:Fx0)(pn:List Nat)(tg:Tg)(e:Expr):Prop:=PG X e (tG Z pn tg)
section
variable {X:Cx}{Z:Fx0}{pn:List Nat}{e:Expr}{σ:L2.St}{H:Hp}{L:Ls}{E:En}
theorem vjz{t t':TG}(h:PG X e t)(w:∀v σ H Q,t' v σ H Q->t v σ H Q):PG X e t':=λpins s σ H x v Q I r q=>h pins s σ H x v Q I r (w x σ H Q q)
theorem kzy{i:Nat}(h:PG X e (qki i))(hp:i∉pn:=by decide):QG X Z pn (.n i) e:=vjz h λv σ H Q ⟨E,L,z,E',m,w,ho,hv,hput,k⟩=>by
 cases oq9 hput;rw[<-hv];exact k (σ.set i (some z.v)) (L.set i (some z)) (Pn.refl.set hp) (kq0 m ho rfl) w.set Step.set
def gNs:List Nat->TGs
 | []=>wx0
 | i::is=>wki (qki i) (gNs is)
theorem qwf{Q:L2.St->Hp->Prop}{M:Ls}{σ0:L2.St}:∀{is:List Nat} {ds:List D} {xs:List V} {bs:List Addr} {E:En} {L:Ls} {σ:L2.St} {E':En},Mt E σ L->World Z.K H L->RepA Z.K H true ds xs bs->(∀b∈bs,b∉jj6 L)->(∀b∈bs,b∈jjd M)->Step H M H L->Pn pn σ0 σ ->
  setAll is ds E=some E'->(∀i∈is,i∉pn)->(∀ σ' L',Pn pn σ0 σ'->Mt E' σ' L'->World Z.K H L'->Step H M H L'->Q σ' H)->gNs is xs σ H Q
 | [],[],xs,bs,E,L,σ,E',m,w,r,_,_,st,p,e,_,k=>by
  cases oq9 e;unfold RepA at r;exact⟨r.1,k σ L p m w st⟩
 | [],_::_,_,_,_,_,_,_,_,_,_,_,_,_,_,e,_,_=>by cases e
 | _::_,[],_,_,_,_,_,_,_,_,_,_,_,_,_,e,_,_=>by cases e
 | i::is,d::ds,xs,bs,E,L,σ,E',m,w,r,hb,hf,st,p,e,hi,k=>by
  unfold RepA at r;obtain⟨x,rr,cs,es,rfl,rfl,h1,h2⟩:=r;have w1:World Z.K H (some ⟨.no,d,x,cs⟩::L):=w.consNo (x:=⟨.no,d,x,cs⟩) h1 rfl λb hb'=>hb b (ll9 _ hb')
  have s1:Step H M H (L.set i (some ⟨.no,d,x,cs⟩)):=by
   refine⟨λ_ _ h _=>h,λa ha=>?_,λa ha=>?_⟩
   ·rcases jkm ha with z | z
    ·exact nomatch z
    ·exact st.own a z
   ·rcases jkr ha with z | z
    ·exact .inl (hf a (ll9 _ z))
    ·exact st.frz a z
  exact⟨x,rr,rfl,qwf (is:=is) (kq0 (x:=⟨.no,d,x,cs⟩) (s:=(.no,d)) m rfl rfl) w1.set h2 (λb hb' ho=>by
   rcases jkm ho with z | z
   ·exact nomatch z
   ·exact hb b (lr9 _ hb') z) (λb hb'=>hf b (lr9 _ hb')) s1 (p.set (hi i X4)) e (λj hj=>hi j (lc9 _ hj)) k⟩
theorem kkx:∀{is:List Nat} {ds:List D} {E E':En},setAll is ds E=some E'->is.length=ds.length
 | [],[],_,_,_=>rfl
 | [],_::_,_,_,e=>by cases e
 | _::_,[],_,_,e=>by cases e
 | i::is,d::ds,E,E',e=>by rw[Xd,Xd,kkx (E:=E.set i (some (.no,d))) e]
def wvx(K:PySem.W.Frag)(n:Nat)(t:TGs):TG:=λv σ H Q=>∃a xs,v=.ref a/\(SqT K H a xs\/SqL K H a xs)/\xs.length=n/\t xs σ H Q
section
variable {prog:Program}{w:PySem.World}{A:Around}{E':Value->Shared->Prop}
theorem kwy{it t:Addr}{items:Array Value}(hne:t≠it):∀(n i:Nat) (s:Shared) (Q:List Value->Shared->Prop),s.heap.IsListIter it t i->s.heap.IsList t items->i+n<=items.size ->
  (∀h',h'.IsListIter it t (i+n)->Heap.SameBut it s.heap h'->Q ((items.toList.drop i).take n) { s with heap:=h' })->wpAny (model prog w) A (draw (.ref it) n) Q E' s
 | 0,i,s,Q,hit,_,_,hQ=>by
  show wpAny _ _ (pure []) Q E' s;exact X5 (by simpa using hQ s.heap hit (Heap.SameBut.refl ..))
 | n+1,i,s,Q,hit,ht,hle,hQ=>by
  have hlt:i<items.size:=by omega
  show wpAny _ _ (pyNext (.ref it) >>= _) Q E' s;refine X1 (wpAny_pyNext_list_item hit ht (x:=items[i]) (by simp[hlt]) λh₁ hit₁ hs₁=>?_);have ht₁:h₁.IsList t items:=by
   obtain⟨o,ho,r⟩:=ht;exact⟨o,(hs₁.2 t hne).trans ho,r⟩
  refine X1 (Yq (kwy hne n (i+1) _ _ hit₁ ht₁ (by omega) λh₂ hit₂ hs₂=>X5 ?_));have hd:items.toList.drop i=items[i]::items.toList.drop (i+1):=by simp[List.drop_eq_getElem_cons,hlt]
  have:=hQ h₂ (by rw[show i+(n+1)=i+1+n by omega];exact hit₂) (hs₁.trans hs₂);rw[hd,List.take_succ_cons]at this;exact this
theorem jzw{s:Shared}{t:Addr}{items:Array Value}{Q:List Value->Shared->Prop}(hh:A.handled=none)(ht:s.heap.IsList t items)
  (hQ:∀h',Heap.ExtBut s.heap.objs.size s.heap h'->Q items.toList { s with heap:=h' }):wpAny (model prog w) A (unpackItems (.ref t) items.size none) Q E' s:=by
 have hlt:t≠s.heap.objs.size:=by obtain⟨o,ho,_⟩:=ht;exact Xw (Xh ho)
 unfold unpackItems;refine X1 ?_;unfold notIterableAtAll;refine X1 (wpAny_specialOf ht.typeIs slot_list_iter.lookup ?_);refine X5 ?_;simp only[Bool.false_eq_true,if_false];refine X1 (Yq (wpAny_pyIter_list ht ?_));have ht0:∀o:Obj,(s.heap.push o).IsList t items:=λo=>by
  obtain⟨ob,ho,r⟩:=ht;exact⟨ob,X6 _ ho,r⟩
 refine X1 (Yq (kwy hlt items.size 0 _ _ ⟨_,Xl _ rfl,rfl,rfl⟩ (ht0 _) (by omega) λh₁ hit₁ hs₁=>?_));have hall:List.take items.size (List.drop 0 items.toList)=items.toList:=by
  rw[List.drop_zero];exact List.take_of_length_le (by simp)
 rw[hall];rw[Xj (by simp)];have ht₁:h₁.IsList t items:=by
  obtain⟨o,ho,r⟩:=ht0 _;exact⟨o,(hs₁.2 t hlt).trans ho,r⟩
 refine X1 (Yq (wpAny_pyNext_list_end hh hit₁ ht₁ (by simp) λh₂ he₂=>?_));simp only[Option.isSome_none,Bool.false_eq_true,if_false];exact X5 (hQ h₂ λb o hb e=>he₂ b o hb (hs₁.extBut b o hb (X6 _ e)))
theorem jzj{s:Shared}{env:Env}{elts:List Expr}{x1}{pos:Pos}{t:Addr}{items:Array Value}{Q:Unit->Shared->Prop}(hh:A.handled=none)(ht:s.heap.IsList t items)
  (hn:(assignEach elts env).length=items.size) (hstar:(assignEach elts env).findIdx? (·.1)=none)
  (h:∀h',Heap.ExtBut s.heap.objs.size s.heap h'->wpAny (model prog w) A (assignInOrder ((assignEach elts env).map (·.2)) items.toList) Q E' { s with heap:=h' }):
  wpAny (model prog w) A (assign (.Tuple elts x1 pos) env (.ref t)) Q E' s:=by
 rw[assign_Tuple];refine X1 (wpAny_standAt ?_);unfold unpack;rw[hn,hstar];exact X1 (Yq (jzw hh ht h))
end
theorem kkz(K:PySem.W.Frag){es:List Expr}{k:Nat}{t:TGs}{n:Nat}{pos:Pos}(h:PGs X es t)(hc:X.calm=true:=by rfl)(hK:X.K=K:=by rfl)
  (hn:(assignEach es X.env).length=n:=by rfl) (hst:(assignEach es X.env).findIdx? (·.1)=none:=by rfl):PG X (.Tuple es k pos) (wvx K n t):=by
 subst hK;intro pins s σ H v u Q I r hw;obtain⟨a,xs,e1,hq,hl,hw⟩:=hw;subst e1;cases r;rcases hq with hq | hq
 ·obtain⟨its,rv,ht,hz⟩:=I.tuple hq;refine assign_Tuple_tuple (I.ok.hd hc) ht (by simp[hn,<-hl,rv.length]) hst λh' hx=>?_
  have I1:L2.Inv X pins σ H { s with heap:=h' }:=I.kept (t':=s.toks) λb o e=>hx b o (Xw (Xh e)) e
  exact h pins _ σ H xs _ Q I1 (by simpa using rv) hw
 ·obtain⟨its,rv,ht,hz⟩:=I.list hq;refine jzj (I.ok.hd hc) ht.isList (by simp[hn,<-hl,rv.length]) hst λh' hx=>?_
  have I1:L2.Inv X pins σ H { s with heap:=h' }:=I.kept (t':=s.toks) λb o e=>hx b o (Xw (Xh e)) e
  exact h pins _ σ H xs _ Q I1 (by simpa using rv) hw
theorem vx8{is:List Nat}(h:PG X e (wvx Z.K is.length (gNs is)))(hp:∀i∈is,i∉pn:=by decide):QG X Z pn (.t is) e:=vjz h λv σ H Q ⟨E,L,z,E',m,w,ho,hv,hput,k⟩=>by
 have fin:∀ds:List D,(z.d=.lst ds\/z.d=.tup ds)->setAll is ds E=some E'->wvx Z.K is.length (gNs is) v σ H Q:=λds hd hput=>by
  obtain⟨a,xs,bs,e1,q1,r,h1,h2⟩:=items w.head hd;rw[ho]at r;refine⟨a,xs,hv.symm.trans e1,?_,by rw[kkx hput,r.len],qwf (M:=some z::L) m w.tail r (λb hb=>w.apart b (h1 b hb)) (λb hb=>?_) Step.drop Pn.refl hput hp k⟩
  ·rcases q1 with⟨_,z'⟩| ⟨_,z'⟩
   ·exact .inr z'.sq
   ·exact .inl z'
  ·rw[jj8,kwq ho];exact ll9 _ (h1 b hb)
 cases hd:z.d with
 | tup ds=>rw[hd]at hput;exact fin ds (.inr hd) hput
 | lst ds=>rw[hd]at hput;exact fin ds (.inl hd) hput
 | _=>rw[hd]at hput;cases hput
theorem vjt{is:List Nat}{q:Bool}{c:Ex}{ea tg:Expr}{pos:Pos}(h:QE X Z q c ea)(hg:QG X Z pn (.t is) tg)(hs:swapsWithSole [tg] ea pos.line X.env=pure false:=by rfl)(hw:swappedStores [tg] ea X.env=pure none:=by rfl)(h1:(assignEach [tg] X.env).map (·.2)=[assign tg X.env]:=by rfl):
  QS X Z pn (vx7 is c) (.Assign [tg] ea pos):=jve (vzv h hg hs hw h1) λD σ H h_z=>ex7 h_z λE L r m w hc k =>
 qqh m w (show ofE (c E) _=some r from hc) k λE1 s h1 x L1 H1 e1 e2 m1 w1 st _=>by
  cases hp:Tg.put (.t is) s.2 E1 with
  | none=>rw[hp]at h1;cases h1
  | some E2 =>
   rw[hp]at h1;cases oq9 h1;have w2:World Z.K H1 (some x.let::L1):=w1.tail.consNo (jwj w1.head) rfl λb hb=>w1.apart b hb
   have s2:Step H L H1 (some x.let::L1):=jx5 (x:=x.let) (st.trans Step.drop) (jx7 (x:=x) st) rfl;exact⟨E1,L1,x.let,E2,m1,w2,rfl,rfl,by rw[show x.let.d=s.2 from e2];exact hp,fun σ' L' p m' w' s'=>k σ' L' H1 p m' w' (s2.trans s')⟩
end
section
variable {X:Cx}{Z:Fx0}{pn:List Nat}{q:Bool}{tg iter:Expr}{it:Ev (List D)}{t:Tg}{B:Sm}{ss:List Stmt}{pos:Pos}{σ:L2.St}{H:Hp}{L:Ls}{E:En}
theorem kq3{K:PySem.W.Frag}{T:List Sl}{H1 H2:Hp}{L1:Ls}{z:Sl}(w:World K H1 (L1++T.map some))(hT:∀t∈T,t.o=.no)(sm:jqp H1 H2)(ok:z.ok K H2)(ho:z.o=.no)(hz:∀b∈z.as,∃t∈T,b∈t.as):
  World K H2 ((some z::L1)++T.map some)/\Step H1 (L1++T.map some) H2 ((some z::L1)++T.map some):=by
 have w2:World K H2 (L1++T.map some):=⟨λx hx=>RepO.kp (w.ok x hx) (Kp.of_same sm),w.nd,w.ds⟩;have hf:∀b∈z.as,b∈jjd (L1++T.map some):=λb hb=>by
  obtain⟨t,ht,hbt⟩:=hz b hb;rw[jj5];exact lr9 _ (mem_frozen.mpr ⟨t,Xg ht,by rw[kwq (hT t ht)];exact hbt⟩)
 refine⟨w2.consNo ok ho λb hb hL=>w2.ds b hL (hf b hb),λa ob h _=>sm a ob h,λa ha=>?_,λa ha=>?_⟩
 ·rw[List.cons_append,jj3,qvd ho]at ha;exact .inl ha
 ·rw[List.cons_append,jj8,kwq ho]at ha;rcases List.mem_append.mp ha with q | q
  ·exact .inl (hf a q)
  ·exact .inl q
theorem stay{K:PySem.W.Frag}{T L1 L2:Ls}{H1 H2:Hp}(w:World K H1 (L1++T))(s:Step H1 L1 H2 L2)(w2:World K H2 L2):World K H2 (L2++T)/\Step H1 (L1++T) H2 (L2++T):=⟨s.frame w w2 w.left,s.frm⟩
theorem Step.dropT{T:Ls}{H1:Hp}{L1:Ls}:Step H1 (L1++T) H1 L1:=⟨λ_ _ h _=>h,λa ha=>.inl (by rw[jj2];exact ll9 _ ha),λa ha=>.inl (by rw[jj5];exact ll9 _ ha)⟩
theorem Kp.trans{H H1 H2:Hp}{as:List Addr}(a:Kp H H1 as)(b:Kp H1 H2 as):Kp H H2 as:=⟨λc xs e=>b.1 c xs (a.1 c xs e),λc o u e=>b.2.1 c o u (a.2.1 c o u e),λc hc ob e=>b.2.2 c hc ob (a.2.2 c hc ob e)⟩
theorem kzz{K:PySem.W.Frag}{H2 H3:Hp}{L2 L3:Ls}{T:List Sl}(w:World K H2 (L2++T.map some))(hT:∀t∈T,t.o=.no)(s:Step H2 L2 H3 L3){H0:Hp}(h:∀t∈T,Kp H0 H2 t.as):∀t∈T,Kp H0 H3 t.as:=λt ht =>
 (h t ht).trans (s.kp w.left λb hb z=>w.ds b (by rw[jj2];exact ll9 _ z) (by
  rw[jj5];exact lr9 _ (mem_frozen.mpr ⟨t,Xg ht,by rw[kwq (hT t ht)];exact hb⟩)))
theorem vzl(hp:PassesOwn (model X.prog X.w) X.A X.env X.xe)(hc:X.calm=true)(hi:QID X Z q tg it iter)(hg:QG X Z pn t tg)(hb:QSs X Z pn B ss)(hs:∀x,foldedSetIterable iter X.env x=pure x:=by intro _;rfl):QS X Z pn (jwi it t B) (.For tg iter ss [] pos):=jve (vzu hp hc hi hg hb hs) λD σ H h_z=>ex7 h_z λE L r m w hr k=>by
 have hr:ofE (it E) (λE ds=>qxn t B ds E)=some r:=hr;rcases jw3 hr with⟨E1,ds,h1,h2⟩| ⟨E1,c,h1,rfl⟩
 rotate_left
 ·exact⟨E,L,_,m,w,h1,k.xc,λE' s' z=>by cases z⟩
 refine⟨E,L,_,m,w,h1,(λ_ _ z=>by cases z),λE' ds' z J T L' H' m' w' st hz _ wk=>?_⟩;injection z with z1 z2;subst z1 z2;have okT:∀{H2:Hp} {L2:Ls},World Z.K H2 (L2++T.map some)->∀t∈T,t.ok Z.K H2:=λw2 t ht=>w2.ok t (lr9 _ (Xg ht))
 refine⟨λi n σ1 H1=>∃E1 L1,Mt E1 σ1 L1/\World Z.K H1 (L1++T.map some)/\Step H L H1 (L1++T.map some)/\Pn pn σ σ1/\qxn t B (ds.drop i) E1=some r/\i<=ds.length/\n=ds.length - i/\∀t∈T,Kp H' H1 t.as,⟨_,E1,L',m',w',st,Pn.refl,h2,Y4 _,rfl,λ_ _=>Kp.of_same jk3⟩,?_⟩;rintro i n σ1 H1 ⟨E1,L1,m1,w1,st1,p1,f1,hi,rfl,pins⟩
 by_cases hlt:i<ds.length
 ·have hd:ds.drop i=ds[i]::ds.drop (i+1):=List.drop_eq_getElem_cons hlt;rw [hd]at f1;unfold qxn at f1;cases hput:t.put ds[i] E1 with
  | none=>rw[hput]at f1;cases f1
  | some E2 =>
   rw[hput]at f1;dsimp only at f1;refine .inr ⟨wk.go i H1 ⟨okT w1,pins⟩ hlt,fun σ2 H2=>∃E2 L2,Mt E2 σ2 L2/\World Z.K H2 (L2++T.map some)/\Step H L H2 (L2++T.map some)/\Pn pn σ σ2/\qxn t B (ds.drop (i+1)) E2=some r/\∀t∈T,Kp H' H2 t.as,fun σ2 H2 ⟨E2,L2,a1,a2,a3,a4,a5,a6⟩=>⟨ds.length - (i+1),by omega,E2,L2,a1,a2,a3,a4,a5,hlt,rfl,a6⟩,λv H2 hy=>?_⟩;obtain⟨z,zo,zd,zv,sm,zok,zas⟩:=wk.yld i H1 v H2 ds[i] ⟨okT w1,pins⟩ hy (X0 hlt);obtain⟨wz,sz⟩:=kq3 w1 wk.no sm zok zo zas;refine⟨E1,L1,z,E2,m1,wz.left,zo,zv,by rw[zd];exact hput,fun σ2 L2 p2 m2 w2 st2=>?_⟩;obtain⟨w3,st3⟩:=stay wz st2 w2;have st4:Step H L H2 (L2++T.map some):=st1.trans (sz.trans st3);have pins2:∀t∈T,Kp H' H2 t.as:=λt ht=>(pins t ht).trans (Kp.of_same sm)
   cases hB:B E2 with
   | none=>rw[hB]at f1;cases f1
   | some g =>
    rw[hB]at f1;refine⟨E2,L2,g,m2,w2,hB,?_⟩;have fin:∀{g:Fl},g=r->(∀ σ',D.nx σ'=D.nx σ')->FlP Z pn D σ2 H2 (L2++T.map some) g:=λe _=>e▸k.step st4 (p1.trans p2)
    cases g with
    | nx E3 =>
     intro σ3 L3 H3 p3 m3 w4 s3;obtain⟨w5,s5⟩:=stay w3 s3 w4;exact⟨E3,L3,m3,w5,st4.trans s5,(p1.trans p2).trans p3,f1,kzz w3 wk.no s3 pins2⟩
    | ct E3 =>
     intro σ3 L3 H3 p3 m3 w4 s3;obtain⟨w5,s5⟩:=stay w3 s3 w4;exact⟨E3,L3,m3,w5,st4.trans s5,(p1.trans p2).trans p3,f1,kzz w3 wk.no s3 pins2⟩
    | bk E3 =>
     have e:=oq9 f1;subst e;intro σ3 L3 H3 p3 m3 w4 s3;exact k σ3 L3 H3 ((p1.trans p2).trans p3) m3 w4 ((st4.trans Step.dropT).trans s3)
    | rt E3 x =>
     have e:=oq9 f1;subst e;intro y σ3 L3 H3 e1 e2 p3 m3 w4 s3;exact k y σ3 L3 H3 e1 e2 ((p1.trans p2).trans p3) m3 w4 ((st4.trans Step.dropT).trans s3)
    | xc E3 c =>
     have e:=oq9 f1;subst e;intro C σ3 L3 H3 hm p3 m3 w4 s3;exact k C σ3 L3 H3 hm ((p1.trans p2).trans p3) m3 w4 ((st4.trans Step.dropT).trans s3)
 ·have e:i=ds.length:=by omega
  subst e;rw[List.drop_length]at f1;cases oq9 f1;exact .inl ⟨wk.stop H1 ⟨okT w1,pins⟩,k σ1 L1 H1 p1 m1 w1.left (st1.trans Step.dropT)⟩
theorem wv5(hp:PassesOwn (model X.prog X.w) X.A X.env X.xe)(hc:X.calm=true)(hi:QI X Z q tg it iter)(hg:QG X Z pn t tg)(hb:QSs X Z pn B ss)(hs:∀x,foldedSetIterable iter X.env x=pure x:=by intro _;rfl):QS X Z pn (jwi it t B) (.For tg iter ss [] pos):=vzl hp hc hi.D hg hb hs
end
mutual
def jja(h:Heap):D->Value->Prop
 | .non,u=>u=.none
 | .bl b,u=>u=.bool b
 | .int i,u=>∃t,u=.int i t
 | .str z,u=>∃t,u=.str z t
 | .tup ds,u=>∃a us,u=.ref a/\h.IsTuple a us.toArray/\CReps h ds us
 | .lst ds,u=>∃a us,u=.ref a/\h.IsList a us.toArray/\CReps h ds us
 | .dct _,_=>False
 | .obj _ _,_=>False
def CReps(h:Heap):List D->List Value->Prop
 | [],us=>us=[]
 | d::ds,us=>∃u r,us=u::r/\jja h d u/\CReps h ds r
end
theorem qji{n:Nat}{k:List (D×D)}:D.flat n (.dct k)=false:=by cases n<;>simp[D.flat]
theorem qjh{n:Nat}{c:Str}{k:List (Str×D)}:D.flat n (.obj c k)=false:=by cases n<;>simp[D.flat]
section
variable {X:Cx}{pins:List (Addr×Obj)}{σ:L2.St}{H:Hp}{s:Shared}
mutual
theorem jzg(I:Inv X pins σ H s){g:Bool}:∀{n:Nat} {d:D} {v:V} {as:List Addr} {u:Value},RepL X.K H g d v as->d.flat n=true->RelV v u->jja s.heap d u
 | _,.non,_,_,_,h,_,r=>by
  unfold RepL at h;rw[h.1]at r;unfold jja;exact r
 | _,.bl _,_,_,_,h,_,r=>by
  unfold RepL at h;rw[h.1]at r;unfold jja;exact r
 | _,.int _,_,_,_,h,_,r=>by
  unfold RepL at h;rw[h.1]at r;unfold jja;exact r
 | _,.str _,_,_,_,h,_,r=>by
  unfold RepL at h;rw[h.1]at r;unfold jja;exact r
 | 0,.tup ds,_,_,_,h,f,r=>by unfold D.flat at f;cases f
 | n+1,.tup ds,_,_,_,h,f,r=>by
  unfold RepL at h;unfold D.flat at f;obtain⟨a,xs,rfl,q,ra⟩:=h;cases r;obtain⟨its,rv,p,_⟩:=I.tuple q;unfold jja;exact⟨a,its,rfl,p,creps_of I ra f rv⟩
 | 0,.lst ds,_,_,_,h,f,r=>by unfold D.flat at f;cases f
 | n+1,.lst ds,_,_,_,h,f,r=>by
  unfold RepL at h;unfold D.flat at f;obtain⟨a,xs,bs,rfl,ra,q⟩:=h;cases r;have q':SqL X.K H a xs:=by
   rcases q with⟨q,_⟩| ⟨_,q,_⟩
   ·exact SqL.of q
   ·exact(LsR.of q).sq
  obtain⟨its,rv,p,_⟩:=I.list q';unfold jja;exact⟨a,its,rfl,p.isList,creps_of I ra f rv⟩
 | _,.dct _,_,_,_,h,f,r=>by rw[qji]at f;cases f
 | _,.obj _ _,_,_,_,h,f,r=>by rw[qjh]at f;cases f
theorem creps_of(I:Inv X pins σ H s){g:Bool}:∀{n:Nat} {ds:List D} {xs:List V} {as:List Addr} {us:List Value},RepA X.K H g ds xs as->D.flats n ds=true->Vals xs us->CReps s.heap ds us
 | _,[],_,_,_,h,_,r=>by
  unfold RepA at h;rw[h.1]at r;cases r;unfold CReps;rfl
 | n,d::ds,_,_,_,h,f,r=>by
  unfold RepA at h;unfold D.flats at f;rw[Bool.and_eq_true]at f;obtain⟨x,rr,bs,cs,rfl,rfl,h1,h2⟩:=h;cases r with
  | cons r1 r2 =>
   unfold CReps;exact⟨_,_,rfl,jzg I h1 f.1 r1,creps_of I h2 f.2 r2⟩
end
end
theorem CReps.len{h:Heap}:∀{ds:List D} {us:List Value},CReps h ds us->ds.length=us.length
 | [],_,r=>by unfold CReps at r;rw[r];rfl
 | d::ds,_,r=>by
  unfold CReps at r;obtain⟨u,rr,rfl,_,h2⟩:=r;simp[CReps.len h2]
theorem CReps.get{h:Heap}:∀{ds:List D} {us:List Value} {j:Nat} {d:D},CReps h ds us->ds[j]?=some d->∃u,us[j]?=some u/\jja h d u
 | [],_,_,_,_,e=>by simp at e
 | d::ds,_,j,d',r,e=>by
  unfold CReps at r;obtain⟨u,rr,rfl,h1,h2⟩:=r;cases j with
  | zero =>
   have e:d=d':=by simpa using e
   subst e;exact⟨u,by simp,h1⟩
  | succ j =>
   obtain⟨w,e1,e2⟩:=CReps.get (j:=j) h2 (by simpa using e);exact⟨w,by simpa using e1,e2⟩
theorem vq6{h:Heap}{a:Addr}{x y:Array Value}(p:h.IsTuple a x)(q:h.IsTuple a y):x=y:=by
 obtain⟨o,h1,_,n,h2⟩:=p;obtain⟨o',h3,_,n',h4⟩:=q;rw[h1]at h3;cases h3;rw[h2]at h4;injection h4
theorem vvv{h:Heap}{a:Addr}{x y:Array Value}(p:h.IsList a x)(q:h.IsList a y):x=y:=by
 obtain⟨o,h1,_,n,h2⟩:=p;obtain⟨o',h3,_,n',h4⟩:=q;rw[h1]at h3;cases h3;rw[h2]at h4;injection h4
theorem qvp{h:Heap}{a:Addr}{x y:Array Value}(p:h.IsList a x)(q:h.IsTuple a y):False:=by
 obtain⟨o,h1,h2,_⟩:=p;obtain⟨o',h3,h4,_⟩:=q;rw[h1]at h3;cases h3;rw[h2]at h4;exact absurd (Value.type.inj h4) (by decide)
mutual
theorem kj7{h:Heap}:∀{d d':D} {u:Value},jja h d u->jja h d' u->d=d'
 | .non,d',u,a,b=>by
  unfold jja at a;subst a;cases d'<;>unfold jja at b<;>first | rfl | exact b.elim | (cases b;done)| (obtain⟨_,b⟩:=b;cases b;done)| (obtain⟨_,_,b,_⟩:=b;cases b)
 | .bl k,d',u,a,b=>by
  unfold jja at a;subst a;cases d'<;>unfold jja at b<;>first | exact b.elim | (cases b;rfl)| (cases b;done)| (obtain⟨_,b⟩:=b;cases b;done)| (obtain⟨_,_,b,_⟩:=b;cases b)
 | .int k,d',u,a,b=>by
  unfold jja at a;obtain⟨t,rfl⟩:=a;cases d'<;>unfold jja at b<;>first | exact b.elim | (cases b;done)| (obtain⟨_,b⟩:=b;cases b;rfl)| (obtain⟨_,b⟩:=b;cases b;done)| (obtain⟨_,_,b,_⟩:=b;cases b)
 | .str k,d',u,a,b=>by
  unfold jja at a;obtain⟨t,rfl⟩:=a;cases d'<;>unfold jja at b<;>first | exact b.elim | (cases b;done)| (obtain⟨_,b⟩:=b;cases b;rfl)| (obtain⟨_,b⟩:=b;cases b;done)| (obtain⟨_,_,b,_⟩:=b;cases b)
 | .tup ds,d',u,a,b=>by
  unfold jja at a;obtain⟨x,us,rfl,p,r⟩:=a;cases d' with
  | tup es =>
   unfold jja at b;obtain⟨y,ws,e,p',r'⟩:=b;cases e;have e2:us=ws:=by simpa using vq6 p p'
   subst e2;rw[creps_inj r r']
  | lst es =>
   unfold jja at b;obtain⟨y,ws,e,p',r'⟩:=b;cases e;exact(qvp p' p).elim
  | non=>unfold jja at b;cases b
  | bl k=>unfold jja at b;cases b
  | int k=>unfold jja at b;obtain⟨_,b⟩:=b;cases b
  | str k=>unfold jja at b;obtain⟨_,b⟩:=b;cases b
  | dct k=>unfold jja at b;exact b.elim
  | obj k l=>unfold jja at b;exact b.elim
 | .lst ds,d',u,a,b=>by
  unfold jja at a;obtain⟨x,us,rfl,p,r⟩:=a;cases d' with
  | lst es =>
   unfold jja at b;obtain⟨y,ws,e,p',r'⟩:=b;cases e;have e2:us=ws:=by simpa using vvv p p'
   subst e2;rw[creps_inj r r']
  | tup es =>
   unfold jja at b;obtain⟨y,ws,e,p',r'⟩:=b;cases e;exact(qvp p p').elim
  | non=>unfold jja at b;cases b
  | bl k=>unfold jja at b;cases b
  | int k=>unfold jja at b;obtain⟨_,b⟩:=b;cases b
  | str k=>unfold jja at b;obtain⟨_,b⟩:=b;cases b
  | dct k=>unfold jja at b;exact b.elim
  | obj k l=>unfold jja at b;exact b.elim
 | .dct k,_,_,a,_=>by unfold jja at a;exact a.elim
 | .obj k l,_,_,a,_=>by unfold jja at a;exact a.elim
theorem creps_inj{h:Heap}:∀{ds ds':List D} {us:List Value},CReps h ds us->CReps h ds' us->ds=ds'
 | [],ds',us,a,b=>by
  unfold CReps at a;subst a;cases ds' with
  | nil=>rfl
  | cons d ds=>unfold CReps at b;obtain⟨_,_,e,_⟩:=b;cases e
 | d::ds,ds',us,a,b=>by
  unfold CReps at a;obtain⟨u,r,rfl,h1,h2⟩:=a;cases ds' with
  | nil=>unfold CReps at b;cases b
  | cons d' ds' =>
   unfold CReps at b;obtain⟨u',r',e,h3,h4⟩:=b;cases e;rw[kj7 h1 h3,creps_inj h2 h4]
end
mutual
theorem jxe:∀{n:Nat} {d:D},d.flat n=true->peq d d=true
 | _,.non,_=>by unfold peq;rfl
 | _,.bl b,_=>by unfold peq;simp
 | _,.int b,_=>by unfold peq;simp
 | _,.str b,_=>by unfold peq;simp
 | 0,.tup ds,f=>by unfold D.flat at f;cases f
 | n+1,.tup ds,f=>by unfold peq;unfold D.flat at f;exact peqs_refl f
 | 0,.lst ds,f=>by unfold D.flat at f;cases f
 | n+1,.lst ds,f=>by unfold peq;unfold D.flat at f;exact peqs_refl f
 | _,.dct _,f=>by rw[qji]at f;cases f
 | _,.obj _ _,f=>by rw[qjh]at f;cases f
theorem peqs_refl:∀{n:Nat} {d:List D},D.flats n d=true->peqs d d=true
 | _,[],_=>by unfold peqs;rfl
 | n,d::ds,f=>by
  unfold D.flats at f;rw[Bool.and_eq_true]at f;unfold peqs;rw[jxe f.1,peqs_refl f.2];rfl
end
theorem kk7 : ∀{n : Nat} {ds : List D} {j : Nat} {d : D}, D.flats n ds = true -> ds[j]? = some d -> d.flat n = true
  | _, [], _, _, _, e => by simp at e
  | n, d::ds, j, d', f, e => by
    unfold D.flats at f;rw[Bool.and_eq_true]at f;cases j with
    | zero => have e : d = d' := by simpa using e
              subst e; exact f.1
    | succ j => exact kk7 (j := j) f.2 (by simpa using e)
def pAt(as bs:List D)(j:Nat):Bool:=match as[j]?,bs[j]? with
 | some a,some b=>peq a b
 | _,_=>true
theorem jz5:∀(as bs:List D),as.length=bs.length->(List.range as.length).all (pAt as bs)=peqs as bs
 | [],[],_=>by unfold peqs;rfl
 | a::as,b::bs,h=>by
  have ih:=jz5 as bs (by simpa using h);rw[Xd,List.range_succ_eq_map,List.all_cons,List.all_map];unfold peqs;rw[<-ih];rfl
 | [],_::_,h=>by simp at h
 | _::_,[],h=>by simp at h
theorem kqx:∀(as bs:List D),as.length≠bs.length->peqs as bs=false
 | [],[],h=>by simp at h
 | a::as,b::bs,h=>by
  unfold peqs;rw[kqx as bs (by simpa using h),Bool.and_false]
 | [],_::_,_=>by unfold peqs;rfl
 | _::_,[],_=>by unfold peqs;rfl
theorem qxt(as bs:List D):((List.range (min as.length bs.length)).all (pAt as bs)&&as.length==bs.length)=peqs as bs:=by
 by_cases e:as.length=bs.length
 ·rw[<-e,Nat.min_self,jz5 as bs e];simp[e]
 ·rw[kqx as bs e];have:(as.length==bs.length)=false:=by simpa using e
  rw[this,Bool.and_false]
section
variable {s:Shared}
theorem qvc{as bs:List D}{us ws:List Value}{A:Around}(ra:CReps s.heap as us)(rb:CReps s.heap bs ws)
  (h:∀(j:Nat) (d d':D) (u w:Value),as[j]?=some d->bs[j]?=some d'->jja s.heap d u->jja s.heap d' w->SeqAt.EqAt A s u w (peq d d')):
  ∀j (h1:j<us.toArray.size) (h2:j<ws.toArray.size),SeqAt.EqAt A s us.toArray[j] ws.toArray[j] (pAt as bs j):=λj h1 h2=>by
 have l1:=ra.len;have l2:=rb.len;simp only[Xa]at h1 h2;have ha:j<as.length:=by omega
 have hb:j<bs.length:=by omega
 obtain⟨u,eu,ru⟩:=ra.get (X0 ha);obtain⟨w,ew,rw'⟩:=rb.get (X0 hb);have e1:us.toArray[j]=u:=by
  obtain⟨_,q⟩:=List.getElem?_eq_some_iff.mp eu
  simpa using q
 have e2:ws.toArray[j]=w:=by
  obtain⟨_,q⟩:=List.getElem?_eq_some_iff.mp ew
  simpa using q
 have e3:pAt as bs j=peq as[j] bs[j]:=by
  unfold pAt;rw[X0 ha,X0 hb]
 rw[e1,e2,e3];exact h j _ _ u w (X0 ha) (X0 hb) ru rw'
theorem vz5{A:Around}{d d':D}{u w:Value}(hu:A.units<cLine)(r:jja s.heap d u)(r':jja s.heap d' w)
  (el:∀(as bs:List D) (us ws:List Value),(d=.lst as\/d=.tup as)->(d'=.lst bs\/d'=.tup bs)->CReps s.heap as us->CReps s.heap bs ws->∀j (h1:j<us.toArray.size) (h2:j<ws.toArray.size),SeqAt.EqAt A.in1 s us.toArray[j] ws.toArray[j] (pAt as bs j)):
  SeqAt.RcAt A s u w (peq d d'):=by
 cases d with
 | dct k=>unfold jja at r;exact r.elim
 | obj k l=>unfold jja at r;exact r.elim
 | non =>
  unfold jja at r;subst r;cases d' with
  | dct k=>unfold jja at r';exact r'.elim
  | obj k l=>unfold jja at r';exact r'.elim
  | non=>unfold jja at r';subst r';unfold peq;exact SeqAt.RcAt.none_none
  | bl b=>unfold jja at r';subst r';unfold peq;exact SeqAt.RcAt.none_bool _
  | int b=>unfold jja at r';obtain⟨_,rfl⟩:=r';unfold peq;exact SeqAt.RcAt.none_int _ _
  | str b=>unfold jja at r';obtain⟨_,rfl⟩:=r';unfold peq;exact SeqAt.RcAt.none_str _ _
  | lst b=>unfold jja at r';obtain⟨_,_,rfl,p,_⟩:=r';unfold peq;exact SeqAt.RcAt.none_list p hu
  | tup b=>unfold jja at r';obtain⟨_,_,rfl,p,_⟩:=r';unfold peq;exact SeqAt.RcAt.none_tuple p hu
 | bl a =>
  unfold jja at r;subst r;cases d' with
  | dct k=>unfold jja at r';exact r'.elim
  | obj k l=>unfold jja at r';exact r'.elim
  | non=>unfold jja at r';subst r';unfold peq;exact SeqAt.RcAt.bool_none _
  | bl b=>unfold jja at r';subst r';unfold peq;exact SeqAt.RcAt.bool_bool _ _
  | int b=>unfold jja at r';obtain⟨_,rfl⟩:=r';unfold peq;exact SeqAt.RcAt.bool_int _ _ _
  | str b=>unfold jja at r';obtain⟨_,rfl⟩:=r';unfold peq;exact SeqAt.RcAt.bool_str _ _ _
  | lst b=>unfold jja at r';obtain⟨_,_,rfl,p,_⟩:=r';unfold peq;exact SeqAt.RcAt.bool_list _ p hu
  | tup b=>unfold jja at r';obtain⟨_,_,rfl,p,_⟩:=r';unfold peq;exact SeqAt.RcAt.bool_tuple _ p hu
 | int a =>
  unfold jja at r;obtain⟨t,rfl⟩:=r;cases d' with
  | dct k=>unfold jja at r';exact r'.elim
  | obj k l=>unfold jja at r';exact r'.elim
  | non=>unfold jja at r';subst r';unfold peq;exact SeqAt.RcAt.int_none _ _
  | bl b=>unfold jja at r';subst r';unfold peq;exact SeqAt.RcAt.int_bool _ _ _
  | int b=>unfold jja at r';obtain⟨_,rfl⟩:=r';unfold peq;exact SeqAt.RcAt.int_int _ _ _ _
  | str b=>unfold jja at r';obtain⟨_,rfl⟩:=r';unfold peq;exact SeqAt.RcAt.int_str _ _ _ _
  | lst b=>unfold jja at r';obtain⟨_,_,rfl,p,_⟩:=r';unfold peq;exact SeqAt.RcAt.int_list _ _ p hu
  | tup b=>unfold jja at r';obtain⟨_,_,rfl,p,_⟩:=r';unfold peq;exact SeqAt.RcAt.int_tuple _ _ p hu
 | str a =>
  unfold jja at r;obtain⟨t,rfl⟩:=r;cases d' with
  | dct k=>unfold jja at r';exact r'.elim
  | obj k l=>unfold jja at r';exact r'.elim
  | non=>unfold jja at r';subst r';unfold peq;exact SeqAt.RcAt.str_none _ _
  | bl b=>unfold jja at r';subst r';unfold peq;exact SeqAt.RcAt.str_bool _ _ _
  | int b=>unfold jja at r';obtain⟨_,rfl⟩:=r';unfold peq;exact SeqAt.RcAt.str_int _ _ _ _
  | str b=>unfold jja at r';obtain⟨_,rfl⟩:=r';unfold peq;exact SeqAt.RcAt.str_str _ _ _ _
  | lst b=>unfold jja at r';obtain⟨_,_,rfl,p,_⟩:=r';unfold peq;exact SeqAt.RcAt.str_list _ _ p hu
  | tup b=>unfold jja at r';obtain⟨_,_,rfl,p,_⟩:=r';unfold peq;exact SeqAt.RcAt.str_tuple _ _ p hu
 | lst as =>
  unfold jja at r;obtain⟨a,us,rfl,p,ra⟩:=r;cases d' with
  | dct k=>unfold jja at r';exact r'.elim
  | obj k l=>unfold jja at r';exact r'.elim
  | non=>unfold jja at r';subst r';unfold peq;exact SeqAt.RcAt.list_none p hu
  | bl b=>unfold jja at r';subst r';unfold peq;exact SeqAt.RcAt.list_bool _ p hu
  | int b=>unfold jja at r';obtain⟨_,rfl⟩:=r';unfold peq;exact SeqAt.RcAt.list_int _ _ p hu
  | str b=>unfold jja at r';obtain⟨_,rfl⟩:=r';unfold peq;exact SeqAt.RcAt.list_str _ _ p hu
  | tup bs=>unfold jja at r';obtain⟨_,_,rfl,p',_⟩:=r';unfold peq;exact SeqAt.RcAt.list_tuple p p' hu
  | lst bs =>
   unfold jja at r';obtain⟨b,ws,rfl,p',rb⟩:=r';have l1:=ra.len;have l2:=rb.len;unfold peq
   by_cases hl:as.length=bs.length
   ·rw[<-jz5 as bs hl];have z:=SeqAt.RcAt.lists (A:=A) (s:=s) (e:=pAt as bs) p p' (by simp only[Xa];omega) hu (el as bs us ws (.inl rfl) (.inl rfl) ra rb);rw[Xa,<-l1]at z;exact z
   ·rw[kqx as bs hl];exact SeqAt.RcAt.lists_lengths p p' (by simp only[Xa,bne_iff_ne];omega) hu
 | tup as =>
  unfold jja at r;obtain⟨a,us,rfl,p,ra⟩:=r;cases d' with
  | dct k=>unfold jja at r';exact r'.elim
  | obj k l=>unfold jja at r';exact r'.elim
  | non=>unfold jja at r';subst r';unfold peq;exact SeqAt.RcAt.tuple_none p hu
  | bl b=>unfold jja at r';subst r';unfold peq;exact SeqAt.RcAt.tuple_bool _ p hu
  | int b=>unfold jja at r';obtain⟨_,rfl⟩:=r';unfold peq;exact SeqAt.RcAt.tuple_int _ _ p hu
  | str b=>unfold jja at r';obtain⟨_,rfl⟩:=r';unfold peq;exact SeqAt.RcAt.tuple_str _ _ p hu
  | lst bs=>unfold jja at r';obtain⟨_,_,rfl,p',_⟩:=r';unfold peq;exact SeqAt.RcAt.tuple_list p p' hu
  | tup bs =>
   unfold jja at r';obtain⟨b,ws,rfl,p',rb⟩:=r';have l1:=ra.len;have l2:=rb.len;unfold peq;rw[<-qxt as bs];have z:=SeqAt.RcAt.tuples (A:=A) (s:=s) (e:=pAt as bs) p p' hu (el as bs us ws (.inr rfl) (.inr rfl) ra rb);rw[Xa,Xa,<-l1,<-l2]at z;exact z
theorem vwh{A:Around}{d d':D}{u w:Value}(hu:A.units<cLine)(r:jja s.heap d u)(r':jja s.heap d' w)(hid:u=w->peq d d'=true)(rc:SeqAt.RcAt A s u w (peq d d')):SeqAt.EqAt A s u w (peq d d'):=by
 cases d with
 | dct k=>unfold jja at r;exact r.elim
 | obj k l=>unfold jja at r;exact r.elim
 | non =>
  unfold jja at r;subst r;cases d' with
  | dct k=>unfold jja at r';exact r'.elim
  | obj k l=>unfold jja at r';exact r'.elim
  | non=>unfold jja at r';subst r';unfold peq;exact SeqAt.EqAt.same _
  | bl b=>unfold jja at r';subst r';unfold peq;exact SeqAt.EqAt.none_bool _
  | int b=>unfold jja at r';obtain⟨_,rfl⟩:=r';unfold peq;exact SeqAt.EqAt.none_int _ _
  | str b=>unfold jja at r';obtain⟨_,rfl⟩:=r';unfold peq;exact SeqAt.EqAt.none_str _ _
  | lst b=>unfold jja at r';obtain⟨a',_,rfl,p',_⟩:=r';unfold peq;exact SeqAt.EqAt.none_list p' hu
  | tup b=>unfold jja at r';obtain⟨a',_,rfl,p',_⟩:=r';unfold peq;exact SeqAt.EqAt.none_tuple p' hu
 | bl a =>
  unfold jja at r;subst r;cases d' with
  | dct k=>unfold jja at r';exact r'.elim
  | obj k l=>unfold jja at r';exact r'.elim
  | non=>unfold jja at r';subst r';unfold peq;exact SeqAt.EqAt.bool_none _
  | bl b=>unfold jja at r';subst r';unfold peq;exact SeqAt.EqAt.bool_bool _ _
  | int b=>unfold jja at r';obtain⟨_,rfl⟩:=r';unfold peq;exact SeqAt.EqAt.bool_int _ _ _
  | str b=>unfold jja at r';obtain⟨_,rfl⟩:=r';unfold peq;exact SeqAt.EqAt.bool_str _ _ _
  | lst b=>unfold jja at r';obtain⟨a',_,rfl,p',_⟩:=r';unfold peq;exact SeqAt.EqAt.bool_list _ p' hu
  | tup b=>unfold jja at r';obtain⟨a',_,rfl,p',_⟩:=r';unfold peq;exact SeqAt.EqAt.bool_tuple _ p' hu
 | int a =>
  unfold jja at r;obtain⟨_,rfl⟩:=r;cases d' with
  | dct k=>unfold jja at r';exact r'.elim
  | obj k l=>unfold jja at r';exact r'.elim
  | non=>unfold jja at r';subst r';unfold peq;exact SeqAt.EqAt.int_none _ _
  | bl b=>unfold jja at r';subst r';unfold peq;exact SeqAt.EqAt.int_bool _ _ _
  | int b=>unfold jja at r';obtain⟨_,rfl⟩:=r';unfold peq;exact SeqAt.EqAt.int_int _ _ _ _
  | str b=>unfold jja at r';obtain⟨_,rfl⟩:=r';unfold peq;exact SeqAt.EqAt.int_str _ _ _ _
  | lst b=>unfold jja at r';obtain⟨a',_,rfl,p',_⟩:=r';unfold peq;exact SeqAt.EqAt.int_list _ _ p' hu
  | tup b=>unfold jja at r';obtain⟨a',_,rfl,p',_⟩:=r';unfold peq;exact SeqAt.EqAt.int_tuple _ _ p' hu
 | str a =>
  unfold jja at r;obtain⟨_,rfl⟩:=r;cases d' with
  | dct k=>unfold jja at r';exact r'.elim
  | obj k l=>unfold jja at r';exact r'.elim
  | non=>unfold jja at r';subst r';unfold peq;exact SeqAt.EqAt.str_none _ _
  | bl b=>unfold jja at r';subst r';unfold peq;exact SeqAt.EqAt.str_bool _ _ _
  | int b=>unfold jja at r';obtain⟨_,rfl⟩:=r';unfold peq;exact SeqAt.EqAt.str_int _ _ _ _
  | str b=>unfold jja at r';obtain⟨_,rfl⟩:=r';unfold peq;exact SeqAt.EqAt.str_str _ _ _ _
  | lst b=>unfold jja at r';obtain⟨a',_,rfl,p',_⟩:=r';unfold peq;exact SeqAt.EqAt.str_list _ _ p' hu
  | tup b=>unfold jja at r';obtain⟨a',_,rfl,p',_⟩:=r';unfold peq;exact SeqAt.EqAt.str_tuple _ _ p' hu
 | lst a =>
  unfold jja at r;obtain⟨a,_,rfl,p,_⟩:=r;cases d' with
  | dct k=>unfold jja at r';exact r'.elim
  | obj k l=>unfold jja at r';exact r'.elim
  | non=>unfold jja at r';subst r';unfold peq;exact SeqAt.EqAt.list_none p hu
  | bl b=>unfold jja at r';subst r';unfold peq;exact SeqAt.EqAt.list_bool _ p hu
  | int b=>unfold jja at r';obtain⟨_,rfl⟩:=r';unfold peq;exact SeqAt.EqAt.list_int _ _ p hu
  | str b=>unfold jja at r';obtain⟨_,rfl⟩:=r';unfold peq;exact SeqAt.EqAt.list_str _ _ p hu
  | lst b =>
   unfold jja at r';obtain⟨a',_,rfl,p',_⟩:=r'
   by_cases e:a=a'
   ·subst e;rw[hid rfl];exact SeqAt.EqAt.same _
   ·exact SeqAt.EqAt.of_refs e rc
  | tup b =>
   unfold jja at r';obtain⟨a',_,rfl,p',_⟩:=r'
   by_cases e:a=a'
   ·subst e;rw[hid rfl];exact SeqAt.EqAt.same _
   ·exact SeqAt.EqAt.of_refs e rc
 | tup a =>
  unfold jja at r;obtain⟨a,_,rfl,p,_⟩:=r;cases d' with
  | dct k=>unfold jja at r';exact r'.elim
  | obj k l=>unfold jja at r';exact r'.elim
  | non=>unfold jja at r';subst r';unfold peq;exact SeqAt.EqAt.tuple_none p hu
  | bl b=>unfold jja at r';subst r';unfold peq;exact SeqAt.EqAt.tuple_bool _ p hu
  | int b=>unfold jja at r';obtain⟨_,rfl⟩:=r';unfold peq;exact SeqAt.EqAt.tuple_int _ _ p hu
  | str b=>unfold jja at r';obtain⟨_,rfl⟩:=r';unfold peq;exact SeqAt.EqAt.tuple_str _ _ p hu
  | lst b =>
   unfold jja at r';obtain⟨a',_,rfl,p',_⟩:=r'
   by_cases e:a=a'
   ·subst e;rw[hid rfl];exact SeqAt.EqAt.same _
   ·exact SeqAt.EqAt.of_refs e rc
  | tup b =>
   unfold jja at r';obtain⟨a',_,rfl,p',_⟩:=r'
   by_cases e:a=a'
   ·subst e;rw[hid rfl];exact SeqAt.EqAt.same _
   ·exact SeqAt.EqAt.of_refs e rc
theorem kq7:∀(n:Nat) {d d':D} {u w:Value} {A:Around},d.flat n=true->jja s.heap d u->jja s.heap d' w->A.units+n<cLine->SeqAt.EqAt A s u w (peq d d')
 | n,d,d',u,w,A,f,r,r',hu=>by
  refine vwh (by omega) r r' (λe=>?_) (vz5 (by omega) r r' λas bs us ws h1 h2 ra rb=>?_)
  rotate_left
  ·cases n with
   | zero=>rcases h1 with rfl | rfl<;>(unfold D.flat at f;cases f)
   | succ n =>
    have fs:D.flats n as=true:=by rcases h1 with rfl | rfl<;>(unfold D.flat at f;exact f)
    exact qvc ra rb λj d d' u w e1 e2 q1 q2=>kq7 n (kk7 fs e1) q1 q2 (by have:=L3.in1_units A;omega)
  ·subst e;rw[kj7 r' r];exact jxe f
end
section
variable {X:Cx}{Z:Fx0}{K:PySem.W.Frag}
def wwo(K:PySem.W.Frag):R2:=λx y H Q=>∃d d' as bs,RepL K H true d x as/\RepL K H true d' y bs/\d.flat 40=true/\d'.flat 40=true/\Q (.bl (peq d d')) H
theorem jqj(hu:X.A.units+64<cLine)(hK:X.K=K:=by rfl):OpR X (compareOp .Eq) (wwo K):=by
 subst hK;intro pins s σ H x y v u Q I rx ry h;obtain⟨d,d',as,bs,h1,h2,f1,f2,q⟩:=h;have c1:=jzg I h1 f1 rx;have c2:=jzg I h2 f2 ry;refine vz5 (by omega) c1 c2 (λas bs us ws e1 e2 ra rb=>qvc ra rb λj d d' u w e3 e4 q1 q2=>?_) _ _ _ _ ⟨.bl _,H,I,rfl,q⟩;have fs:D.flats 39 as=true:=by rcases e1 with rfl | rfl<;>(unfold D.flat at f1;exact f1)
 exact kq7 39 (kk7 fs e3) q1 q2 (by have:=L3.in1_units X.A;omega)
theorem jqk:Ad2 K (wwo K) (pu2 fEq):=by
 intro H x y s Q ox oy hf k;unfold pu2 fEq at hf;dsimp only at hf
 by_cases hc:(x.d.flat 40&&y.d.flat 40)=true
 ·rw[Xf hc]at hf;rw[Bool.and_eq_true]at hc;cases oq9 hf;exact⟨x.d,y.d,x.as,y.as,RepO.wk ox,RepO.wk oy,hc.1,hc.2,k ⟨.dp,.bl _,.bl _,[]⟩ H rfl rfl qj0⟩
 ·rw[Xj hc]at hf;cases hf
end
end Q
noncomputable section
namespace Q
open PySem PySem.Spec PyProof.Rows L2 L3
mutual
def vxd:D->Nat
 | .tup xs=>drwDs xs+1
 | _=>1
def drwDs:List D->Nat
 | []=>0
 | a::x=>vxd a+drwDs x
end
mutual
theorem qja:∀{n:Nat} {d:D},jq5 n d=true->d.flat n=true
 | n,.non,_=>by cases n<;>rfl
 | n,.bl _,h=>by cases n<;>(unfold jq5 at h;cases h)
 | n,.int _,_=>by cases n<;>rfl
 | n,.str _,h=>by cases n<;>(unfold jq5 at h;cases h)
 | 0,.tup _,h=>by unfold jq5 at h;cases h
 | n+1,.tup xs,h=>by unfold jq5 at h;unfold D.flat;exact keys_flat h
 | n,.lst _,h=>by cases n<;>(unfold jq5 at h;cases h)
 | n,.dct _,h=>by cases n<;>(unfold jq5 at h;cases h)
 | n,.obj _ _,h=>by cases n<;>(unfold jq5 at h;cases h)
theorem keys_flat:∀{n:Nat} {ds:List D},keyDs n ds=true->D.flats n ds=true
 | _,[],_=>by unfold D.flats;rfl
 | n,a::x,h=>by
  unfold keyDs at h;rw[Bool.and_eq_true]at h;unfold D.flats;rw[qja h.1,keys_flat h.2];rfl
end
mutual
theorem qw2:∀{n m:Nat} {a b:D},jq5 n a=true->jq5 m b=true->peq a b=decide (a=b)
 | n,m,.non,b,_,hb=>by
  cases b with
  | non=>simp[peq]
  | int _=>simp[peq]
  | tup _=>simp[peq]
  | _=>cases m<;>(unfold jq5 at hb;cases hb)
 | n,m,.int i,b,_,hb=>by
  cases b with
  | non=>simp[peq]
  | int j=>by_cases h:i=j<;>simp[peq,h]
  | tup _=>simp[peq]
  | _=>cases m<;>(unfold jq5 at hb;cases hb)
 | 0,_,.tup _,_,ha,_=>by unfold jq5 at ha;cases ha
 | n+1,m,.tup xs,b,ha,hb=>by
  cases b with
  | non=>simp[peq]
  | int j=>simp[peq]
  | tup ys =>
   cases m with
   | zero=>unfold jq5 at hb;cases hb
   | succ m =>
    unfold jq5 at ha hb;have:=keys_peq ha hb;rw[show peq (.tup xs) (.tup ys)=peqs xs ys by simp[peq],this]
    by_cases h:xs=ys<;>simp[h]
  | _=>cases m<;>(unfold jq5 at hb;cases hb)
 | n,_,.bl _,_,ha,_=>by cases n<;>(unfold jq5 at ha;cases ha)
 | n,_,.str _,_,ha,_=>by cases n<;>(unfold jq5 at ha;cases ha)
 | n,_,.lst _,_,ha,_=>by cases n<;>(unfold jq5 at ha;cases ha)
 | n,_,.dct _,_,ha,_=>by cases n<;>(unfold jq5 at ha;cases ha)
 | n,_,.obj _ _,_,ha,_=>by cases n<;>(unfold jq5 at ha;cases ha)
theorem keys_peq:∀{n m:Nat} {a b:List D},keyDs n a=true->keyDs m b=true->peqs a b=decide (a=b)
 | _,_,[],[],_,_=>by simp[peqs]
 | _,_,[],_::_,_,_=>by simp[peqs]
 | _,_,_::_,[],_,_=>by simp[peqs]
 | n,m,a::x,b::y,ha,hb=>by
  unfold keyDs at ha hb;rw[Bool.and_eq_true]at ha hb;rw[show peqs (a::x) (b::y)=(peq a b&&peqs x y)by simp[peqs],qw2 ha.1 hb.1,keys_peq ha.2 hb.2]
  by_cases h1:a=b<;>by_cases h2:x=y<;>simp[h1,h2]
end
section
variable {prog:Program}{w:PySem.World}{A:Around}{E:Value->Shared->Prop}{s:Shared}
theorem qjd{Q:Int->Shared->Prop}(h:Q 4238894112 { s with toks:=s.toks+1 }):wpAny (model prog w) A (pyHash .none) Q E s:=by
 have ty:s.TypeIs Value.none "NoneType":=rfl;unfold pyHash;unfold pyHashByItsType;refine X1 ?_;rw[cRoomFor,Xj (show ¬([Value.none].any Value.onHeap)=true by decide)];refine X5 (X1 (wpAny_specialOf ty F.slot_NoneType_hash.lookup ?_));show wpAny _ _ (if(some (Value.builtin "NoneType.__hash__")==some Value.none)=true then _ else _) Q E s;rw[Xj (show ¬(some (Value.builtin "NoneType.__hash__")==some Value.none)=true by rw[beq_builtin_none];exact Bool.false_ne_true)];refine X1 (wpAny_specialOf ty F.slot_NoneType_hash.lookup ?_);show wpAny _ _ (callSpecialIfBoundUnlessNone? Value.none "__hash__" _ >>= _) Q E s;refine X1 (wpAny_callSpecialIfBoundUnlessNone?_slot ty F.slot_NoneType_hash (Yf F.slot_NoneType_hash ty F.entry_NoneType_hash ?_ (F.args_NoneType_hash_1 _)));show wpAny _ _ (retInt 4238894112) _ _ s;refine wpAny_ret_mkInt ?_;show wpAny _ _ (if(decide (-(2:Int) ^ 63<=(4238894112:Int))&&decide ((4238894112:Int)<2 ^ 63))=true then _ else _) Q E _;rw[Xf (by decide)];exact X5 h
theorem kk4{d:D}:∀ds:List D,hashDs (ds++[d])=hashDs ds++[kvh d]
 | []=>by simp[hashDs]
 | a::x=>by rw[List.cons_append,hashDs,hashDs,kk4 x];rfl
theorem kq8{d:D}:∀ds:List D,drwDs (ds++[d])=drwDs ds+vxd d
 | []=>by simp[drwDs]
 | a::x=>by rw[List.cons_append,drwDs,drwDs,kq8 x];omega
theorem wkf:∀(n:Nat) {d:D} {u:Value} {A:Around} {s:Shared} {Q:Int->Shared->Prop},jq5 n d=true->jja s.heap d u->A.units+4*n<cLine->Q (kvh d) { s with toks:=s.toks+vxd d }->wpAny (model prog w) A (pyHash u) Q E s:=by
 intro n
 induction n with
 | zero =>
  intro d u A s Q hk hr hu h;cases d with
  | non=>unfold jja at hr;subst hr;exact qjd h
  | int i=>unfold jja at hr;obtain⟨t,rfl⟩:=hr;exact wpAny_pyHash_int h
  | _=>unfold jq5 at hk;cases hk
 | succ n ih =>
  intro d u A s Q hk hr hu h;cases d with
  | non=>unfold jja at hr;subst hr;exact qjd h
  | int i=>unfold jja at hr;obtain⟨t,rfl⟩:=hr;exact wpAny_pyHash_int h
  | tup ds =>
   unfold jq5 at hk;unfold jja at hr;obtain⟨a,us,rfl,ht,hi⟩:=hr;have ty:=ht.typeIs;obtain⟨ob,hob,hcl,nn,hdt⟩:=ht;unfold pyHash;unfold pyHashByItsType;refine X1 (wpAny_cRoomFor_or (.inr (by omega)) ?_);refine X1 (wpAny_specialOf ty F.slot_tuple_hash.lookup ?_);show wpAny _ _ (if(some (Value.builtin "tuple.__hash__")==some Value.none)=true then _ else _) Q E s;rw [Xj (show ¬(some (Value.builtin "tuple.__hash__")==some Value.none)=true by rw[beq_builtin_none];exact Bool.false_ne_true)];refine X1 (wpAny_specialOf ty F.slot_tuple_hash.lookup ?_);show wpAny _ _ (callSpecialIfBoundUnlessNone? (Value.ref a) "__hash__" _ >>= _) Q E s;refine X1 (wpAny_callSpecialIfBoundUnlessNone?_slot ty F.slot_tuple_hash (Yf F.slot_tuple_hash ty F.entry_tuple_hash ?_ (F.args_tuple_hash_1 _)));show wpAny _ _ (Builtin.Tuple.tupleItemsOf (Value.ref a) >>= _) _ _ s;refine X1 (wpAny_tupleItemsOf hob hdt ?_);refine X1 ?_;rw [<-Array.forIn_toList];refine wpAny_forIn_list _ (λjkp (b:Array Int) s'=>∃pre post,ds=pre++post/\keyDs n post=true/\CReps s.heap post jkp/\b.toList=hashDs pre/\s'={ s with toks:=s.toks+drwDs pre }) _ ?_ ?_ _ _ ⟨[],ds,rfl,hk,hi,rfl,rfl⟩
   ·rintro x jkp b s' ⟨pre,post,rfl,hkp,hl,hb,rfl⟩;cases post with
    | nil=>unfold CReps at hl;cases hl
    | cons d post =>
     unfold CReps at hl;obtain⟨u1,r1,e1,h1,h2⟩:=hl;injection e1 with e1 e2;subst e1 e2;unfold keyDs at hkp;rw[Bool.and_eq_true]at hkp;have ru:A.in1.units+4*n<cLine:=by show A.units+1+4*n<cLine;omega
     have fin:∃p q,pre++d::post=p++q/\keyDs n q=true/\CReps s.heap q jkp/\(b.push (kvh d)).toList=hashDs p/\({ s with toks:=s.toks+drwDs pre+vxd d }:Shared)={ s with toks:=s.toks+drwDs p }:=
      ⟨pre++[d],post,by simp,hkp.2,h2,by rw[kk4,<-hb];simp,by rw[kq8,Nat.add_assoc]⟩
     refine X1 (ih hkp.1 h1 ru ?_)
     first
      | exact X5 fin
      | exact X1 (X5 (X5 fin))
   ·rintro b s' ⟨pre,post,rfl,hkp,hl,hb,rfl⟩;have:post=[]:=by
     cases post with
     | nil=>rfl
     | cons d post=>unfold CReps at hl;obtain⟨_,_,z,_⟩:=hl;cases z
    subst this;rw[Xq]at h;show wpAny _ _ (retInt (Builtin.Tuple.tupleHashOf b.toList)) _ _ _;rw[hb];refine wpAny_ret_mkInt ?_;generalize hv:Builtin.Tuple.tupleHashOf (hashDs pre)=v;have h:Q (reduceHash v) { s with toks:=s.toks+drwDs pre+1 }:=by rw[<-hv];unfold kvh vxd at h;rw[Nat.add_assoc];exact h
    show wpAny _ _ (if(decide (-(2:Int) ^ 63<=v)&&decide (v<2 ^ 63))=true then _ else _) Q E _;unfold reduceHash at h
    by_cases hq:(decide (-(2:Int) ^ 63<=v)&&decide (v<2 ^ 63))=true
    ·rw[Xf hq]at h ⊢;exact X5 h
    ·rw[Xj hq]at h ⊢;exact X1 (wpAny_rule (X5 h))
  | _=>unfold jq5 at hk;cases hk
theorem vql:∀(n m:Nat) {d:D} {u:Value} {A:Around} {s:Shared} {Q:Bool->Shared->Prop},n<=m->jq5 n d=true->jja s.heap d u->Q true s->wpAny (model prog w) A (eqIsQuiet m u) Q E s:=by
 have byv:∀(m:Nat) {v:Value} {A:Around} {s:Shared} {Q:Bool->Shared->Prop},carriedByValue v=true->Q true s->wpAny (model prog w) A (eqIsQuiet m v) Q E s:=λm v A s Q hv h=>by
  rw [eqIsQuiet_byValue m hv];exact X5 h
 intro n
 induction n with
 | zero =>
  intro m d u A s Q _ hk hr h;cases d with
  | non=>unfold jja at hr;subst hr;exact byv m rfl h
  | int i=>unfold jja at hr;obtain⟨t,rfl⟩:=hr;exact byv m rfl h
  | _=>unfold jq5 at hk;cases hk
 | succ n ih =>
  intro m d u A s Q hm hk hr h;cases d with
  | non=>unfold jja at hr;subst hr;exact byv m rfl h
  | int i=>unfold jja at hr;obtain⟨t,rfl⟩:=hr;exact byv m rfl h
  | tup ds =>
   unfold jq5 at hk;unfold jja at hr;obtain⟨a,us,rfl,ht,hi⟩:=hr;have ty:=ht.typeIs;obtain⟨ob,hob,hcl,nn,hdt⟩:=ht;cases m with
   | zero=>omega
   | succ m =>
    unfold eqIsQuiet;refine X1 (wpAny_specialOf ty F.slot_tuple_eq.lookup ?_);show wpAny _ _ (isInstance (Value.ref a) (.type "tuple") >>= _) _ _ s;refine X1 (wpAny_isInstance ty isSubtype_tuple_tuple ?_);simp only[Bool.not_true,Bool.false_eq_true,if_false];refine X1 (wpAny_seqItems hob hdt (X1 ?_));show wpAny _ _ (forIn us.toArray _ _) _ _ s;rw[<-Array.forIn_toList];refine wpAny_forIn_list _ (λjkp r s'=>r.1=none/\s'=s/\∃post,keyDs n post=true/\CReps s.heap post jkp) _ ?_ ?_ _ _ ⟨rfl,rfl,ds,hk,hi⟩
    ·rintro v jkp r s' ⟨hr,rfl,post,hkp,hl⟩;cases post with
     | nil=>unfold CReps at hl;cases hl
     | cons d post =>
      unfold CReps at hl;obtain⟨u1,r1,e1,h1,h2⟩:=hl;injection e1 with e1 e2;subst e1 e2;unfold keyDs at hkp;rw[Bool.and_eq_true]at hkp;refine X1 (ih m (by omega) hkp.1 h1 ?_);simp only[Bool.not_true,Bool.false_eq_true,if_false];exact X5 ⟨rfl,rfl,post,hkp.2,h2⟩
    ·rintro ⟨r1,r2⟩ s' ⟨hr,rfl,_⟩;simp only at hr;subst hr;exact X5 h
  | _=>unfold jq5 at hk;cases hk
end
mutual
theorem kqa{h h':Heap}{x:Addr}{o:Obj}{es:Array DictEntry}{ep:Nat}(ho:h.get? x=some o)(hd:o.data=.dict es ep)(hs:Heap.SameBut x h h'):∀{n:Nat} {d:D} {u:Value},jq5 n d=true->jja h d u->jja h' d u
 | _,.non,_,_,r=>by unfold jja at r ⊢;exact r
 | n,.bl _,_,hk,_=>by cases n<;>(unfold jq5 at hk;cases hk)
 | _,.int _,_,_,r=>by unfold jja at r ⊢;exact r
 | n,.str _,_,hk,_=>by cases n<;>(unfold jq5 at hk;cases hk)
 | 0,.tup _,_,hk,_=>by unfold jq5 at hk;cases hk
 | n+1,.tup ds,_,hk,r=>by
  unfold jq5 at hk;unfold jja at r ⊢;obtain⟨a,us,e,⟨ob,hob,hc,nn,hdt⟩,hi⟩:=r;have hne:a≠x:=by
   rintro rfl;rw[ho]at hob;cases hob;rw[hd]at hdt;cases hdt
  exact⟨a,us,e,⟨ob,(hs.2 a hne).trans hob,hc,nn,hdt⟩,creps_keeps ho hd hs hk hi⟩
 | n,.lst _,_,hk,_=>by cases n<;>(unfold jq5 at hk;cases hk)
 | n,.dct _,_,hk,_=>by cases n<;>(unfold jq5 at hk;cases hk)
 | n,.obj _ _,_,hk,_=>by cases n<;>(unfold jq5 at hk;cases hk)
theorem creps_keeps{h h':Heap}{x:Addr}{o:Obj}{es:Array DictEntry}{ep:Nat}(ho:h.get? x=some o)(hd:o.data=.dict es ep)(hs:Heap.SameBut x h h'):∀{n:Nat} {ds:List D} {us:List Value},keyDs n ds=true->CReps h ds us->CReps h' ds us
 | _,[],_,_,r=>by unfold CReps at r ⊢;exact r
 | n,d::ds,_,hk,r=>by
  unfold keyDs at hk;rw[Bool.and_eq_true]at hk;unfold CReps at r ⊢;obtain⟨u,rr,e,h1,h2⟩:=r;exact⟨u,rr,e,kqa ho hd hs hk.1 h1,creps_keeps ho hd hs hk.2 h2⟩
end
def kzf(prog:Program)(w:PySem.World):HeapKind prog w Kd where
 is:=λh k a=>jja h k.1 (.ref a)
 hash:=λk=>kvh k.1
 draws:=λk=>vxd k.1
 room:=λA=>A.units+40<cLine
 inj:=λhx hy=>Subtype.ext (kj7 hx hy)
 keeps:=fun {h h' k a d o es ep} x ho hd hs=>kqa ho hd hs k.2 x
 pyHash:=fun {A E s k a Q} hu hk h=>wkf 6 k.2 hk (Nat.lt_of_le_of_lt (Nat.add_le_add_left (by decide) _) hu) h
 eqBool:=fun {A E s x y a b Q} hu hx hy h=>by
  have e:peq x.1 y.1=decide (x=y):=by
   rw[qw2 x.2 y.2]
   by_cases z:x=y
   ·rw[Xb z,Xb (congrArg Subtype.val z)]
   ·rw[X9 z,X9 λq=>z (Subtype.ext q)]
  have:=kq7 (s:=s) 6 (A:=A) (qja x.2) hx hy (Nat.lt_of_le_of_lt (Nat.add_le_add_left (by decide) _) hu);rw[e]at this;exact this prog w E Q h
 quiet:=fun {A E s k a Q} hk h=>vql 6 8 (by decide) k.2 hk h
abbrev Sl.sd(x:Sl):Sd:=(x.o,x.d)
def tA(Z:Fx0)(q:Bool)(cs:List Ex):TA:=fun σ H Q=>∃E L r,Mt E σ L/\World Z.K H L/\jq4 cs E=some r/\Xc Z σ H L r /\
 ∀E' ys,r=.ok E' ys->∀(xs:List Sl) L' H',xs.map Sl.sd=ys->Mt E' σ L'->World Z.K H' (xs.map some++L')->Step H L H' (xs.map some++L')->(q=true->jqp H H'/\∀b∈jj6 (xs.map some),H b=none)->Q (xs.map Sl.v) H'
def QA(X:Cx)(Z:Fx0)(q:Bool)(cs:List Ex)(es:List Expr):Prop:=PA X es (tA Z q cs)
theorem kwa{X:Cx}{es:List Expr}{t t':TA}(h:PA X es t)(w:∀ σ H Q,t' σ H Q->t σ H Q):PA X es t':=λpos pins s σ H Q I q=>h pos pins s σ H Q I (w σ H Q q)
section
variable {X:Cx}{Z:Fx0}{pn:List Nat}{q:Bool}{c:Ex}{cs:List Ex}{e:Expr}{es:List Expr}{pos:Pos}{σ:L2.St}{H:Hp}{L:Ls}{E:En}
theorem jkk:QA X Z true [] []:=kwa jqe fun σ H Q h_z=>ex8 h_z λE L r m w hc xc k=>by
 cases oq9 hc;exact k _ _ rfl [] L H rfl m w Step.refl λ_=>⟨λ_ _ z=>z,λ_ z=>(nomatch z)⟩
theorem jjg(h:QE X Z q c e)(hs:QA X Z q cs es)(hst:starEach (e::es) X.env=(false,eval e X.env)::starEach es X.env:=by rfl):QA X Z q (c::cs) (e::es):=
 kwa (jko h hs hst) fun σ H Q h_z=>ex8 h_z λE L r m w hc xc k=>by
  refine kqt m w (show bnd (c E) _=some r from hc) xc λE1 s h1 x L1 H1 e1 e2 m1 w1 st sm=>?_
  have s1:Step H L H1 L1:=st.trans Step.drop;rcases jjx h1 with⟨E2,ys,h2,h3⟩| ⟨E2,cc,h2,h3⟩
  ·cases oq9 h3;refine⟨E1,L1,_,m1,w1.tail,h2,(λ_ _ z=>by cases z),λE' ys' z xs L2 H2 e3 m2 w2 st2 sm2=>?_⟩;injection z with z1 z2;subst z1 z2;obtain⟨w3,st3⟩:=wke (T:=[some x]) w1 st2 w2;refine k _ _ rfl (x::xs) L2 H2 (by rw[List.map_cons,e3];simp[Sl.sd,e1,e2]) m2 w3 (st.trans st3) λhq=>?_
   obtain⟨a1,a2⟩:=sm hq;obtain⟨b1,b2⟩:=sm2 hq;refine⟨jj7 a1 b1,λb hb=>?_⟩;rw[List.map_cons,jj3]at hb;rcases List.mem_append.mp hb with z | z
   ·exact a2 b z
   ·exact jk4 a1 (b2 b z)
  ·exact⟨E1,L1,_,m1,w1.tail,h2,(xc.step s1).map h3,λE' s' z=>by cases z⟩
end
section
variable {X:Cx}{Z:Fx0}{q:Bool}{cs:List Ex}{es:List Expr}{pos:Pos}{σ:L2.St}{H:Hp}{L:Ls}{E:En}{α:Type}
theorem jwa:∀{cs:List Ex} {E E':En} {ys:List Sd},jq4 cs E=some (.ok E' ys)->ys.length=cs.length
 | [],E,E',ys,h=>by cases oq9 h;rfl
 | c::cs,E,E',ys,h=>by
  rcases jjx (show bnd (c E) _=some _ from h)with⟨E1,x,h1,h2⟩| ⟨_,_,_,z⟩
  ·rcases jjx h2 with⟨E2,xs,h3,h4⟩| ⟨_,_,_,z⟩
   ·cases oq9 h4;rw[Xd,Xd,jwa h3]
   ·cases z
  ·cases z
theorem vx5{F:En->List Sd->Option (Res α)}{r:Res α}{G:List V->Hp->Prop}(m:Mt E σ L)(w:World Z.K H L)(h:bnd (jq4 cs E) F=some r)(xc:Xc Z σ H L r)
  (k:∀E1 ys,F E1 ys=some r->ys.length=cs.length->∀(xs:List Sl) L1 H1,xs.map Sl.sd=ys->Mt E1 σ L1->World Z.K H1 (xs.map some++L1)->Step H L H1 (xs.map some++L1)->(q=true->jqp H H1/\∀b∈jj6 (xs.map some),H b=none)->G (xs.map Sl.v) H1):tA Z q cs σ H G:=by
 rcases jjx h with⟨E1,s,h1,h2⟩| ⟨E1,c,h1,h2⟩
 ·exact⟨E,L,_,m,w,h1,(λ_ _ z=>by cases z),λE' s' z xs L' H' e1 m' w' st sm=>by
   injection z with z1 z2;subst z1 z2;exact k _ _ h2 (jwa h1) xs L' H' e1 m' w' st sm⟩
 ·exact⟨E,L,_,m,w,h1,xc.map h2,λE' s' z=>by cases z⟩
theorem jwd{K:PySem.W.Frag}{H:Hp}(g:Bool):∀{xs:List Sl},(∀x∈xs,x.ok K H)->(g=false->∀x∈xs,jwe x.sd=true)->∃bs,RepA K H g (xs.map Sl.d) (xs.map Sl.v) bs/\(∀b∈bs,∃x∈xs,b∈x.as)/\(g=false->bs=jj6 (xs.map some))/\(g=true->bs=xs.flatMap Sl.as)
 | [],_,_=>⟨[],by unfold RepA;exact⟨rfl,rfl⟩,λ_ h=>(nomatch h),λ_=>rfl,λ_=>rfl⟩
 | x :: xs,h,ht=>by
  obtain⟨bs,r,hb,ho,hg⟩:=jwd g (xs:=xs) (λy hy=>h y (lc9 _ hy)) λhg y hy=>ht hg y (lc9 _ hy)
  have hx:=h x X4;have key:∃cs,RepL K H g x.d x.v cs/\(∀b∈cs,b∈x.as)/\(g=false->cs=x.own)/\(g=true->cs=x.as):=by
   cases g with
   | true=>exact⟨x.as,RepO.wk hx,λb hb=>hb,(λz=>by cases z),λ_=>rfl⟩
   | false =>
    have t:=ht rfl x X4;unfold jwe at t
    by_cases ho:x.o=.dp
    ·refine⟨x.as,?_,λb hb=>hb,λ_=>?_,λz=>by cases z⟩
     ·have:=hx;unfold Sl.ok at this;rw[ho]at this;exact this
     ·unfold Sl.own;rw[ho]
    ·have hp:x.d.pure=true:=by
      rcases Bool.or_eq_true_iff.mp t with z | z
      ·exact absurd (by simpa using z) ho
      ·exact z
     obtain⟨z,rp⟩:=RepL.pu (g':=false) (RepO.wk hx) hp;exact⟨[],rp,λ_ h=>(nomatch h),λ_=>(vvg z).symm,λz=>by cases z⟩
  obtain⟨cs,r1,h1,h2,h3⟩:=key;refine⟨cs++bs,?_,λb hb'=>?_,λhg'=>?_,λhg'=>?_⟩
  ·rw[List.map_cons,List.map_cons];unfold RepA;exact⟨x.v,xs.map Sl.v,cs,bs,rfl,rfl,r1,r⟩
  ·rcases List.mem_append.mp hb' with z | z
   ·exact⟨x,X4,h1 b z⟩
   ·obtain⟨y,hy,hby⟩:=hb b z;exact⟨y,lc9 _ hy,hby⟩
  ·rw[List.map_cons,jj3,h2 hg',ho hg']
  ·rw[Yu,h3 hg',hg hg']
theorem qzu{K:PySem.W.Frag}{H:Hp}{p:Addr}{xs:List Sl}{L:Ls}(w:World K H (xs.map some++L))(hp:H p=none):
  ∃bs,World K (upd H p (.lst (xs.map Sl.v))) (some ⟨.rt,.lst (xs.map Sl.d),.ref p,p::bs⟩::L)/\Step H (xs.map some++L) (upd H p (.lst (xs.map Sl.v))) (some ⟨.rt,.lst (xs.map Sl.d),.ref p,p::bs⟩::L):=by
 obtain⟨bs,r,hb,_,_⟩:=jwd true (xs:=xs) (λx hx=>w.ok x (ll9 _ (Xg hx))) (λz=>by cases z);have ap:∀b∈bs,b∉jj6 L:=λb hb' hL=>by
  obtain⟨x,hx,hbx⟩:=hb b hb';rcases Sl.as_of hbx with z | z
  ·have nd:=w.nd;rw[jj2,Xe]at nd;exact nd.2.2 b (mem_owned.mpr ⟨x,Xg hx,z⟩) b hL rfl
  ·exact w.ds b (by rw[jj2];exact lr9 _ hL) (by rw[jj5];exact ll9 _ (mem_frozen.mpr ⟨x,Xg hx,z⟩))
 have al:∀b∈bs,H b≠none:=λb hb'=>by
  obtain⟨x,hx,hbx⟩:=hb b hb';exact(w.ok x (ll9 _ (Xg hx))).some hbx
 have sr:Src H (xs.map some++L) bs:=λb hb'=>by
  obtain⟨x,hx,hbx⟩:=hb b hb';rcases Sl.as_of hbx with z | z
  ·exact .inr (.inl (by rw[jj2];exact ll9 _ (mem_owned.mpr ⟨x,Xg hx,z⟩)))
  ·exact .inl (by rw[jj5];exact ll9 _ (mem_frozen.mpr ⟨x,Xg hx,z⟩))
 have o:Out K H (upd H p (.lst (xs.map Sl.v))) ⟨.rt,.lst (xs.map Sl.d),.ref p,p::bs⟩ bs:=jv6 hp r λb hb=>hb
 have st:Step H (xs.map some++L) H L:=⟨λ_ _ h _=>h,λa ha=>.inl (by rw[jj2];exact lr9 _ ha),λa ha=>.inl (by rw[jj5];exact lr9 _ ha)⟩;exact⟨bs,jky (Z:=⟨K,λ_=>none,λ_ _ _=>True⟩) w.right st o ap al sr⟩
theorem qzt{K:PySem.W.Frag}{H:Hp}{p:Addr}{xs:List Sl}{L:Ls}(w:World K H (xs.map some++L))(hp:H p=none):
  ∃bs,World K (upd H p (.tup (xs.map Sl.v))) (some ⟨.no,.tup (xs.map Sl.d),.ref p,bs⟩::L)/\Step H (xs.map some++L) (upd H p (.tup (xs.map Sl.v))) (some ⟨.no,.tup (xs.map Sl.d),.ref p,bs⟩::L):=by
 obtain⟨bs,r,hb,_,_⟩:=jwd true (xs:=xs) (λx hx=>w.ok x (ll9 _ (Xg hx))) (λz=>by cases z);have ap:∀b∈bs,b∉jj6 L:=λb hb' hL=>by
  obtain⟨x,hx,hbx⟩:=hb b hb';rcases Sl.as_of hbx with z | z
  ·have nd:=w.nd;rw[jj2,Xe]at nd;exact nd.2.2 b (mem_owned.mpr ⟨x,Xg hx,z⟩) b hL rfl
  ·exact w.ds b (by rw[jj2];exact lr9 _ hL) (by rw[jj5];exact ll9 _ (mem_frozen.mpr ⟨x,Xg hx,z⟩))
 have al:∀b∈bs,H b≠none:=λb hb'=>by
  obtain⟨x,hx,hbx⟩:=hb b hb';exact(w.ok x (ll9 _ (Xg hx))).some hbx
 have sr:Src H (xs.map some++L) bs:=λb hb'=>by
  obtain⟨x,hx,hbx⟩:=hb b hb';rcases Sl.as_of hbx with z | z
  ·exact .inr (.inl (by rw[jj2];exact ll9 _ (mem_owned.mpr ⟨x,Xg hx,z⟩)))
  ·exact .inl (by rw[jj5];exact ll9 _ (mem_frozen.mpr ⟨x,Xg hx,z⟩))
 have o:Out K H (upd H p (.tup (xs.map Sl.v))) ⟨.no,.tup (xs.map Sl.d),.ref p,bs⟩ bs:=jz9 hp r λb hb=>hb
 have st:Step H (xs.map some++L) H L:=⟨λ_ _ h _=>h,λa ha=>.inl (by rw[jj2];exact lr9 _ ha),λa ha=>.inl (by rw[jj5];exact lr9 _ ha)⟩;exact⟨bs,jky (Z:=⟨K,λ_=>none,λ_ _ _=>True⟩) w.right st o ap al sr⟩
theorem qvo{K:PySem.W.Frag}{H H':Hp}{xs:List Sl}{L:Ls}{d:D}{v:V}{ps:List Addr}(w:World K H (xs.map some++L))(ht:∀x∈xs,jwe x.sd=true)(hp:∀b∈ps,H b=none)(nd:ps.Nodup)(sm:jqp H H')
  (rep:∀bs,RepA K H false (xs.map Sl.d) (xs.map Sl.v) bs->RepL K H' false d v (ps++bs)):
  World K H' (some ⟨.dp,d,v,ps++jj6 (xs.map some)⟩::L)/\Step H (xs.map some++L) H' (some ⟨.dp,d,v,ps++jj6 (xs.map some)⟩::L):=by
 obtain⟨bs,r,hb,ho,_⟩:=jwd false (xs:=xs) (λx hx=>w.ok x (ll9 _ (Xg hx))) (λ_=>ht);have e:=ho rfl;subst e;have w2:World K H' (xs.map some++L):=⟨λx hx=>RepO.kp (w.ok x hx) (Kp.of_same sm),w.nd,w.ds⟩;have ndx:=w.nd;rw[jj2,Xe]at ndx;have al:∀b∈jj6 (xs.map some),H b≠none:=λb hb=>w.own_some (by rw[jj2];exact ll9 _ hb)
 refine⟨w2.right.cons (x:=⟨.dp,d,v,ps++jj6 (xs.map some)⟩) (rep _ r) ?_ (λa ha hL=>?_) (λa ha hf=>?_) (λa ha=>(nomatch ha)) (λa ha=>λz=>(nomatch z)),⟨λa ob h _=>sm a ob h,λa ha=>?_,λa ha=>?_⟩⟩
 ·show(ps++jj6 (xs.map some)).Nodup;rw[Xe];exact⟨nd,ndx.1,λa ha b hb e=>by subst e;exact al a hb (hp a ha)⟩
 ·rcases List.mem_append.mp (show a∈ps++jj6 (xs.map some)from ha)with z | z
  ·exact w.own_some (by rw[jj2];exact lr9 _ hL) (hp a z)
  ·exact ndx.2.2 a z a hL rfl
 ·rcases List.mem_append.mp (show a∈ps++jj6 (xs.map some)from ha)with z | z
  ·exact w.frz_some (by rw[jj5];exact lr9 _ hf) (hp a z)
  ·exact w.ds a (by rw[jj2];exact ll9 _ z) (by rw[jj5];exact lr9 _ hf)
 ·rw[jj3]at ha;rcases List.mem_append.mp ha with z | z
  ·rcases List.mem_append.mp (show a∈ps++jj6 (xs.map some)from z)with y | y
   ·exact .inr (hp a y)
   ·exact .inl (by rw[jj2];exact ll9 _ y)
  ·exact .inl (by rw[jj2];exact lr9 _ z)
 ·rw[jj8]at ha;exact .inl (by rw[jj5];exact lr9 _ ha)
theorem wqa{xs:List Sl}{ys:List Sd}(h:xs.map Sl.sd=ys):xs.map Sl.d=ys.map (·.2):=by rw[<-h,Y6];rfl
theorem kzn{xs:List Sl}{ys:List Sd}(h:xs.map Sl.sd=ys)(ht:ys.all jwe=true):∀x∈xs,jwe x.sd=true:=λx hx=>by
 rw[<-h,List.all_map,Yw]at ht;exact ht x hx
theorem qj6{o:Own}{xs:List Sl}{ys:List Sd}{E':En}{r:Res Sd}{L':Ls}{H1:Hp}{Q:VK}{Hq:Hp}{Lq:Ls}(h:mkL o E' ys=some r)(e:xs.map Sl.sd=ys)(w:World Z.K H1 (xs.map some++L'))(st:Step Hq Lq H1 (xs.map some++L'))(sm:q=true->jqp Hq H1/\∀b∈jj6 (xs.map some),Hq b=none)
  (k:∀E'' a,r=.ok E'' a->∀(x:Sl) L'' H',x.o=a.1->x.d=a.2->Mt E'' σ L''->World Z.K H' (some x::L'')->Step Hq Lq H' (some x::L'')->(q=true->jqp Hq H'/\∀b∈x.own,Hq b=none)->Q x.v H') (m:Mt E' σ L'):
  ∀ p,H1 p=none->Q (.ref p) (upd H1 p (.lst (xs.map Sl.v))):=by
 intro p hp;unfold mkL at h
 by_cases ho:o=.dp
 ·rw[Xf ho]at h
  by_cases ht:ys.all jwe=true
  ·rw[Xf ht]at h;cases oq9 h;obtain⟨w2,s2⟩:=qvo (d:=.lst (xs.map Sl.d)) (v:=.ref p) (ps:=[p]) w (kzn e ht) (λb hb=>by rw[List.mem_singleton.mp hb];exact hp) (by simp) (jjp (o:=.lst (xs.map Sl.v)) hp) (λbs r=>by
    unfold RepL;exact⟨p,_,bs,rfl,r.kp (Kp.of_same (jjp hp)),.inl ⟨jjy,rfl⟩⟩)
   refine k _ _ rfl ⟨.dp,.lst (xs.map Sl.d),.ref p,_⟩ L' _ rfl (by rw[wqa e]) m w2 (st.trans s2) λhq=>⟨jj7 (sm hq).1 (jjp hp),λb hb=>?_⟩
   rcases List.mem_append.mp (show b∈[p]++jj6 (xs.map some)from hb)with z | z
   ·rw[List.mem_singleton.mp z];exact jk4 (sm hq).1 hp
   ·exact(sm hq).2 b z
  ·rw[Xj ht]at h;cases h
 ·rw[Xj ho]at h;cases oq9 h;obtain⟨bs,w2,s2⟩:=qzu w hp;refine k _ _ rfl ⟨.rt,.lst (xs.map Sl.d),.ref p,p::bs⟩ L' _ rfl (by rw[wqa e]) m w2 (st.trans s2) λhq=>⟨jj7 (sm hq).1 (jjp hp),λb hb=>?_⟩
  have:b=p:=by simpa [Sl.own]using hb
  rw[this];exact jk4 (sm hq).1 hp
theorem vxt{xs:List Sl}{ys:List Sd}{n:Nat}(h:xs.map Sl.sd=ys)(hl:ys.length=n)(hz:n<=1000):(xs.map Sl.v).length<=sizeLine:=by
 have:xs.length=n:=by rw[<-hl,<-h,X3]
 rw[X3,this];exact Y2 hz (by decide)
theorem jw2{o:Own}(h:QA X Z q cs es)(hz:cs.length<=1000:=by decide):QE X Z q (jv0 o cs) (.List es pos):=jki (wj3 h) fun σ H Q h_z=>ex8 h_z λE L r m w hc xc k =>
 vx5 m w (show bnd (jq4 cs E) _=some r from hc) xc λE1 ys h1 hl xs L1 H1 e1 m1 w1 st sm=>⟨vxt e1 hl hz,qj6 (o:=o) (E':=E1) (ys:=ys) (by unfold mkL;exact h1) e1 w1 st sm k m1⟩
theorem jvk{o:Own}{x1}(h:QA X Z q cs es)(hz:cs.length<=1000:=by decide):QE X Z q (jvh o cs) (.Tuple es x1 pos):=jki (wj0 h) fun σ H Q h_z=>ex8 h_z λE L r m w hc xc k =>
 vx5 m w (show bnd (jq4 cs E) _=some r from hc) xc λE1 ys h1 hl xs L1 H1 e1 m1 w1 st sm=>⟨vxt e1 hl hz,λp hp=>by
  by_cases ho:o=.dp
  ·rw[Xf ho]at h1
   by_cases ht:ys.all jwe=true
   ·rw[Xf ht]at h1;cases oq9 h1;obtain⟨w2,s2⟩:=qvo (d:=.tup (xs.map Sl.d)) (v:=.ref p) (ps:=[]) w1 (kzn e1 ht) (λb hb=>(nomatch hb)) (by simp) (jjp (o:=.tup (xs.map Sl.v)) hp) (λbs r=>by
     unfold RepL;exact⟨p,_,rfl,SqT.of jjy,r.kp (Kp.of_same (jjp hp))⟩)
    exact k _ _ rfl ⟨.dp,.tup (xs.map Sl.d),.ref p,_⟩ L1 _ rfl (by rw[wqa e1]) m1 w2 (st.trans s2) λhq=>⟨jj7 (sm hq).1 (jjp hp),λb hb=>(sm hq).2 b hb⟩
   ·rw[Xj ht]at h1;cases h1
  ·rw[Xj ho]at h1;cases oq9 h1;obtain⟨bs,w2,s2⟩:=qzt w1 hp;exact k _ _ rfl ⟨.no,.tup (xs.map Sl.d),.ref p,bs⟩ L1 _ rfl (by rw[wqa e1]) m1 w2 (st.trans s2) λhq=>⟨jj7 (sm hq).1 (jjp hp),λb hb=>(nomatch hb)⟩⟩
end
def spF(K:PySem.W.Frag)(mg:Str->Option Value)(n:Nat)(f:Fn):Sp:=λvs H Q E=>∃(xs:List Sl) (r:Res Sd),vs=xs.map Sl.v/\xs.length=n/\World K H (xs.map some)/\f (xs.map Sl.sd)=some r /\
 (∀E' c,r=.exc E' c->∀C H',mg c=some (.ref C)->Step H (xs.map some) H' []->E (.ref C) none H') /\
 ∀E' a,r=.ok E' a->∀(x:Sl) H',x.o=a.1->x.d=a.2->World K H' [some x]->Step H (xs.map some) H' [some x]->Q x.v H'
theorem jjr{K:PySem.W.Frag}{mg:Str->Option Value}{n:Nat}{f:Fn}{ps:List Str}(hn:ps.length=n):∀vs H Q E,spF K mg n f vs H Q E->vs.length=ps.length:=λvs H Q E ⟨xs,r,e,hl,_⟩=>by rw[e,X3,hl,hn]
theorem kj5:∀(xs:List Sl) (k:Nat),Mt (xs.map (λx=>some x.sd)++List.replicate k none) (xs.map (λx=>some x.v)++List.replicate k none) (xs.map some++List.replicate k none)
 | [],0=>.nil
 | [],k+1=>by
  rw[List.map_nil,List.map_nil,List.map_nil,List.replicate_succ,List.replicate_succ,List.replicate_succ];exact .un (kj5 [] k)
 | x::xs,k=>.cons (x:=x) (kj5 xs k)
theorem jkc{X:Cx}{K:PySem.W.Frag}{mg:Str->Option Value}{N:List Str}{n nn:Nat}{B:Sm}{body:List Stmt}{H:Hp}{vs:List V}{Q:VK}{E:XK}(hN:N.length=nn)(t:QSs X ⟨K,mg,E⟩ [] B body)(h:spF K mg n (fn nn B) vs H Q E):
  ∃t,PSs X body t/\t { nx:=λ_ H'=>Q .non H',rt:=Q } (L2.start N vs) H:=by
 refine⟨_,t,?_⟩;obtain⟨xs,r,rfl,hl,w,hf,hx,hk⟩:=h;unfold fn at hf;rw[X3,Y6]at hf;have m:=kj5 xs (nn - xs.length);have e1:L2.start N (xs.map Sl.v)=xs.map (λx=>some x.v)++List.replicate (nn - xs.length) none:=by
  unfold L2.start;rw[Y6,X3,hN];rfl
 have wL:World K H (xs.map some++List.replicate (nn - xs.length) none):=w.same (by simp);have sL:Step H (xs.map some) H (xs.map some++List.replicate (nn - xs.length) none):=Step.refl.same (List.Perm.refl _) (by simp);cases hB:B (xs.map (λx=>some x.sd)++List.replicate (nn - xs.length) none)with
 | none=>rw[show(some∘Sl.sd)=(λx:Sl=>some x.sd)from rfl,hB]at hf;cases hf
 | some g =>
  rw[show(some∘Sl.sd)=(λx:Sl=>some x.sd)from rfl,hB]at hf;refine⟨_,_,g,e1▸m,wL,hB,?_⟩;cases g with
  | nx E1 =>
   cases oq9 hf;intro σ' L' H' _ m' w' s';exact hk _ _ rfl ⟨.dp,.non,.non,[]⟩ H' rfl rfl (World.consPu (x:=⟨.dp,.non,.non,[]⟩) (L:=[]) ⟨λ_ z=>(nomatch z),Xv,λ_ z=>(nomatch z)⟩ (show RepL K H' false .non .non []from kxh) rfl) (jx5 (x:=⟨.dp,.non,.non,[]⟩) ((sL.trans s').sub (by simp)) (λb hb=>(nomatch hb)) rfl)
  | rt E1 a =>
   cases oq9 hf;intro x σ' L' H' e2 e3 _ m' w' s';exact hk _ _ rfl x H' e2 e3 (w'.sub (by simp)) ((sL.trans s').sub (by simp))
  | xc E1 c =>
   cases oq9 hf;intro C σ' L' H' hm _ m' w' s';exact hx _ _ rfl C H' hm ((sL.trans s').sub (by simp))
  | ct E1=>cases hf
  | bk E1=>cases hf
section
variable {X:Cx}{Z:Fx0}{q:Bool}{cs:List Ex}{e:Expr}{es:List Expr}{pos p:Pos}{x:Str}{ps:List Str}{k n:Nat}{f:Fn}
theorem jqb:∀xs:List Sl,jj6 ((xs.map Sl.let).map some)=[]
 | []=>rfl
 | x::xs=>by rw[List.map_cons,List.map_cons,jj3,jqb xs];rfl
theorem jwx:∀xs:List Sl,jjd ((xs.map Sl.let).map some)=xs.flatMap Sl.as
 | []=>rfl
 | x::xs=>by rw[List.map_cons,List.map_cons,jj8,jwx xs,Yu];rfl
theorem kxu(xs:List Sl):(xs.map Sl.let).map Sl.sd=letAll (xs.map Sl.sd):=by
 unfold letAll;rw[Y6,Y6];rfl
theorem jxu{K:PySem.W.Frag}{H:Hp}{xs:List Sl}{L:Ls}(w:World K H (xs.map some++L)):World K H ((xs.map Sl.let).map some++L)/\Step H (xs.map some++L) H ((xs.map Sl.let).map some++L):=by
 have nd:=w.nd;rw[jj2,Xe]at nd;have cl:∀a∈xs.flatMap Sl.as,a∈jj6 (xs.map some)\/a∈jjd (xs.map some):=λa ha=>by
  obtain⟨x,hx,hax⟩:=List.mem_flatMap.mp ha;exact(Sl.as_of hax).imp (λz=>mem_owned.mpr ⟨x,Xg hx,z⟩) λz=>mem_frozen.mpr ⟨x,Xg hx,z⟩
 refine⟨⟨λx hx=>?_,by rw[jj2,jqb];exact nd.2.1,λa ha hf=>?_⟩,λ_ _ h _=>h,λa ha=>?_,λa ha=>?_⟩
 ·rcases List.mem_append.mp hx with hx | hx
  ·obtain⟨y,hy,e⟩:=List.mem_map.mp hx;cases e;obtain⟨z,hz,rfl⟩:=List.mem_map.mp hy;exact jwj (w.ok z (ll9 _ (Xg hz)))
  ·exact w.ok x (lr9 _ hx)
 ·rw[jj2,jqb]at ha;rw[jj5,jwx]at hf;rcases List.mem_append.mp hf with z | z
  ·rcases cl a z with z | z
   ·exact nd.2.2 a z a ha rfl
   ·exact w.ds a (by rw[jj2];exact lr9 _ ha) (by rw[jj5];exact ll9 _ z)
  ·exact w.ds a (by rw[jj2];exact lr9 _ ha) (by rw[jj5];exact lr9 _ z)
 ·rw[jj2,jqb]at ha;exact .inl (by rw[jj2];exact lr9 _ ha)
 ·rw[jj5,jwx]at ha;rw[jj5,jj2];rcases List.mem_append.mp ha with z | z
  ·rcases cl a z with z | z
   ·exact .inr (.inl (ll9 _ z))
   ·exact .inl (ll9 _ z)
  ·exact .inl (lr9 _ z)
theorem vzn(D:jwh X.prog X.w X.K X.mg X.base k x ps (spF Z.K Z.mg n f))(hr:Room k X.A)(g:qkr X Z.EX)(ha:QA X Z q cs (e::es))(hn:cs.length=n:=by rfl)(hg:Gl X x:=by rfl)(hdb:(x==("__debug__":Str))=false:=by decide)
  (he:starEach (e::es) X.env=(false,eval e X.env)::starEach es X.env:=by rfl) (hpl:(backTo pos (starEach es X.env)).any (·.1)=false:=by rfl):
  QE X Z q (jjj f cs) (.Call (.Name x p) (e::es) [] pos):=jki (vk1 D hr g ha hg hdb he hpl) fun σ H Q h_z=>ex8 h_z λE L r m w hc xc kk =>
 vx5 m w (show bnd (jq4 cs E) _=some r from hc) xc λE1 ys h1 hl xs L1 H1 e1 m1 w1 st sm=>by
  rw [Xq];have hlen:xs.length=n:=by rw[<-hn,<-hl,<-e1,X3]
  cases hf:f (letAll ys)with
  | none=>rw[hf]at h1;cases h1
  | some fr =>
   rw[hf]at h1;obtain⟨wl,sl⟩:=jxu w1;have ev:xs.map Sl.v=(xs.map Sl.let).map Sl.v:=by rw[Y6];rfl
   rw[ev];refine⟨xs.map Sl.let,fr,rfl,by rw[X3];exact hlen,wl.left,by rw[<-e1]at hf;rw[kxu];exact hf,λE' c ee C H' hm s'=>?_,λE' a ee y H' e2 e3 w' s'=>?_⟩
   ·subst ee;cases oq9 h1;obtain⟨w2,s2⟩:=stay wl s' ⟨λ_ z=>(nomatch z),Xv,λ_ z=>(nomatch z)⟩;exact xc _ _ rfl C L1 H' hm m1 w2 ((st.trans sl).trans s2)
   ·subst ee;cases oq9 h1;obtain⟨w2,s2⟩:=stay wl s' w';refine kk _ _ rfl y L1 H' e2 e3 m1 w2 ((st.trans sl).trans s2) λhq=>?_
    obtain⟨a1,a2⟩:=sm hq;refine⟨λb ob hb=>s'.keep b ob (a1 b ob hb) λz=>?_,λb hb=>?_⟩
    ·rw[jqb]at z;exact nomatch z
    ·rcases s'.own b (by rw[jj3];exact ll9 _ hb)with z | z
     ·rw[jqb]at z;exact nomatch z
     ·exact jk4 a1 z
end
def vz8(K:PySem.W.Frag):R2:=λx y H Q=>∃l k xs,x=.ref l/\y=.int k/\LsR K H l xs/\-(2 ^ 63)<=k/\k<2 ^ 63/\xs.length*k.toNat<=sizeLine /\
 ∀p,H p=none->Q (.ref p) (upd H p (.lst (List.replicate k.toNat xs).flatten))
theorem op_repR{X:Cx}:OpR X (binaryOp .Mult) (vz8 X.K):=by
 intro pins s σ H x y v u Q I rx ry h;obtain⟨l,k,xs,rfl,rfl,hH,h1,h2,hz,q⟩:=h;cases rx;obtain⟨t,rfl⟩:=ry;obtain⟨z,its,n,r,e⟩:=hH.is I;have hl:=r.length;have hlen:its.toArray.size*k.toNat<=sizeLine:=by rw[Xa,<-hl];exact hz
 have hcap:¬its.toArray.size*k.toNat>(2 ^ 63 - 1) / 8:=by
  have:(sizeLine:Nat)<=(2 ^ 63 - 1) / 8:=by decide
  omega
 have hfit:¬(!Builtin.List.listFitsIndex k)=true:=by
  rw[fitsIndex_both h1 h2];exact Bool.false_ne_true
 have hlong:¬Builtin.List.listTooLong (its.toArray.size*k.toNat)=true:=by
  rw[qzs hlen];exact Bool.false_ne_true
 have hnew:List.foldl (λx1 x2=>x1++x2) #[] (List.replicate (if its.toArray.isEmpty=true then 0 else k.toNat) its.toArray)=(List.replicate k.toNat its).flatten.toArray:=by
  have f0:∀m:Nat,List.foldl (λx1 x2=>x1++x2) #[] (List.replicate m its.toArray)=(List.replicate m its).flatten.toArray:=λm=>by
   have:=kk6 its m [];rw[List.nil_append]at this;exact this
  rw[f0];cases its with
  | nil=>simp
  | cons a r'=>rw[Xj (by simp)]
 refine wpAny_binaryOp_repeat_ref (T:="list") (U:="int") (by decide) ⟨_,e,rfl⟩ (λs'=>typeIs_int s' k t) noFill_list_mul F.fills_int_mul F.slot_int_rmul repeat_list F.slot_int_index.lookup
  (call_meets F.slot_int_rmul (typeIs_int s k t) F.entry_int_rmul (F.args_int_rmul_2 _ _) (int___rmul___int_list k t l its.toArray n)
   ⟨e,rfl,⟨_,e,rfl⟩,call_meets F.slot_list_mul ⟨_,e,rfl⟩ F.entry_list_mul (F.args_list_mul_2 _ _) (AutoListH.list___mul___list_int_3 l its.toArray n k t hfit hcap hlong) ⟨e,?_⟩⟩)
 rw[hnew];exact⟨.ref _,_,I.lnew (t':=s.toks) (r.rep k.toNat) (by rw[qvq,Nat.mul_comm];exact hz),rfl,q _ I.fresh⟩
def vqk(K:PySem.W.Frag):R2:=λx y H Q=>rI IntMulOk (λi j=>.int (i*j)) x y H Q\/vz8 K x y H Q\/vz7 x y H Q
theorem wjh{X:Cx}{K:PySem.W.Frag}(hK:X.K=K:=by rfl):OpR X (binaryOp .Mult) (vqk K):=by subst hK;exact op_mulI.or (op_repR.or vvi)
theorem qj7{a:Int}(h:a.natAbs.log2<2000000):Builtin.Int.intBits a<=2000000:=by
 unfold Builtin.Int.intBits
 split
 ·exact Y4 _
 ·omega
theorem mulOk_of{a b:Int}(h:kva a b=true):IntMulOk a b:=by
 unfold kva qqf at h;simp only[Bool.or_eq_true,Bool.and_eq_true,decide_eq_true_eq]at h;rcases h with(h | h)| h
 ·exact .of_left (intBits_le_64 h.1 h.2)
 ·exact .of_right (intBits_le_64 h.1 h.2)
 ·have h1:=qj7 h.1;have h2:=qj7 h.2;unfold IntMulOk Builtin.Int.intTooBig;have e:(2:Nat) ^ 27=134217728:=by decide
  have hb:bitsLine=134217728:=e;simp only[Bool.and_eq_true,decide_eq_true_eq,not_and];intro _ _;omega
theorem RepA.reps{K:PySem.W.Frag}{H:Hp}{ds:List D}{xs:List V}{bs:List Addr}(h:RepA K H true ds xs bs):∀k:Nat,∃cs,RepA K H true (List.replicate k ds).flatten (List.replicate k xs).flatten cs/\∀b∈cs,b∈bs
 | 0=>⟨[],by simp only[List.replicate_zero,List.flatten_nil];unfold RepA;exact⟨rfl,rfl⟩,λ_ z=>(nomatch z)⟩
 | k+1=>by
  obtain⟨cs,r,hc⟩:=RepA.reps h k;rw[List.replicate_succ,List.replicate_succ,Yl,Yl];exact⟨bs++cs,r.app h,λb hb=>(List.mem_append.mp hb).elim id (hc b)⟩
theorem vkw{K:PySem.W.Frag}:Ad2 K (vqk K) qwt:=by
 intro H x y s Q ox oy hf k;unfold qwt at hf;dsimp only at hf
 split at hf
 ·rename_i i j e1 e2
  split at hf
  ·rename_i hm;cases oq9 hf;exact .inl ⟨i,j,jku ox e1,jku oy e2,mulOk_of hm,k ⟨.dp,.int _,.int _,[]⟩ H rfl rfl vk2⟩
  ·cases hf
 ·rename_i a n e1 e2
  split at hf
  ·rename_i hc;cases oq9 hf;obtain⟨l,xs,bs,e3,q3,r3,h3⟩:=jjs ox (.inl e1) hc.2.2.2;have q3:LsR K H l xs:=by rcases q3 with⟨_,z⟩| ⟨z,_⟩;exact z;rw[e1]at z;cases z
   obtain⟨cs,r4,h4⟩:=r3.reps n.toNat;refine .inr (.inl ⟨l,n,xs,e3,jku oy e2,q3,hc.1,hc.2.1,by rw[<-r3.len];exact hc.2.2.1,λp hp=>?_⟩);exact k ⟨.rt,.lst _,.ref p,p::cs⟩ _ rfl rfl (jv6 hp r4 λb hb=>ll9 _ (h3 b (h4 b hb)))
  ·cases hf
 ·rename_i z n e1 e2
  split at hf
  ·rename_i hc;cases oq9 hf;exact .inr (.inr ⟨z,n,(jqw ox e1).1,jku oy e2,hc.1,k ⟨.dp,.str _,.str _,[]⟩ H rfl rfl (wvk hc.2)⟩)
  ·cases hf
 ·cases hf
def dec(h:Heap)(u:Value):D:=open Classical in if e:∃d,jja h d u then e.choose else .non
theorem kwz{h:Heap}{u:Value}{d:D}(r:jja h d u):dec h u=d:=by
 unfold dec;have e:∃d,jja h d u:=⟨d,r⟩;rw[dif_pos e];exact kj7 e.choose_spec r
theorem kke{h:Heap}{d:D}:∀{ds:List D} {us:List Value},CReps h ds us->us.any (λu=>peq (dec h u) d)=ds.any λz=>peq z d
 | [],_,r=>by unfold CReps at r;rw[r];rfl
 | z::ds,_,r=>by
  unfold CReps at r;obtain⟨u,rr,rfl,h1,h2⟩:=r;rw[List.any_cons,List.any_cons,kwz h1,kke h2]
theorem kj6{h:Heap}:∀{ds:List D} {us:List Value} {u:Value},CReps h ds us->u∈us->∃d∈ds,jja h d u
 | [],_,_,r,hu=>by unfold CReps at r;rw[r]at hu;cases hu
 | z::ds,_,u,r,hu=>by
  unfold CReps at r;obtain⟨u',rr,rfl,h1,h2⟩:=r;rcases List.mem_cons.mp hu with rfl | hu
  ·exact⟨z,X4,h1⟩
  ·obtain⟨d,hd,c⟩:=kj6 h2 hu;exact⟨d,lc9 _ hd,c⟩
theorem jxi:∀{n:Nat} {ds:List D} {d:D},D.flats n ds=true->d∈ds->d.flat n=true
 | _,[],_,_,h=>by cases h
 | n,z::ds,d,f,h=>by
  unfold D.flats at f;rw[Bool.and_eq_true]at f;rcases List.mem_cons.mp h with rfl | h
  ·exact f.1
  ·exact jxi f.2 h
section
variable {X:Cx}{Z:Fx0}{K:PySem.W.Frag}{q qa qb:Bool}{a b c:Ex}{u v:Ts}{e ea eb:Expr}{es:List Expr}{pos p:Pos}{σ:L2.St}{H:Hp}{L:Ls}{E:En}
def qqr(K:PySem.W.Frag)(neg:Bool):R2:=λx y H Q=>∃d ds as bs p xs,RepL K H true d x as/\y=.ref p/\(SqL K H p xs\/SqT K H p xs)/\RepA K H true ds xs bs/\d.flat 30=true/\D.flats 30 ds=true/\Q (.bl (if neg then !(ds.any λz=>peq z d)else ds.any λz=>peq z d)) H
theorem vvk(hu:X.A.units+64<cLine):OpR X (compareOp .In) (qqr X.K false):=by
 intro pins s σ H x y v u Q I rx ry h;obtain⟨d,ds,as,bs,p,xs,h1,rfl,hq,ra,f1,f2,q⟩:=h;cases ry;have c1:=jzg I h1 f1 rx;have he:∀{us:List Value},CReps s.heap ds us->∀w,w∈us.toArray->SeqAt.EqAt X.A.in1 s w v (peq (dec s.heap w) d):=fun {us} cr w hw=>by
  obtain⟨d',hd,c⟩:=kj6 cr (by simpa using hw);rw[kwz c];exact kq7 30 (jxi f2 hd) c c1 (by have:=L3.in1_units X.A;omega)
 rcases hq with hq | hq
 ·obtain⟨its,r,pl,hz⟩:=I.list hq;have cr:=creps_of I ra f2 r;refine SeqAt.in_listAt _ pl.isList (he cr) ⟨.bl _,H,I,rfl,?_⟩;rw[List.any_toArray,kke cr];exact q
 ·obtain⟨its,r,pl,hz⟩:=I.tuple hq;have cr:=creps_of I ra f2 r;refine SeqAt.in_tupleAt _ pl (he cr) ⟨.bl _,H,I,rfl,?_⟩;rw[List.any_toArray,kke cr];exact q
theorem qka(hu:X.A.units+64<cLine):OpR X (compareOp .NotIn) (qqr X.K true):=by
 intro pins s σ H x y v u Q I rx ry h;obtain⟨d,ds,as,bs,p,xs,h1,rfl,hq,ra,f1,f2,q⟩:=h;cases ry;have c1:=jzg I h1 f1 rx;have he:∀{us:List Value},CReps s.heap ds us->∀w,w∈us.toArray->SeqAt.EqAt X.A.in1 s w v (peq (dec s.heap w) d):=fun {us} cr w hw=>by
  obtain⟨d',hd,c⟩:=kj6 cr (by simpa using hw);rw[kwz c];exact kq7 30 (jxi f2 hd) c c1 (by have:=L3.in1_units X.A;omega)
 rcases hq with hq | hq
 ·obtain⟨its,r,pl,hz⟩:=I.list hq;have cr:=creps_of I ra f2 r;refine SeqAt.notIn_listAt _ pl.isList (he cr) ⟨.bl _,H,I,rfl,?_⟩;rw[List.any_toArray,kke cr];exact q
 ·obtain⟨its,r,pl,hz⟩:=I.tuple hq;have cr:=creps_of I ra f2 r;refine SeqAt.notIn_tupleAt _ pl (he cr) ⟨.bl _,H,I,rfl,?_⟩;rw[List.any_toArray,kke cr];exact q
def qqq(neg:Bool):R2:=λx y H Q=>∃i j,x=.str i/\y=.str j/\Q (.bl (if neg then !ww2 i j else ww2 i j)) H
theorem opInStr:OpR X (compareOp .In) (qqq false):=λpins s σ H x y v u Q I rx ry ⟨i,j,e1,e2,q⟩=>qvf pins s σ H x y v u Q I rx ry ⟨i,j,e1,e2,q⟩
theorem opNotInStr:OpR X (compareOp .NotIn) (qqq true):=λpins s σ H x y v u Q I rx ry ⟨i,j,e1,e2,q⟩=>kwc pins s σ H x y v u Q I rx ry ⟨i,j,e1,e2,q⟩
def vzb(K:PySem.W.Frag)(neg:Bool):R2:=λx y H Q=>qqq neg x y H Q\/qqr K neg x y H Q
theorem vvl(hu:X.A.units+64<cLine)(hK:X.K=K:=by rfl):OpR X (compareOp .In) (vzb K false):=by subst hK;exact opInStr.or (vvk hu)
theorem kqz(hu:X.A.units+64<cLine)(hK:X.K=K:=by rfl):OpR X (compareOp .NotIn) (vzb K true):=by subst hK;exact opNotInStr.or (qka hu)
theorem kjl{H:Hp}{l:Addr}{xs:List V}(h:LsR K H l xs):SqL K H l xs:=h.sq
theorem kvg{x y:Sl}{ys:List D}{neg:Bool}{Q:VK}(ox:x.ok K H)(oy:y.ok K H)(hy:y.d=.lst ys\/y.d=.tup ys)(hc:(x.d.flat 30&&D.flats 30 ys)=true)
  (k:Q (.bl (if neg then !(ys.any λz=>peq z x.d)else ys.any λz=>peq z x.d)) H):vzb K neg x.v y.v H Q:=by
 rw[Bool.and_eq_true]at hc;obtain⟨l,xs,bs,e3,q3,r3,_⟩:=items oy hy;have r3':RepA K H true ys xs bs:=by
  cases ho:(y.o != .dp)with
  | true=>rw[ho]at r3;exact r3
  | false=>rw[ho]at r3;exact r3.wk
 refine .inr ⟨x.d,ys,x.as,bs,l,xs,RepO.wk ox,e3,?_,r3',hc.1,hc.2,k⟩;rcases q3 with⟨_,z⟩| ⟨_,z⟩
 ·exact .inl (kjl z)
 ·exact .inr z
theorem vx3:Ad2 K (vzb K false) (pu2 qkt):=by
 intro H x y s Q ox oy hf k;unfold pu2 qkt fIn at hf;dsimp only at hf;cases hy:y.d with
 | lst ys =>
  rw[hy]at hf;dsimp only at hf
  split at hf
  ·rename_i hc;cases oq9 hf;exact kvg ox oy (.inl hy) hc (k ⟨.dp,.bl _,.bl _,[]⟩ H rfl rfl qj0)
  ·cases hf
 | tup ys =>
  rw[hy]at hf;dsimp only at hf
  split at hf
  ·rename_i hc;cases oq9 hf;exact kvg ox oy (.inr hy) hc (k ⟨.dp,.bl _,.bl _,[]⟩ H rfl rfl qj0)
  ·cases hf
 | str b =>
  rw[hy]at hf;dsimp only at hf
  split at hf
  ·rename_i a hx;cases oq9 hf;exact .inl ⟨a,b,(jqw ox hx).1,(jqw oy hy).1,k ⟨.dp,.bl _,.bl _,[]⟩ H rfl rfl qj0⟩
  ·cases hf
 | _=>rw[hy]at hf;cases hf
theorem kvq:Ad2 K (vzb K true) (pu2 jkt):=by
 intro H x y s Q ox oy hf k;unfold pu2 jkt kwt fIn at hf;dsimp only at hf;cases hy:y.d with
 | lst ys =>
  rw[hy]at hf;dsimp only at hf
  split at hf
  ·rename_i hc;cases oq9 hf;exact kvg ox oy (.inl hy) hc (k ⟨.dp,.bl _,.bl _,[]⟩ H rfl rfl qj0)
  ·cases hf
 | tup ys =>
  rw[hy]at hf;dsimp only at hf
  split at hf
  ·rename_i hc;cases oq9 hf;exact kvg ox oy (.inr hy) hc (k ⟨.dp,.bl _,.bl _,[]⟩ H rfl rfl qj0)
  ·cases hf
 | str b =>
  rw[hy]at hf;dsimp only at hf
  split at hf
  ·rename_i a hx;cases oq9 hf;exact .inl ⟨a,b,(jqw ox hx).1,(jqw oy hy).1,k ⟨.dp,.bl _,.bl _,[]⟩ H rfl rfl qj0⟩
  ·cases hf
 | _=>rw[hy]at hf;cases hf
theorem kj3{g:Bool}{d:D}{v:V}{as:List Addr}(h:RepL K H g d v as):decide (v=.non)=isNon d:=by
 cases d with
 | non=>unfold RepL at h;rw[h.1];rfl
 | bl _=>unfold RepL at h;rw[h.1];rfl
 | int _=>unfold RepL at h;rw[h.1];rfl
 | str _=>unfold RepL at h;rw[h.1];rfl
 | tup _=>unfold RepL at h;obtain⟨a,xs,e,_⟩:=h;rw[e];rfl
 | lst _=>unfold RepL at h;obtain⟨a,xs,bs,e,_⟩:=h;rw[e];rfl
 | dct _=>unfold RepL at h;obtain⟨a,xs,bs,e,_⟩:=h;rw[e];rfl
 | obj _ _=>unfold RepL at h;obtain⟨_,x,o,C,e,_⟩:=h;rw[e];rfl
theorem qxi:Ad2 K (λx y H Q=>y=.non/\Q (.bl (decide (x=.non))) H) (f2First fIsNon):=by
 intro H x y s Q ox oy hf k;unfold f2First fIsNon at hf;dsimp only at hf
 split at hf
 ·rename_i hy;cases oq9 hf;have e:=kj3 (RepO.wk oy);rw[hy]at e;refine⟨Ym e,?_⟩;rw[kj3 (RepO.wk ox)];exact k ⟨.dp,.bl _,.bl _,[]⟩ H rfl rfl qj0
 ·cases hf
theorem kvr:Ad2 K (λx y H Q=>y=.non/\Q (.bl (!decide (x=.non))) H) (f2First fNotNon):=by
 intro H x y s Q ox oy hf k;unfold f2First fNotNon at hf;dsimp only at hf
 split at hf
 ·rename_i hy;cases oq9 hf;have e:=kj3 (RepO.wk oy);rw[hy]at e;refine⟨Ym e,?_⟩;rw[kj3 (RepO.wk ox)];exact k ⟨.dp,.bl _,.bl _,[]⟩ H rfl rfl qj0
 ·cases hf
theorem vkd(n:Nat)(i:Int):_root_.Q.ixN n i=L2.ixN n i:=rfl
theorem vw3{x y:Sl}{d:D}{Q:VK}(ox:x.ok K H)(oy:y.ok K H)(hf:jva x.d y.d=some d)(k:∀z:Sl,z.o=sub x.o->z.d=d->z.ok K H->(∀b∈z.frz,b∈x.frz)->(∀b∈z.as,b∈x.as)->Q z.v H):rIx K x.v y.v H Q:=by
 have seq:∀ds:List D,(x.d=.lst ds\/x.d=.tup ds)->∀i:Int,y.d=.int i->((_root_.Q.ixN ds.length i).bind λj=>ds[j]?)=some d->rIx K x.v y.v H Q:=by
  intro ds hx i hy hd;obtain⟨l,xs,bs,e3,q3,r3,h3,h4⟩:=items ox hx;cases hj:_root_.Q.ixN ds.length i with
  | none=>rw[hj]at hd;cases hd
  | some j =>
   rw [hj]at hd;obtain⟨v,cs,e4,r4,h5⟩:=r3.get (show ds[j]?=some d from hd);have hat:atI xs i=some v:=by
    unfold atI;rw[<-r3.len,<-vkd,hj];exact e4
   have fin:Q v H:=by
    cases ho:x.o with
    | dp =>
     rw[ho]at r4;exact k ⟨.dp,d,v,cs⟩ (by rw[ho];rfl) rfl r4 (λb hb=>(nomatch hb)) λb hb=>h3 b (h5 b hb)
    | no =>
     rw[ho]at r4;exact k ⟨.no,d,v,cs⟩ (by rw[ho];rfl) rfl r4 (λb hb=>h4 (by rw[ho];exact(λz=>nomatch z)) b (h5 b hb)) λb hb=>h3 b (h5 b hb)
    | rt =>
     rw[ho]at r4;exact k ⟨.no,d,v,cs⟩ (by rw[ho];rfl) rfl r4 (λb hb=>h4 (by rw[ho];exact(λz=>nomatch z)) b (h5 b hb)) λb hb=>h3 b (h5 b hb)
   rcases q3 with⟨_,z⟩| ⟨_,z⟩
   ·exact .inl ⟨l,xs,i,v,e3,jku oy hy,kjl z,hat,fin⟩
   ·exact .inr (.inl ⟨l,xs,i,v,e3,jku oy hy,z,hat,fin⟩)
 unfold jva at hf;cases hx:x.d with
 | lst ds =>
  rw [hx]at hf;cases hy:y.d with
  | int i=>rw[hy]at hf;exact seq ds (.inl hx) i hy hf
  | _=>rw[hy]at hf;cases hf
 | tup ds =>
  rw [hx]at hf;cases hy:y.d with
  | int i=>rw[hy]at hf;exact seq ds (.inr hx) i hy hf
  | _=>rw[hy]at hf;cases hf
 | str z =>
  rw [hx]at hf;cases hy:y.d with
  | int i =>
   rw [hy]at hf;have hf:((_root_.Q.ixN z.cps.size i).bind λj=>(z.cps.toList[j]?).map λc=>D.str ⟨#[c]⟩)=some d:=hf;cases hj:_root_.Q.ixN z.cps.size i with
   | none=>rw[hj]at hf;cases hf
   | some j =>
    rw[hj]at hf;cases hc:z.cps.toList[j]? with
    | none=>rw[Option.bind_some,hc]at hf;cases hf
    | some c =>
     rw[Option.bind_some,hc]at hf;cases oq9 hf;have hat:atI z.cps.toList i=some c:=by
      unfold atI;rw[Y7,<-vkd,hj];exact hc
     obtain⟨e1,hz⟩:=jqw ox hx;refine .inr (.inr ⟨z,i,c,e1,jku oy hy,hz,hat,?_⟩);have rp:∀g,RepL K H g (.str ⟨#[c]⟩) (.str ⟨#[c]⟩) []:=λg=>kjk (show(1:Nat)<=sizeLine by decide)
     cases ho:x.o with
     | dp=>exact k ⟨.dp,.str ⟨#[c]⟩,.str ⟨#[c]⟩,[]⟩ (by rw[ho];rfl) rfl (rp false) (λb hb=>(nomatch hb)) λb hb=>(nomatch hb)
     | no=>exact k ⟨.no,.str ⟨#[c]⟩,.str ⟨#[c]⟩,[]⟩ (by rw[ho];rfl) rfl (rp true) (λb hb=>(nomatch hb)) λb hb=>(nomatch hb)
     | rt=>exact k ⟨.no,.str ⟨#[c]⟩,.str ⟨#[c]⟩,[]⟩ (by rw[ho];rfl) rfl (rp true) (λb hb=>(nomatch hb)) λb hb=>(nomatch hb)
  | _=>rw[hy]at hf;cases hf
 | non=>rw[hx]at hf;cases hf
 | bl _=>rw[hx]at hf;cases hf
 | int _=>rw[hx]at hf;cases hf
 | dct _=>rw[hx]at hf;cases hf
 | obj _ _=>rw[hx]at hf;cases hf
theorem q_ix(ha:QV X Z qa a ea)(hb:QV X Z true b eb)(hs:kz7 eb)(hK:X.K=Z.K:=by rfl):QV X Z qa (jjb a b) (.Subscript ea eb pos):=
 jki (wvh (hK▸wka) ha hb hs) fun σ H Q h_z=>ex8 h_z λE L r m w hc xc k=>by
  refine jvj m w (show bnd (a E) _=some r from hc) xc λE1 s h1 x L1 H1 e1 e2 m1 w1 ok fr sr st sm=>?_
  refine jvj m1 w1 h1 (xc.step st) λE2 s2 h2 y L2 H2 e3 e4 m2 w2 ok2 fr2 sr2 st2 sm2=>?_
  obtain⟨z,hz,rfl⟩:=jqr h2;cases hf:jva s.2 s2.2 with
  | none=>rw[hf]at hz;cases hz
  | some d =>
   rw[hf]at hz;cases oq9 hz;have kx:=jvq ok fr st2 (sm2 rfl);refine vw3 kx.1 ok2 (by rw[e2,e4];exact hf) λz zo zd zok zf za=>?_
   exact k _ _ rfl z L2 H2 (by rw[zo,e1]) zd m2 w2 zok (λb hb=>kx.2 b (zf b hb)) (jx6 sr za) (st.trans st2) λhq=>jj7 (sm hq) (sm2 rfl)
theorem qqw(ht:QT X Z q u e)(ha:QE X Z q a ea)(hb:QE X Z q b eb):QE X Z q (cIf u a b) (.IfExp e ea eb pos):=jki (qzm ht ha hb) fun σ H Q h_z=>ex8 h_z λE L r m w hc xc k =>
 qxu m w (show bnd (u E) _=some r from hc) xc λE1 s h1 L1 H1 m1 w1 st sm=>by
  have fin:∀{c:Ex},c E1=some r->tQ Z q c σ H1 Q:=λhc=>⟨E1,L1,r,m1,w1,hc,xc.step st,λE' a z x L' H' e1 e2 m' w' st' sm'=>k E' a z x L' H' e1 e2 m' w' (st.trans st') λhq=>⟨jj7 (sm hq) (sm' hq).1,λb hb=>jk4 (sm hq) ((sm' hq).2 b hb)⟩⟩
  cases s with
  | true=>rw[Xf rfl]at h1 ⊢;exact fin h1
  | false=>rw[Xj (by decide)]at h1 ⊢;exact fin h1
theorem kzx{op}(h:QE X Z q a ea):QE X Z q a (.BoolOp op [ea] pos):=wj1 h
theorem qza(ha:QV X Z q a ea)(hb:QE X Z q b (.BoolOp .And (eb::es) pos)):QE X Z q (vjg a b) (.BoolOp .And (ea::eb::es) pos):=jki (wj8 ha hb) fun σ H Q h_z=>ex8 h_z λE L r m w hc xc k =>
 jvj m w (show bnd (a E) _=some r from hc) xc λE1 s h1 x L1 H1 e1 e2 m1 w1 ok fr sr st sm=>by
  cases hs:s.2 with
  | bl kk =>
   rw[hs]at h1;refine⟨kk,qkd ok (e2.trans hs),?_⟩;cases kk with
   | true =>
    rw[Xf rfl];exact⟨E1,L1,r,m1,w1,h1,xc.step st,λE' a z x L' H' e1 e2 m' w' st' sm'=>k E' a z x L' H' e1 e2 m' w' (st.trans st') λhq=>⟨jj7 (sm hq) (sm' hq).1,λb hb=>jk4 (sm hq) ((sm' hq).2 b hb)⟩⟩
   | false =>
    rw[Xj (by decide)];cases oq9 h1;obtain⟨w3,st3⟩:=jky w1 st (qj0 (K:=Z.K) (H:=H1) (i:=false) (fr:=[])) (λ_ z=>(nomatch z)) (λ_ z=>(nomatch z)) (λ_ z=>(nomatch z));exact k _ _ rfl ⟨.dp,.bl false,.bl false,[]⟩ L1 H1 rfl rfl m1 w3 st3 λhq=>⟨sm hq,λ_ z=>(nomatch z)⟩
  | _=>rw[hs]at h1;cases h1
theorem q_or(ha:QV X Z q a ea)(hb:QE X Z q b (.BoolOp .Or (eb::es) pos)):QE X Z q (cOr a b) (.BoolOp .Or (ea::eb::es) pos):=jki (wvf ha hb) fun σ H Q h_z=>ex8 h_z λE L r m w hc xc k =>
 jvj m w (show bnd (a E) _=some r from hc) xc λE1 s h1 x L1 H1 e1 e2 m1 w1 ok fr sr st sm=>by
  cases hs:s.2 with
  | bl kk =>
   rw[hs]at h1;refine⟨kk,qkd ok (e2.trans hs),?_⟩;cases kk with
   | false =>
    rw[Xj (by decide)];exact⟨E1,L1,r,m1,w1,h1,xc.step st,λE' a z x L' H' e1 e2 m' w' st' sm'=>k E' a z x L' H' e1 e2 m' w' (st.trans st') λhq=>⟨jj7 (sm hq) (sm' hq).1,λb hb=>jk4 (sm hq) ((sm' hq).2 b hb)⟩⟩
   | true =>
    rw[Xf rfl];cases oq9 h1;obtain⟨w3,st3⟩:=jky w1 st (qj0 (K:=Z.K) (H:=H1) (i:=true) (fr:=[])) (λ_ z=>(nomatch z)) (λ_ z=>(nomatch z)) (λ_ z=>(nomatch z));exact k _ _ rfl ⟨.dp,.bl true,.bl true,[]⟩ L1 H1 rfl rfl m1 w3 st3 λhq=>⟨sm hq,λ_ z=>(nomatch z)⟩
  | _=>rw[hs]at h1;cases h1
theorem truV{x:Sl}{k:Bool}(ok:x.ok K H)(h:truth x.d=some k)(hd:∀kvs,x.d≠.dct kvs):wwc K x.v H k:=by
 cases hx:x.d with
 | non=>rw[hx]at h;rw[wjn ok hx];exact(oq9 h).symm
 | bl b=>rw[hx]at h;rw[qkd ok hx];exact(oq9 h).symm
 | int i=>rw[hx]at h;rw[jku ok hx];exact(oq9 h).symm
 | str z =>
  rw[hx]at h;obtain⟨e,hz⟩:=jqw ok hx;rw[e];refine⟨hz,?_⟩;rw[<-oq9 h];show(z.cps.size != 0)=(((z.cps.size:Nat):Int) != 0);rw[Bool.eq_iff_iff];simp
 | lst ds =>
  rw[hx]at h;obtain⟨a,xs,bs,e,q,r,_⟩:=items ok (.inl hx);rw[e];have q':LsR K H a xs:=by rcases q with⟨_,z⟩| ⟨z,_⟩;exact z;rw[hx]at z;cases z
  refine .inl ⟨xs,kjl q',?_⟩;rw[<-oq9 h];have:=r.len;cases ds<;>cases xs<;>simp_all
 | tup ds =>
  rw[hx]at h;obtain⟨a,xs,bs,e,q,r,_⟩:=items ok (.inr hx);rw[e];have q':SqT K H a xs:=by rcases q with⟨z,_⟩| ⟨_,z⟩;rw[hx]at z;cases z;exact z
  refine .inr (.inl ⟨xs,q',?_⟩);rw[<-oq9 h];have:=r.len;cases ds<;>cases xs<;>simp_all
 | dct kvs=>exact absurd hx (hd kvs)
 | obj c f=>rw[hx]at h;cases h
theorem qq4{d:D}{k:Bool}(h:truthQ d=some k):truth d=some k/\∀kvs,d≠.dct kvs:=by
 cases d<;>first | exact⟨h,λ_ z=>nomatch z⟩| cases h
theorem jz6(h:QV X Z q a ea)(he:∀whole,isTrue ea X.env whole=(do let v <-whole;standAt ea.pos;holding [v] (truthy v)):=by intro _;rfl)(hK:X.K=Z.K:=by rfl):QT X Z q (tEQ a) ea:=qqy (qzb h he) fun σ H Q h_z=>ex8 h_z λE L r m w hc xc k =>
 jvj m w (show bnd (a E) _=some r from hc) xc λE1 s h1 x L1 H1 e1 e2 m1 w1 ok fr sr st sm=>by
  obtain⟨kk,hk,rfl⟩:=jqr h1;obtain⟨h2,h3⟩:=qq4 hk;exact⟨kk,hK▸truV ok (by rw[e2];exact h2) (by rw[e2];exact h3),k _ _ rfl L1 H1 m1 w1 st sm⟩
end
theorem kj9{α:Type}:∀{L:List α} {i:Nat} {q:α},L[i]?=some q->∃A B,L=A++q::B/\∀q',L.set i q'=A++q'::B
 | [],_,_,h=>by simp at h
 | a::L,0,q,h=>by
  have e:a=q:=by simpa using h
  subst e;exact⟨[],L,rfl,λ_=>rfl⟩
 | a::L,i+1,q,h=>by
  obtain⟨A,B,e,f⟩:=kj9 (L:=L) (i:=i) (by simpa using h);exact⟨a::A,B,by rw[e];rfl,λq'=>by rw[List.set_cons_succ,f];rfl⟩
section
variable {K:PySem.W.Frag}{H:Hp}{M T L:Ls}{y y':Sl}{l:Addr}{ob:HO}
theorem World.write(w:World K H (some y::(T++M)))(hl:l∈y.own)(ok':y'.ok K (upd H l ob))(nd:y'.own.Nodup)(h1:∀a∈y'.own,a∈y.own\/a∈jj6 T)(h2:∀a∈y'.frz,a∈y.as\/a∈jj6 T\/a∈jjd T)(h3:∀a∈y'.own,a∉y'.frz):
  World K (upd H l ob) (some y'::M)/\Step H (some y::(T++M)) (upd H l ob) (some y'::M):=by
 have wn:=w.nd;rw [jj3,jj2,Xe,Xe]at wn;obtain⟨n1,⟨n2,n3,n4⟩,n5⟩:=wn;have oy:l∈jj6 (some y::(T++M)):=by rw[jj3];exact ll9 _ hl
 have hal:=w.own_al oy;have ds:∀a,(a∈y.own\/a∈jj6 T\/a∈jj6 M)->¬(a∈y.frz\/a∈jjd T\/a∈jjd M):=λa ha hf=>by
  refine w.ds a ?_ ?_
  ·rw[jj3,jj2];rcases ha with z | z | z
   ·exact ll9 _ z
   ·exact lr9 _ (ll9 _ z)
   ·exact lr9 _ (lr9 _ z)
  ·rw[jj8,jj5];rcases hf with z | z | z
   ·exact ll9 _ z
   ·exact lr9 _ (ll9 _ z)
   ·exact lr9 _ (lr9 _ z)
 have noM:∀z,some z∈M->l∉z.as:=λz hz ha=>by
  rcases Sl.as_of ha with q | q
  ·exact n5 l hl l (lr9 _ (mem_owned.mpr ⟨z,hz,q⟩)) rfl
  ·exact ds l (.inl hl) (.inr (.inr (mem_frozen.mpr ⟨z,hz,q⟩)))
 have ke:∀a o,H a=some o->a≠l->upd H l ob a=some o:=λa o e ne=>by rw[jjv ne];exact e
 have kp:∀as:List Addr,l∉as->Kp H (upd H l ob) as:=λas hn=>by
  refine⟨λa xs e=>ke a _ e λz=>?_,λa o u e=>ke a _ e λz=>?_,λa ha o e=>ke a o e λz=>hn (z▸ha)⟩
  ·subst z;rcases hal with⟨_,q⟩| ⟨_,q⟩| ⟨_,q⟩<;>(rw[e]at q;cases q)
  ·subst z;rcases hal with⟨_,q⟩| ⟨_,q⟩| ⟨_,q⟩<;>(rw[e]at q;cases q)
 have wM:World K (upd H l ob) M:=by
  have w1:World K H M:=w.tail.right;exact⟨λz hz=>RepO.kp (w1.ok z hz) (kp _ (noM z hz)),w1.nd,w1.ds⟩
 refine⟨wM.cons ok' nd (λa ha hM=>?_) (λa ha hM=>?_) (λa ha hM=>?_) h3,λa o e hn=>ke a o e λz=>hn (z▸oy),λa ha=>?_,λa ha=>?_⟩
 ·rcases h1 a ha with z | z
  ·exact n5 a z a (lr9 _ hM) rfl
  ·exact n4 a z a hM rfl
 ·rcases h1 a ha with z | z
  ·exact ds a (.inl z) (.inr (.inr hM))
  ·exact ds a (.inr (.inl z)) (.inr (.inr hM))
 ·rcases h2 a ha with z | z | z
  ·rcases Sl.as_of z with z | z
   ·exact n5 a z a (lr9 _ hM) rfl
   ·exact ds a (.inr (.inr hM)) (.inl z)
  ·exact n4 a z a hM rfl
  ·exact ds a (.inr (.inr hM)) (.inr (.inl z))
 ·rw[jj3]at ha;rw[jj3,jj2];rcases List.mem_append.mp ha with z | z
  ·rcases h1 a z with z | z
   ·exact .inl (ll9 _ z)
   ·exact .inl (lr9 _ (ll9 _ z))
  ·exact .inl (lr9 _ (lr9 _ z))
 ·rw[jj8]at ha;rw[jj3,jj2,jj8,jj5];rcases List.mem_append.mp ha with z | z
  ·rcases h2 a z with z | z | z
   ·rcases Sl.as_of z with z | z
    ·exact .inr (.inl (ll9 _ z))
    ·exact .inl (ll9 _ z)
   ·exact .inr (.inl (lr9 _ (ll9 _ z)))
   ·exact .inl (lr9 _ (ll9 _ z))
  ·exact .inl (lr9 _ (lr9 _ z))
theorem World.writeAt{i:Nat}(w:World K H (T++L))(hy:L[i]?=some (some y))(hl:l∈y.own)(ok':y'.ok K (upd H l ob))(nd:y'.own.Nodup)(h1:∀a∈y'.own,a∈y.own\/a∈jj6 T)(h2:∀a∈y'.frz,a∈y.as\/a∈jj6 T\/a∈jjd T)(h3:∀a∈y'.own,a∉y'.frz):
  World K (upd H l ob) (L.set i (some y'))/\Step H (T++L) (upd H l ob) (L.set i (some y')):=by
 obtain⟨A,B,e,f⟩:=kj9 hy;rw[f];subst e;have p:(T++(A++some y::B)).Perm (some y::(T++(A++B))):=by
  refine(List.Perm.append_left T (List.perm_middle (a:=some y) (l₁:=A) (l₂:=B))).trans List.perm_middle
 obtain⟨w2,s2⟩:=World.write (M:=A++B) (w.perm p) hl ok' nd h1 h2 h3;exact⟨w2.perm List.perm_middle.symm,s2.perm p.symm List.perm_middle.symm⟩
end
theorem RepA.snoc{K:PySem.W.Frag}{H:Hp}{g:Bool}{d:D}{x:V}{cs:List Addr}(h:RepL K H g d x cs){ds:List D}{xs:List V}{bs:List Addr}(r:RepA K H g ds xs bs):RepA K H g (ds++[d]) (xs++[x]) (bs++cs):=by
 refine RepA.app ?_ r;unfold RepA;exact⟨x,[],cs,[],rfl,by simp,h,by unfold RepA;exact⟨rfl,rfl⟩⟩
theorem vvh{K:PySem.W.Frag}{H:Hp}{y:Sl}{ds:List D}(ok:y.ok K H)(hd:y.d=.lst ds)(ho:y.o≠.no):∃l xs bs,y.v=.ref l/\H l=some (.lst xs)/\y.as=l::bs/\l∈y.own/\RepA K H (y.o != .dp) ds xs bs:=by
 obtain⟨o,d,v,as⟩:=y;dsimp only at hd ho;subst hd;cases o with
 | no=>exact absurd rfl ho
 | rt =>
  obtain⟨a,xs,bs,rfl,r,q,rfl⟩:=(show RepR K H (.lst ds) v as from ok);exact⟨a,xs,bs,rfl,q,rfl,by simp[Sl.own],r⟩
 | dp =>
  have ok:RepL K H false (.lst ds) v as:=ok;unfold RepL at ok;obtain⟨a,xs,bs,rfl,r,q⟩:=ok;rcases q with⟨q,rfl⟩| ⟨z,_⟩
  ·exact⟨a,xs,bs,rfl,q,rfl,by simp[Sl.own],r⟩
  ·cases z
theorem kxk{K:PySem.W.Frag}{H:Hp}{T L:Ls}{i:Nat}{y:Sl}{l:Addr}{xs xs':List V}{bs cs:List Addr}{o':Own}{ds':List D}(w:World K H (T++L))(hy:L[i]?=some (some y))(hH:H l=some (.lst xs))(ha:y.as=l::bs)(hl:l∈y.own)(hv:y.v=.ref l)
  (r:RepA K H (o' != .dp) ds' xs' cs) (hc:(o'=.rt/\∀a∈cs,a∈bs\/a∈jj6 T\/a∈jjd T)\/(o'=.dp/\y.o=.dp/\cs.Nodup/\∀a∈cs,a∈bs\/a∈jj6 T)):
  World K (upd H l (.lst xs')) (L.set i (some ⟨o',.lst ds',y.v,l::cs⟩))/\Step H (T++L) (upd H l (.lst xs')) (L.set i (some ⟨o',.lst ds',y.v,l::cs⟩)):=by
 have oL:l∈jj6 L:=mem_owned.mpr ⟨y,jjz hy,hl⟩;have oy:l∈jj6 (T++L):=by rw[jj2];exact lr9 _ oL
 have nd:=w.nd;rw [jj2,Xe]at nd;have nT:l∉jj6 T:=λz=>nd.2.2 l z l oL rfl
 have nF:l∉jjd T:=λz=>w.ds l oy (by rw[jj5];exact ll9 _ z)
 have yn:y.own.Nodup:=by
  obtain⟨A,B,e,_⟩:=kj9 hy;have:=nd.2.1;rw[e,jj2,jj3,Xe]at this;exact(List.nodup_append.mp this.2.1).1
 have nb:l∉bs:=λz=>by
  cases ho:y.o with
  | no=>unfold Sl.own at hl;rw[ho]at hl;exact nomatch hl
  | rt =>
   have:l∈y.frz:=by unfold Sl.frz;rw[ho,ha];exact z
   exact w.ds l oy (by rw[jj5];exact lr9 _ (mem_frozen.mpr ⟨y,jjz hy,this⟩))
  | dp =>
   unfold Sl.own at yn;rw[ho,ha]at yn;exact(List.nodup_cons.mp yn).1 z
 have nc:l∉cs:=λz=>by
  rcases hc with⟨_,hc⟩| ⟨_,_,_,hc⟩
  ·rcases hc l z with q | q | q
   ·exact nb q
   ·exact nT q
   ·exact nF q
  ·rcases hc l z with q | q
   ·exact nb q
   ·exact nT q
 have kp:Kp H (upd H l (.lst xs')) cs:=by
  have k2:∀a o,H a=some o->a≠l->upd H l (.lst xs') a=some o:=λa o e ne=>by rw[jjv ne];exact e
  refine⟨λa zs e=>k2 a _ e λz=>?_,λa o u e=>k2 a _ e λz=>?_,λa ha o e=>k2 a o e λz=>nc (z▸ha)⟩
  ·subst z;rw[hH]at e;cases e
  ·subst z;rw[hH]at e;cases e
 have r':=r.kp kp;rcases hc with⟨rfl,hc⟩| ⟨rfl,hdp,hnd,hc⟩
 ·refine World.writeAt w hy hl (y':=⟨.rt,.lst ds',y.v,l::cs⟩) ⟨l,xs',cs,hv,r',jjy,rfl⟩ (by simp[Sl.own]) (λa h=>?_) (λa h=>?_) (λa h z=>?_)
  ·have:a=l:=by simpa [Sl.own]using h
   subst this;exact .inl hl
  ·rcases hc a (by simpa [Sl.frz]using h)with q | q
   ·exact .inl (by rw[ha];exact lc9 _ q)
   ·exact .inr q
  ·have:a=l:=by simpa [Sl.own]using h
   subst this;exact nc (by simpa [Sl.frz]using z)
 ·have oa:y.own=y.as:=by unfold Sl.own;rw[hdp]
  refine World.writeAt w hy hl (y':=⟨.dp,.lst ds',y.v,l::cs⟩) ?_ (List.nodup_cons.mpr ⟨nc,hnd⟩) (λa h=>?_) (λa h=>(nomatch h)) (λa h z=>(nomatch z))
  ·show RepL K _ false (.lst ds') y.v (l::cs);unfold RepL;exact⟨l,xs',cs,hv,r',.inl ⟨jjy,rfl⟩⟩
  ·rcases List.mem_cons.mp (show a∈l::cs from h)with q | q
   ·subst q;exact .inl hl
   ·rcases hc a q with q | q
    ·exact .inl (by rw[oa,ha];exact lc9 _ q)
    ·exact .inr q
section
variable {X:Cx}{Z:Fx0}{pn:List Nat}{q:Bool}{c:Ex}{e:Expr}{σ:L2.St}{H:Hp}{L:Ls}{E:En}
theorem wju{K:PySem.W.Frag}{x:Sl}{ds:List D}(ok:x.ok K H)(hd:x.d=.lst ds):tyV K "list" x.v H:=by
 obtain⟨a,xs,bs,e1,q1,_⟩:=items ok (.inl hd);rw[e1];rcases q1 with⟨_,z⟩| ⟨z,_⟩
 ·exact .inl ⟨rfl,xs,z.sq⟩
 ·rw[hd]at z;cases z
theorem wvv{K:PySem.W.Frag}{x:Sl}(ok:x.ok K H)(b:Bool)(hb:b=false->jwe x.sd=true):∃cs,RepL K H b x.d x.v cs/\(∀a∈cs,a∈x.as)/\(b=false->∀a∈cs,a∈x.own)/\(b=false->x.own.Nodup->cs.Nodup):=by
 cases b with
 | true=>exact⟨x.as,RepO.wk ok,λ_ h=>h,(λz=>by cases z),(λz=>by cases z)⟩
 | false =>
  have t:=hb rfl;unfold jwe at t
  by_cases ho:x.o=.dp
  ·have e:x.own=x.as:=by unfold Sl.own;rw[ho]
   refine⟨x.as,?_,λ_ h=>h,λ_ a h=>by rw[e];exact h,λ_ n=>by rw[e]at n;exact n⟩;have:=ok;unfold Sl.ok at this;rw[ho]at this;exact this
  ·have hp:x.d.pure=true:=by
    rcases Bool.or_eq_true_iff.mp t with z | z
    ·exact absurd (by simpa using z) ho
    ·exact z
   obtain⟨z,rp⟩:=RepL.pu (g':=false) (RepO.wk ok) hp;exact⟨[],rp,λ_ h=>(nomatch h),λ_ _ h=>(nomatch h),λ_ _=>Xv⟩
theorem jwc{α:Type}{l:List α}{i:Nat}{x:α}(h:l[i]?=some x):l.set i x=l:=by
 obtain⟨h1,h2⟩:=List.getElem?_eq_some_iff.mp h;rw[<-h2];simp
theorem mut1 {D':Ends} {f:List D->D->Option (List D)} {i:Nat} {r:Fl} {G:V->V->Hp->Prop} (m:Mt E σ L) (w:World Z.K H L) (hc:jke f i c E=some r) (k:FlP Z pn D' σ H L r)
  (g:∀ (l:Addr) (x:V) (xs:List V) (ds ds':List D) (d:D) (bs cs:List Addr) (H1:Hp) (gg:Bool),f ds d=some ds'->H1 l=some (.lst xs)->RepA Z.K H1 gg ds xs bs->RepL Z.K H1 gg d x cs ->
   (∀ xs' es,RepA Z.K H1 gg ds' xs' es->(∀a∈es,a∈bs\/a∈cs)->((bs++cs).Nodup->es.Nodup)->D'.nx σ (upd H1 l (.lst xs')))->G (.ref l) x H1):
  ∃ v,σ[i]?=some (some v)/\tyV Z.K "list" v H/\tQ Z q c σ H (G v):=by
 unfold jke at hc;cases h0:E[i]? with
 | none=>rw[h0]at hc;cases hc
 | some s0 =>
  cases s0 with
  | none=>rw[h0]at hc;cases hc
  | some s0 =>
   obtain ⟨o0,d0⟩:=s0;cases d0 with
   | lst ds0 =>
    rw [h0,Xf (show qzy (some (some (o0,D.lst ds0)))=true from rfl)]at hc;obtain ⟨x0,a1,a2,a3,a4⟩:=m.get h0;refine ⟨x0.v,a4,wju (w.ok x0 (jjz a1)) a3,?_⟩;refine qqh m w hc k λE1 s h1 x L1 H1 e1 e2 m1 w1 st _=>?_
    cases hE:E1[i]? with
    | none=>rw[hE]at h1;cases h1
    | some s1 =>
     cases s1 with
     | none=>rw[hE]at h1;cases h1
     | some s1 =>
      obtain⟨oo,dd⟩:=s1;rw [hE]at h1;cases dd with
      | lst ds =>
       dsimp only at h1
       by_cases hno:oo=.no
       ·rw [Xf hno]at h1;cases h1
       ·rw [Xj hno]at h1;cases hfd:f ds s.2 with
        | none=>rw[hfd]at h1;cases h1
        | some ds' =>
         rw[hfd]at h1;obtain⟨y,b1,b2,b3,b4⟩:=m1.get hE;have hv:y.v=x0.v:=by rw[a4]at b4;exact(oq9 (oq9 b4)).symm
         obtain⟨l,xs,bs,c1,c2,c3,c4,c5⟩:=vvh (w1.ok y (lc9 _ (jjz b1))) b3 (by rw[b2];exact hno);have ex0:x0.v=.ref l:=hv▸c1;rw[ex0];have wT:World Z.K H1 ([some x]++L1):=w1;have okx:=w1.head;have nd:=w1.nd;rw[jj3,Xe]at nd;have oT:jj6 [some x]=x.own:=by simp
         have fT:jjd [some x]=x.frz:=by simp
         by_cases hd:oo=.dp/\jwe s=true
         ·rw[Xf hd]at h1;cases oq9 h1;have hyo:y.o=.dp:=b2.trans hd.1;rw[hyo]at c5;obtain⟨cs,r1,h3,h4,h5⟩:=wvv okx false λ_=>by rw[show x.sd=s from by simp[Sl.sd,e1,e2]];exact hd.2
          refine g l x.v xs ds ds' s.2 bs cs H1 false hfd c2 c5 (by rw[<-e2];exact r1) λxs' es re he hn=>?_
          have ynd:(bs++cs).Nodup:=by
           have yo:y.own=l::bs:=by unfold Sl.own;rw[hyo,c3]
           obtain⟨A,B,e,_⟩:=kj9 b1;have q:=nd.2.1;rw[e,jj2,jj3,Xe]at q;have q2:=(List.nodup_append.mp q.2.1).1;rw[yo]at q2;rw[Xe];refine⟨(List.nodup_cons.mp q2).2,h5 rfl nd.1,λa ha b hb hab=>?_⟩;subst hab;exact nd.2.2 a (h4 rfl a hb) a (mem_owned.mpr ⟨y,jjz b1,by rw[yo];exact lc9 _ ha⟩) rfl
          obtain⟨w3,s3⟩:=kxk (o':=.dp) (ds':=ds') (xs':=xs') wT b1 c2 c3 c4 c1 re (.inr ⟨rfl,hyo,hn ynd,λa ha=>(he a ha).imp id λz=>by rw[oT];exact h4 rfl a z⟩);refine k σ _ _ Pn.refl ?_ w3 (st.trans s3);have:=m1.set (x:=⟨.dp,.lst ds',y.v,l::es⟩) i;rw[jwc b4]at this;exact this
         ·rw[Xj hd]at h1;cases oq9 h1;have c6:RepA Z.K H1 true ds xs bs:=by
           cases hb:(y.o != .dp)with
           | true=>rw[hb]at c5;exact c5
           | false=>rw[hb]at c5;exact c5.wk
          refine g l x.v xs ds ds' s.2 bs x.as H1 true hfd c2 c6 (by rw[<-e2];exact RepO.wk okx) λxs' es re he hn=>?_
          obtain⟨w3,s3⟩:=kxk (o':=.rt) (ds':=ds') (xs':=xs') wT b1 c2 c3 c4 c1 re (.inl ⟨rfl,λa ha=>(he a ha).imp id λz=>by rw[oT,fT];exact Sl.as_of z⟩);refine k σ _ _ Pn.refl ?_ w3 (st.trans s3);have:=m1.set (x:=⟨.rt,.lst ds',y.v,l::es⟩) i;rw[jwc b4]at this;exact this
      | _=>cases h1
   | _=>rw[h0]at hc;cases hc
theorem wv7{i:Nat}{o:Expr}{apos cpos pos:Pos}(hb:PE X (.Call (.Attribute o "append" apos) [e] [] cpos) (tBM Z.K "list" kxi (qxv i) (vxs (tQ Z q c) wwf)))(hs:swapsWith (.Call (.Attribute o "append" apos) [e] [] cpos) none pos.line X.env=pure false:=by rfl):
  QS X Z pn (jke jvn i c) (.Expr (.Call (.Attribute o "append" apos) [e] [] cpos) pos):=jve (qv2 hb hs) λD σ H h_z=>ex7 h_z λE L r m w hc k =>
 mut1 (G:=λv x H1=>kxi v [x] H1 λ_ H2=>D.nx σ H2) m w hc k λl x xs ds ds' d bs cs H1 gg hf hH ra rx fin=>by
  unfold jvn at hf
  by_cases hl:ds.length<big
  ·rw[Xf hl]at hf;cases oq9 hf;exact⟨l,xs,x,rfl,rfl,hH,by rw[<-ra.len];exact hl,fin (xs++[x]) (bs++cs) (RepA.snoc rx ra) (λa ha=>List.mem_append.mp ha) λh=>h⟩
  ·rw[Xj hl]at hf;cases hf
end
section
variable {X:Cx}{Z:Fx0}{pn:List Nat}{q:Bool}{a b c:Ex}{tg e ea eb:Expr}{σ:L2.St}{H:Hp}{L:Ls}{E:En}{pos p:Pos}
theorem vxv{pins:List (Addr×Obj)}{H1:Hp}{s1:Shared}{x:Str}{t:Tok}{R:It->Hp->Prop}(I1:L2.Inv X pins σ H1 s1)(q:R (Its x) H1):wpAny (model X.prog X.w) X.A (pyIter (.str x t)) (PIE X pins σ tg R) X.xe s1:=by
 have fp:∀b∈[s1.heap.objs.size],kku X pins H1 b:=λb hb=>by
  have e:b=s1.heap.objs.size:=by simpa using hb
  subst e;exact I1.fpOk (X8 _) (I1.hok.fresh (X8 _))
 cases ha:x.cps.all (· < 128)
 ·exact wpAny_pyIter_wide ha ⟨s1.heap.objs.size,[s1.heap.objs.size],_,_,H1,rfl,I1.kept (t':=s1.toks) λb o e=>X6 _ e,kze (λA' hA=>PySem.Walks.strWide hA _ x t) (λ_ _ _ _ _ st h=>wpAny_pyIter_striter_wide st h) (by decide),⟨_,Xl _ rfl,rfl,rfl⟩,fp,q⟩
 ·exact wpAny_pyIter_ascii ha ⟨s1.heap.objs.size,[s1.heap.objs.size],_,_,H1,rfl,I1.kept (t':=s1.toks) λb o e=>X6 _ e,kze (λA' hA=>PySem.Walks.strAscii hA _ x t) (λ_ _ _ _ _ st h=>wpAny_pyIter_striter_ascii st h) (by decide),⟨_,Xl _ rfl,rfl,rfl⟩,fp,q⟩
theorem wjm{K:PySem.W.Frag}{H:Hp}(c:Nat):Sl.ok K H ⟨.no,.str ⟨#[c]⟩,.str ⟨#[c]⟩,[]⟩:=by
 show RepL K H true _ _ _;exact kjk (show(1:Nat)<=sizeLine by decide)
theorem wjl{K:PySem.W.Frag}{H:Hp}(i:Int):Sl.ok K H ⟨.no,.int i,.int i,[]⟩:=by
 show RepL K H true _ _ _;exact jq1
def iAny(K:PySem.W.Frag)(tl:TE):TI:=fun σ H R=>tl σ H λx H1=>(∃a xs,x=.ref a/\SqL K H1 a xs/\(xs.length<=sizeLine->R (Itl K a) H1))\/(∃a xs,x=.ref a/\SqT K H1 a xs/\(xs.length<=sizeLine->R (Itt K a) H1))\/∃z,x=.str z/\R (Its z) H1
theorem vzy{l:Expr}{tl:TE}(hl:PE X l tl):PI X tg l (iAny X.K tl):=by
 intro pins s σ H R I h;have h':tl σ H λx H1=>(∃a xs,x=.ref a/\SqL X.K H1 a xs/\(xs.length<=sizeLine->R (Itl X.K a) H1))\/(∃a xs,x=.ref a/\SqT X.K H1 a xs/\(xs.length<=sizeLine->R (Itt X.K a) H1))\/∃z,x=.str z/\R (Its z) H1:=h
 refine thn (hl pins s σ H _ I h') λv s1 ⟨x,H1,I1,r1,q1⟩=>?_
 rcases q1 with⟨a,xs,rfl,hq,q⟩| ⟨a,xs,rfl,hq,q⟩| ⟨z,rfl,q⟩
 ·cases r1;obtain⟨its,rv,p,hz⟩:=I1.list hq;refine wpAny_pyIter_list p.isList ?_;refine⟨s1.heap.objs.size,[s1.heap.objs.size],_,_,H1,rfl,I1.kept (t':=s1.toks) λb o e=>X6 _ e,qq2 a _,⟨_,Xl _ rfl,rfl,rfl⟩,λb hb=>?_,q hz⟩;have e:b=s1.heap.objs.size:=by simpa using hb
  subst e;exact I1.fpOk (X8 _) (I1.hok.fresh (X8 _))
 ·cases r1;obtain⟨its,rv,p,hz⟩:=I1.tuple hq;refine wpAny_pyIter_tuple (show s1.heap.IsTuple a its.toArray from p) ?_;refine⟨s1.heap.objs.size,[s1.heap.objs.size],_,_,H1,rfl,I1.kept (t':=s1.toks) λb o e=>X6 _ e,qk0 a _,⟨_,Xl _ rfl,rfl,rfl⟩,λb hb=>?_,q hz⟩;have e:b=s1.heap.objs.size:=by simpa using hb
  subst e;exact I1.fpOk (X8 _) (I1.hok.fresh (X8 _))
 ·obtain⟨t,rfl⟩:=r1;exact vxv I1 q
theorem jwu(h:QE X Z q c e)(hK:X.K=Z.K:=by rfl):QI X Z q tg (itS c) e:=λpins s σ H R I h_z=>ex8 h_z λE L r m w hc xc k=>by
 refine(hK▸vzy h) pins s σ H R I ?_;refine kqt m w (show bnd (c E) _=some r from hc) xc λE1 s h1 x L1 H1 e1 e2 m1 w1 st sm=>?_
 obtain⟨ds,hd,rfl⟩:=jqr h1;have ok:=w1.head;have wT:World Z.K H1 (L1++[x.let].map some):=by
  refine World.comm (L:=[some x.let]) ?_;exact w1.tail.consNo (jwj ok) rfl λb hb=>w1.apart b hb
 have sT:Step H L H1 (L1++[x.let].map some):=by
  refine⟨st.keep,λb hb=>?_,λb hb=>?_⟩
  ·have:b∈jj6 L1:=by simpa [jwk]using hb
   exact st.own b (by rw[jj3];exact lr9 _ this)
  ·have:b∈jjd L1\/b∈x.as:=by simpa [jwk]using hb
   rcases this with z | z
   ·exact st.frz b (by rw[jj8];exact lr9 _ z)
   ·exact jx7 st b z
 cases hx:x.d with
 | lst es =>
  rw[<-e2,hx]at hd;have hd':es=ds:=oq9 hd;subst hd';obtain⟨a,xs,bs,ev,q3,r3,h3,_⟩:=items ok (.inl hx);have q3:LsR Z.K H1 a xs:=by rcases q3 with⟨_,z⟩| ⟨z,_⟩;exact z;rw[hx]at z;cases z
  have again:∀H2:Hp,(∀t∈[x.let],t.ok Z.K H2)->∃ys cs,SqL Z.K H2 a ys/\RepA Z.K H2 true es ys cs/\∀b∈cs,b∈x.as:=λH2 hok=>by
   obtain⟨a',ys,cs,ev',q4,r4,h4,_⟩:=items (hok x.let (List.mem_singleton.mpr rfl)) (.inl hx);have:a'=a:=by have:=ev'.symm.trans ev;exact V.ref.inj this
   subst this;rcases q4 with⟨_,z⟩| ⟨z,_⟩
   ·exact⟨ys,cs,z.sq,r4,h4⟩
   ·rw[show x.let.d=D.lst es from hx]at z;cases z
  refine .inl ⟨a,xs,ev,q3.sq,λhlen=>k _ _ rfl (Itl Z.K a) [x.let] L1 H1 m1 wT sT (by rw[r3.len];exact hlen) (λhq=>(sm hq).1) ⟨λt ht=>by rw[List.mem_singleton.mp ht];rfl,λi H2 hok hi=>?_,λH2 hok=>?_,λi H2 v H3 d hok hy hdi=>?_⟩⟩
  ·obtain⟨ys,cs,s1,s2,_⟩:=again H2 hok;have hl:=s2.len;exact⟨ys,ys[i]'(by omega),s1,X0 (by omega)⟩
  ·obtain⟨ys,cs,s1,s2,_⟩:=again H2 hok;exact⟨ys,s1,by rw[s2.len];exact X8 _⟩
  ·obtain⟨ys,cs,s1,s2,s3⟩:=again H2 hok;obtain⟨e3,hy⟩:=hy;subst e3;obtain⟨v',bs',f1,f2,f3⟩:=s2.get hdi;have:v'=v:=by have:=hy ys s1;rw[f1]at this;exact oq9 this
   subst this;exact⟨⟨.no,d,v',bs'⟩,rfl,rfl,rfl,jk3,f2,λb hb=>⟨x.let,List.mem_singleton.mpr rfl,s3 b (f3 b hb)⟩⟩
 | tup es =>
  rw[<-e2,hx]at hd;have hd':es=ds:=oq9 hd;subst hd';obtain⟨a,xs,bs,ev,q3,r3,h3,_⟩:=items ok (.inr hx);have q3:SqT Z.K H1 a xs:=by rcases q3 with⟨z,_⟩| ⟨_,z⟩;rw[hx]at z;cases z;exact z
  have again:∀H2:Hp,(∀t∈[x.let],t.ok Z.K H2)->∃ys cs,SqT Z.K H2 a ys/\RepA Z.K H2 true es ys cs/\∀b∈cs,b∈x.as:=λH2 hok=>by
   obtain⟨a',ys,cs,ev',q4,r4,h4,_⟩:=items (hok x.let (List.mem_singleton.mpr rfl)) (.inr hx);have:a'=a:=by have:=ev'.symm.trans ev;exact V.ref.inj this
   subst this;rcases q4 with⟨z,_⟩| ⟨_,z⟩
   ·rw[show x.let.d=D.tup es from hx]at z;cases z
   ·exact⟨ys,cs,z,r4,h4⟩
  refine .inr (.inl ⟨a,xs,ev,q3,λhlen=>k _ _ rfl (Itt Z.K a) [x.let] L1 H1 m1 wT sT (by rw[r3.len];exact hlen) (λhq=>(sm hq).1) ⟨λt ht=>by rw[List.mem_singleton.mp ht];rfl,λi H2 hok hi=>?_,λH2 hok=>?_,λi H2 v H3 d hok hy hdi=>?_⟩⟩)
  ·obtain⟨ys,cs,s1,s2,_⟩:=again H2 hok;have hl:=s2.len;exact⟨ys,ys[i]'(by omega),s1,X0 (by omega)⟩
  ·obtain⟨ys,cs,s1,s2,_⟩:=again H2 hok;exact⟨ys,s1,by rw[s2.len];exact X8 _⟩
  ·obtain⟨ys,cs,s1,s2,s3⟩:=again H2 hok;obtain⟨e3,hy⟩:=hy;subst e3;obtain⟨v',bs',f1,f2,f3⟩:=s2.get hdi;have:v'=v:=by have:=hy ys s1;rw[f1]at this;exact oq9 this
   subst this;exact⟨⟨.no,d,v',bs'⟩,rfl,rfl,rfl,jk3,f2,λb hb=>⟨x.let,List.mem_singleton.mpr rfl,s3 b (f3 b hb)⟩⟩
 | str z =>
  rw[<-e2,hx]at hd;have hd:(if z.cps.size<=big then some (z.cps.toList.map λc=>D.str ⟨#[c]⟩)else none)=some ds:=hd
  split at hd
  ·rename_i hz;cases oq9 hd;refine .inr (.inr ⟨z,(jqw ok hx).1,k _ _ rfl (Its z) [] L1 H1 m1 (by simpa using w1.tail) (by simpa using (st.trans Step.drop)) (by rw[X3,Y7];exact hz) (λhq=>(sm hq).1) ⟨λt ht=>(nomatch ht),λi H2 _ hi=>?_,λH2 _=>?_,λi H2 v H3 d _ hy hdi=>?_⟩⟩)
   ·show i<z.cps.size
    simpa using hi
   ·show(z.cps.toList.map λc=>D.str ⟨#[c]⟩).length=z.cps.size;simp
   ·obtain⟨e3,cc,hc,rfl⟩:=hy;subst e3;rw[Xi,Yi,hc]at hdi;cases oq9 hdi;exact⟨⟨.no,.str ⟨#[cc]⟩,.str ⟨#[cc]⟩,[]⟩,rfl,rfl,rfl,jk3,wjm cc,λb hb=>(nomatch hb)⟩
  ·cases hd
 | non=>rw[<-e2,hx]at hd;cases hd
 | bl _=>rw[<-e2,hx]at hd;cases hd
 | int _=>rw[<-e2,hx]at hd;cases hd
 | dct _=>rw[<-e2,hx]at hd;cases hd
 | obj _ _=>rw[<-e2,hx]at hd;cases hd
theorem qjz{K:PySem.W.Frag}(lo hi:Int):Walks K (Itr lo (hi - lo).toNat) [] (jj4 lo hi):=by
 have hl:(jj4 lo hi).length=(hi - lo).toNat:=by simp[jj4]
 refine⟨λt ht=>(nomatch ht),λi H _ hi'=>by rw[hl]at hi';exact hi',λH _=>by rw[hl];exact X8 _,λi H v H' d _ hy hd=>?_⟩;obtain⟨e,rfl⟩:=hy;subst e;unfold jj4 at hd;rw[Xi]at hd;cases hr:(List.range (hi - lo).toNat)[i]? with
 | none=>rw[hr]at hd;cases hd
 | some j =>
  rw[hr]at hd;have:j=i:=by
   obtain⟨_,h2⟩:=List.getElem?_eq_some_iff.mp hr
   simpa using h2.symm
  subst this;cases oq9 hd;exact⟨⟨.no,.int (lo+(j:Int)),.int (lo+(j:Int)),[]⟩,rfl,rfl,rfl,jk3,wjl _,λb hb=>(nomatch hb)⟩
theorem jxw{i:Int}(h:jkf i=true):-(2 ^ 62)<=i/\i<2 ^ 62:=by
 unfold jkf at h
 simpa using h
theorem kjn(ha:QV X Z q a ea)(hg:Gl X "range")(hm:X.mg "range"=none)(hst:starEach [ea] X.env=[(false,eval ea X.env)]:=by rfl):QI X Z q tg (kkk a) (.Call (.Name "range" p) [ea] [] pos):=λpins s σ H R I h_z=>ex8 h_z λE L r m w hc xc k=>by
 refine(qv6 hg hm (jko ha jqe hst) hst) pins s σ H R I ?_;refine jvj m w (show bnd (a E) _=some r from hc) xc λE1 s h1 x L1 H1 e1 e2 m1 w1 ok fr sr st sm=>?_
 cases hx:s.2 with
 | int j =>
  rw[hx]at h1;dsimp only at h1
  split at h1
  ·rename_i hj;cases oq9 h1;obtain⟨j1,j2⟩:=jxw hj.1;have hv:=jku ok (e2.trans hx);refine⟨j,by rw[hv],j1,j2,?_⟩;have wk:=qjz (K:=Z.K) 0 j;rw[Int.sub_zero]at wk;exact k _ _ rfl (Itr 0 j.toNat) [] L1 H1 m1 (by simpa using w1) (by simpa using st) (by simp only[jj4,X3,Ya,Int.sub_zero];exact hj.2) sm wk
  ·cases h1
 | _=>rw[hx]at h1;cases h1
theorem Mt.clr:∀{R:List Nat} {E:En} {L:Ls},Mt E σ L->Mt (Q.clr R E) σ (Q.clr R L)
 | [],_,_,m=>m
 | j::R,E,L,m=>by
  have un:∀{E:En} {σ:L2.St} {L:Ls} (j:Nat),Mt E σ L->Mt (E.set j none) σ (L.set j none):=by
   intro E σ L j m
   induction m generalizing j with
   | nil=>exact .nil
   | un m ih=>cases j with
    | zero=>exact .un m
    | succ j=>exact .un (ih j)
   | cons m ih=>cases j with
    | zero=>exact .un m
    | succ j=>exact .cons (ih j)
  show Mt (Q.clr R (E.set j none)) σ (Q.clr R (L.set j none));exact Mt.clr (un j m)
theorem Mt.drop:∀{E:En} {σ:L2.St} {L:Ls} (k:Nat),Mt E σ L->Mt (E.drop k) (σ.drop k) (L.drop k)
 | _,_,_,0,m=>m
 | _,_,_,k+1,.nil=>.nil
 | _,_,_,k+1,.un m=>m.drop k
 | _,_,_,k+1,.cons m=>m.drop k
theorem Mt.none_at:∀{E:En} {σ:L2.St} {L:Ls} {j:Nat},Mt E σ L->E[j]?=some none->L[j]?=some none
 | _,_,_,_,.nil,h=>by simp at h
 | _,_,_,0,.un _,_=>by simp
 | _,_,_,j+1,.un m,h=>by simpa using m.none_at (j:=j) (by simpa using h)
 | _,_,_,0,.cons _,h=>by simp at h
 | _,_,_,j+1,.cons m,h=>by simpa using m.none_at (j:=j) (by simpa using h)
theorem Mt.pick:∀{R:List Nat},Mt E σ L->Mt (R.map (at' E)) (R.map (at' σ)) (R.map (at' L))
 | [],_=>.nil
 | j::R,m=>by
  rw[List.map_cons,List.map_cons,List.map_cons];cases hE:E[j]? with
  | none =>
   have hl:=m.len;have:L[j]?=none:=by rw[List.getElem?_eq_none_iff]at hE ⊢;omega
   rw[show at' E j=none from by unfold at';rw[hE];rfl,show at' L j=none from by unfold at';rw[this];rfl];exact .un m.pick
  | some s =>
   cases s with
   | none =>
    have:L[j]?=some none:=m.none_at hE;rw[show at' E j=none from by unfold at';rw[hE];rfl,show at' L j=none from by unfold at';rw[this];rfl];exact .un m.pick
   | some s =>
    obtain⟨o,d⟩:=s;obtain⟨x,h1,h2,h3,h4⟩:=m.get hE;rw[show at' E j=some (x.o,x.d)from by unfold at';rw[hE,h2,h3];rfl,show at' L j=some x from by unfold at';rw[h1];rfl,show at' σ j=some x.v from by unfold at';rw[h4];rfl];exact .cons m.pick
theorem Mt.rep:∀{k:Nat},Mt E σ L->Mt (List.replicate k none++E) (List.replicate k none++σ) (List.replicate k none++L)
 | 0,m=>by simpa using m
 | k+1,m=>by
  rw[List.replicate_succ,List.replicate_succ,List.replicate_succ];exact .un m.rep
theorem Mt.back:∀{R:List Nat} {B:En} {τ:L2.St} {M:Ls} {E:En} {L:Ls},Mt E σ L->Mt B τ M->(∀(i j:Nat) (v:V),R[i]?=some j->τ[i]?=some (some v)->σ[j]?=some (some v))->Mt (Q.back R B E) σ (Q.back R M L)
 | [],B,τ,M,E,L,m,_,_=>by simpa [Q.back]using m
 | j::R,_,_,_,E,L,m,.nil,_=>by simpa [Q.back]using m
 | j::R,_,_,_,E,L,m,.un mB,h=>by
  have un:∀{E:En} {σ:L2.St} {L:Ls} (j:Nat),Mt E σ L->Mt (E.set j none) σ (L.set j none):=by
   intro E σ L j m
   induction m generalizing j with
   | nil=>exact .nil
   | un m ih=>cases j with
    | zero=>exact .un m
    | succ j=>exact .un (ih j)
   | cons m ih=>cases j with
    | zero=>exact .un m
    | succ j=>exact .cons (ih j)
  show Mt (Q.back R _ (E.set j none)) σ (Q.back R _ (L.set j none));exact Mt.back (un j m) mB λi jj v e1 e2=>h (i+1) jj v (by simpa using e1) (by simpa using e2)
 | j::R,_,_,_,E,L,m,.cons (x:=x) mB,h=>by
  have h0:=h 0 j x.v (by simp) (by simp);have m1:=m.set (x:=x) j;rw[jwc h0]at m1;show Mt (Q.back R _ (E.set j _)) σ (Q.back R _ (L.set j _));exact Mt.back m1 mB λi jj v e1 e2=>h (i+1) jj v (by simpa using e1) (by simpa using e2)
section
variable {iter elt:Expr}{ifs:List Expr}{scope:Scope}{N:List Str}{k:Nat}{R:List Nat}{it:Ev (List D)}{tt:Tg}{u:Ts}{o:Own}{q1 q2:Bool}
theorem vvy:qvw k R σ=List.replicate k none++R.map (at' σ):=rfl
theorem wvq{K:PySem.W.Frag}{M:Ls}(hR:R.Nodup)(w:World K H (L++M)):World K H ((List.replicate k none++R.map (at' L))++(Q.clr R L++M))/\Step H (L++M) H ((List.replicate k none++R.map (at' L))++(Q.clr R L++M)):=by
 have p:(sls (L++M)).Perm (sls ((List.replicate k none++R.map (at' L))++(Q.clr R L++M))):=by
  have:=qjm (R:=R) (L:=L) hR;rw[jvr]at this;simp only[jvr,vqd,List.nil_append];rw[<-Xr];exact(this.append_right _).symm
 exact⟨w.same p,Step.refl.same (List.Perm.refl _) p⟩
theorem wjw{K:PySem.W.Frag}{B:Ls}{M:Ls}{H2:Hp}(hR:R.Nodup)(hr:∀j∈R,j<L.length)(hB:B.length=k+R.length)(w:World K H2 (B++(Q.clr R L++M))):World K H2 (Q.back R (B.drop k) (Q.clr R L)++M)/\Step H2 (B++(Q.clr R L++M)) H2 (Q.back R (B.drop k) (Q.clr R L)++M):=by
 have p:=kx8 (R:=R) (B:=B.drop k) (L:=Q.clr R L) hR (λj hj=>qx0 hj) (λj hj=>by rw[qwz];exact hr j hj) (by rw[List.length_drop,hB];omega);have p2:(sls (Q.back R (B.drop k) (Q.clr R L)++M)).Perm (sls (B.drop k++(Q.clr R L++M))):=by
  rw[jvr,<-Xr,jvr (B.drop k++Q.clr R L)];exact p.append_right _
 have sub:(sls (B.drop k++(Q.clr R L++M))).Sublist (sls (B++(Q.clr R L++M))):=by
  rw[jvr,jvr B];refine List.Sublist.append ?_ (List.Sublist.refl _);unfold sls;exact(List.drop_sublist k B).filterMap _
 exact⟨(w.sub sub).same p2.symm,(Step.refl.sub sub).same (List.Perm.refl _) p2.symm⟩
theorem kjf:∀{is:List Nat} {es:List D} {E E':En},setAll is es E=some E'->E'.length=E.length
 | [],[],_,_,h=>by cases oq9 h;rfl
 | [],_::_,_,_,h=>by cases h
 | _::_,[],_,_,h=>by cases h
 | i::is,d::es,E,E',h=>by rw[kjf (E:=E.set i (some (.no,d))) h,List.length_set]
theorem vqu{t:Tg}{d:D}{E E':En}(h:t.put d E=some E'):E'.length=E.length:=by
 cases t with
 | n i=>cases oq9 h;rw[List.length_set]
 | t is =>
  cases d with
  | tup es=>exact kjf (show setAll is es E=some E' from h)
  | lst es=>exact kjf (show setAll is es E=some E' from h)
  | _=>cases h
theorem qvu{nN:Nat}{Q:VK}(hσ:σ.length=nN)(hR:R.Nodup)(hr:∀j∈R,j<nN)(h:tQ Z q (cLC o k R it tt u c) σ H Q):tLC (tIS Z q it) (tG Z ((List.range R.length).map (k + ·)) tt) (tT Z q u) (tQ Z q c) k R σ H Q:=by
 obtain⟨E,L,r,m,w,hcc,xc,kk⟩:=h;have hcc:bnd (it E) (λE ds=>match lcL tt u c ds (vw0 k R E) []with
  | some (.ok B xs)=>mkL o (kjw k R B E) xs
  | some (.exc B e)=>some (.exc (kjw k R B E) e)
  | none=>none)=some r:=hcc
 rcases jjx hcc with⟨E1,ds,h1,h2⟩| ⟨E1,cc,h1,h2⟩
 rotate_left
 ·exact⟨E,L,_,m,w,h1,xc.map h2,λE' s' z=>by cases z⟩
 refine⟨E,L,_,m,w,h1,(λ_ _ z=>by cases z),λE' ds' z J T L1 H1 m1 w1 st hz sm wk=>?_⟩;injection z with z1 z2;subst z1 z2;have hL1:∀j∈R,j<L1.length:=λj hj=>by have:=m1.len;have:=hr j hj;omega
 obtain⟨wB,sB⟩:=wvq (k:=k) hR w1;cases hrB:lcL tt u c ds (vw0 k R E1) []with
 | none=>rw[hrB]at h2;cases h2
 | some rB =>
  rw [hrB]at h2;have okT:∀{H2:Hp} {A B:Ls},World Z.K H2 (A++(B++(_root_.Q.clr R L1++T.map some)))->∀t∈T,t.ok Z.K H2:=λw2 t ht=>w2.ok t (lr9 _ (lr9 _ (lr9 _ (Xg ht))))
  have mB0:Mt (vw0 k R E1) (qvw k R σ) (List.replicate k none++R.map (at' L1)):=(m1.pick (R:=R)).rep;have home:∀{B:En} {LB:Ls} {τ:L2.St} {H2:Hp} {A:Ls},Mt B τ LB->τ.length=k+R.length->Pn ((List.range R.length).map (k + ·)) (qvw k R σ) τ->World Z.K H2 (LB++(A++(_root_.Q.clr R L1++T.map some))) ->
    Mt (kjw k R B E1) σ (_root_.Q.back R (LB.drop k) (_root_.Q.clr R L1))/\World Z.K H2 (A++_root_.Q.back R (LB.drop k) (_root_.Q.clr R L1))/\Step H2 (LB++(A++(_root_.Q.clr R L1++T.map some))) H2 (A++_root_.Q.back R (LB.drop k) (_root_.Q.clr R L1)):=fun {B LB τ H2 A} mB lB pB wB2=>by
   have hl:LB.length=k+R.length:=by rw[mB.len.2];exact lB
   have pm:(LB++(A++(_root_.Q.clr R L1++T.map some))).Perm (LB++(_root_.Q.clr R L1++(A++T.map some))):=by
    refine List.Perm.append_left _ ?_;rw [<-Xr,<-Xr];exact List.Perm.append_right _ List.perm_append_comm
   obtain⟨w3,s3⟩:=wjw (k:=k) hR hL1 hl (wB2.perm pm);have pm2:(_root_.Q.back R (LB.drop k) (_root_.Q.clr R L1)++(A++T.map some)).Perm ((A++_root_.Q.back R (LB.drop k) (_root_.Q.clr R L1))++T.map some):=by
    rw [<-Xr];exact List.Perm.append_right _ List.perm_append_comm
   refine⟨?_,(w3.perm pm2).left,(s3.perm pm.symm pm2).trans Step.dropT⟩;refine Mt.back (m1.clr) (mB.drop k) λi j v e1 e2=>?_
   have hi:i<R.length:=(List.getElem?_eq_some_iff.mp e1).1;have e3:=pB (k+i) (List.mem_map.mpr ⟨i,List.mem_range.mpr hi,rfl⟩);rw [List.getElem?_drop,e3,vvy,Xx (by simp),Yd,show k+i - k=i from by omega,Xi,e1]at e2;have e4:at' σ j=some v:=by simpa using e2
   unfold at' at e4;cases hh:σ[j]? with
   | none=>rw[hh]at e4;cases e4
   | some s=>rw[hh]at e4;rw[show s=some v from e4]
  refine⟨λi n ys τ H2=>∃(B:En) (LB:Ls) (acc:List Sl),Mt B τ LB/\τ.length=k+R.length/\Pn ((List.range R.length).map (k + ·)) (qvw k R σ) τ/\World Z.K H2 (LB++(acc.map some++(_root_.Q.clr R L1++T.map some)))/\Step H L H2 (LB++(acc.map some++(_root_.Q.clr R L1++T.map some))) /\
   ys=acc.map Sl.v/\lcL tt u c (ds.drop i) B (acc.map Sl.sd)=some rB/\i<=ds.length/\acc.length<=i/\n=ds.length - i/\(q=true->jqp H H2/\∀b∈jj6 (acc.map some),H b=none),⟨_,vw0 k R E1,_,[],mB0,by simp[qvw],Pn.refl,wB,st.trans sB,rfl,hrB,Y4 _,Y4 _,rfl,λhq=>⟨sm hq,λ_ z=>(nomatch z)⟩⟩,?_⟩
  rintro i n ys τ H2 ⟨B,LB,acc,mB,lB,pB,wB2,sB2,rfl,f1,hi,hacc,rfl,smB⟩
  by_cases hlt:i<ds.length
  rotate_left
  ·have e:i=ds.length:=by omega
   subst e;rw [List.drop_length]at f1;cases oq9 f1;obtain⟨m3,w3,s3⟩:=home mB lB pB wB2;refine .inl ⟨wk.stop H2 (okT wB2) (λhq=>(smB hq).1),by rw[X3];omega,?_⟩;exact qj6 (σ:=σ) (Q:=Q) (o:=o) (xs:=acc) h2 rfl w3 (sB2.trans s3) smB kk m3
  ·have hd:ds.drop i=ds[i]::ds.drop (i+1):=List.drop_eq_getElem_cons hlt;rw [hd]at f1;unfold lcL at f1;cases hput:tt.put ds[i] B with
   | none=>rw[hput]at f1;cases f1
   | some B2 =>
    rw [hput]at f1;dsimp only at f1;refine .inr ⟨wk.go i H2 (okT wB2) (λhq=>(smB hq).1) hlt,λv H3 hy=>?_⟩;obtain⟨z,zo,zd,zv,smz,zok,zas⟩:=wk.yld i H2 v H3 ds[i] (okT wB2) (λhq=>(smB hq).1) hy (X0 hlt);have pm:(LB++(acc.map some++(_root_.Q.clr R L1++T.map some))).Perm ((LB++(acc.map some++_root_.Q.clr R L1))++T.map some):=by
     rw[<-Xr (acc.map some),<-Xr]
    obtain⟨wz,sz⟩:=kq3 (wB2.perm pm) wk.no smz zok zo zas;have wz':World Z.K H3 ((some z::LB)++(acc.map some++(_root_.Q.clr R L1++T.map some))):=wz.perm (by
     rw[List.cons_append,List.cons_append];exact List.Perm.cons _ pm.symm)
    have sz':Step H2 (LB++(acc.map some++(_root_.Q.clr R L1++T.map some))) H3 ((some z::LB)++(acc.map some++(_root_.Q.clr R L1++T.map some))):=sz.perm pm.symm (by
     rw[List.cons_append,List.cons_append];exact List.Perm.cons _ pm.symm)
    refine⟨B,LB,z,B2,mB,wz'.left,zo,zv,by rw[zd];exact hput,fun τ2 LB2 p2 mB2 wB3 sB3=>?_⟩;obtain⟨w4,s4⟩:=stay wz' sB3 wB3;have lB2:τ2.length=k+R.length:=by
     have h1:=mB2.len.1;have h2:=mB.len.1;have h3:=vqu hput;omega
    have p3:=pB.trans p2;have sAll:Step H L H3 (LB2++(acc.map some++(_root_.Q.clr R L1++T.map some))):=sB2.trans (sz'.trans s4);have smAll:q=true->jqp H H3/\∀b∈jj6 (acc.map some),H b=none:=λhq=>⟨jj7 (smB hq).1 smz,(smB hq).2⟩
    refine⟨λy H5=>∃(B:En) (LB:Ls) (acc':List Sl),Mt B τ2 LB/\World Z.K H5 (LB++(acc'.map some++(_root_.Q.clr R L1++T.map some)))/\Step H L H5 (LB++(acc'.map some++(_root_.Q.clr R L1++T.map some)))/\acc.map Sl.v++[y]=acc'.map Sl.v/\acc'.length=acc.length+1/\lcL tt u c (ds.drop (i+1)) B (acc'.map Sl.sd)=some rB/\(q=true->jqp H H5/\∀b∈jj6 (acc'.map some),H b=none),
     λH5=>∃B LB,Mt B τ2 LB/\World Z.K H5 (LB++(acc.map some++(_root_.Q.clr R L1++T.map some)))/\Step H L H5 (LB++(acc.map some++(_root_.Q.clr R L1++T.map some)))/\lcL tt u c (ds.drop (i+1)) B (acc.map Sl.sd)=some rB/\(q=true->jqp H H5/\∀b∈jj6 (acc.map some),H b=none),
     λy H5 ⟨B5,LB5,acc5,c1,c2,c3,c4,c5,c6,c7⟩=>⟨by rw[X3];omega,ds.length - (i+1),by omega,B5,LB5,acc5,c1,lB2,p3,c2,c3,c4,c6,hlt,by omega,rfl,c7⟩,
     λH5 ⟨B5,LB5,c1,c2,c3,c6,c7⟩=>⟨ds.length - (i+1),by omega,B5,LB5,acc,c1,lB2,p3,c2,c3,rfl,c6,hlt,by omega,rfl,c7⟩,?_⟩
    have xcB:∀{α:Type} {H6:Hp} {L6:Ls} {B6:En} {cc:Str} {A:Ls},rB=.exc B6 cc->World Z.K H6 (L6++(A++(_root_.Q.clr R L1++T.map some)))->Step H L H6 (L6++(A++(_root_.Q.clr R L1++T.map some)))->Xc Z τ2 H6 L6 (.exc B6 cc:Res α):=fun {α H6 L6 B6 cc A} er w6 s6 E7 c7 e7 C L7 H7 hm m7 w7 s7=>by
     injection e7 with e8 e9;subst e8 e9;subst er;cases oq9 h2;obtain⟨w8,s8⟩:=stay w6 s7 w7;obtain⟨m9,w9,s9⟩:=home m7 lB2 p3 w8;exact xc _ _ rfl C _ H7 hm m9 w9.right ((s6.trans (s8.trans s9)).trans ⟨λ_ _ h _=>h,λa ha=>.inl (by rw[jj2];exact lr9 _ ha),λa ha=>.inl (by rw[jj5];exact lr9 _ ha)⟩)
    rcases jjx f1 with⟨B4,kb,g1,g2⟩| ⟨B4,cc,g1,g2⟩
    rotate_left
    ·exact⟨B2,LB2,_,mB2,wB3,g1,xcB g2 w4 sAll,λE' s' z=>by cases z⟩
    refine⟨B2,LB2,_,mB2,wB3,g1,(λ_ _ z=>by cases z),λE' s' z LB4 H4 mB4 wB4 sB4 sm4=>?_⟩;injection z with z1 z2;subst z1 z2;obtain⟨w5,s5⟩:=stay w4 sB4 wB4;have sAll4:=sAll.trans s5;cases kb with
    | false =>
     rw[Xj (by decide)]at g2 ⊢;exact⟨B4,LB4,mB4,w5,sAll4,g2,λhq=>⟨jj7 (smAll hq).1 (sm4 hq),(smAll hq).2⟩⟩
    | true =>
     rw[Xf rfl]at g2 ⊢;rcases jjx g2 with⟨B6,y,g3,g4⟩| ⟨B6,cc,g3,g4⟩
     rotate_left
     ·exact⟨B4,LB4,_,mB4,wB4,g3,xcB g4 w5 sAll4,λE' s' z=>by cases z⟩
     refine⟨B4,LB4,_,mB4,wB4,g3,(λ_ _ z=>by cases z),λE' s' z x LB6 H6 ex ey mB6 wB6 sB6 sm6=>?_⟩;injection z with z1 z2;subst z1 z2;obtain⟨w7,s7⟩:=stay w5 sB6 wB6;have pm3:((some x::LB6)++(acc.map some++(_root_.Q.clr R L1++T.map some))).Perm (LB6++((acc++[x]).map some++(_root_.Q.clr R L1++T.map some))):=by
      rw[Xs,List.cons_append];have:(LB6++(acc.map some++[x].map some++(_root_.Q.clr R L1++T.map some)))=(LB6++acc.map some)++some x::(_root_.Q.clr R L1++T.map some):=by simp
      rw[this];refine List.Perm.trans ?_ List.perm_middle.symm;rw[Xr]
     refine⟨B6,LB6,acc++[x],mB6,w7.perm pm3,(sAll4.trans s7).perm (List.Perm.refl _) pm3,by simp,by simp,?_,λhq=>⟨jj7 (smAll hq).1 (jj7 (sm4 hq) (sm6 hq).1),λb hb=>?_⟩⟩
     ·rw[Xs,show[x].map Sl.sd=[y]from by simp[Sl.sd,ex,ey]];exact g4
     ·rw[Xs,jj2]at hb;rcases List.mem_append.mp hb with hb | hb
      ·exact(smAll hq).2 b hb
      ·have hb:b∈x.own:=by simpa using hb
       exact jk4 (jj7 (smAll hq).1 (sm4 hq)) ((sm6 hq).2 b hb)
theorem qxm(N:List Str)(hi:QI X Z q tg it iter)
  (hg:∀cl C s0 H0 fp,QG (lcE X scope N cl C s0 H0 fp Z.EX) Z ((List.range R.length).map (k + ·)) tt tg) (ht:∀cl C s0 H0 fp,PTs (lcE X scope N cl C s0 H0 fp Z.EX) ifs (tT Z q u)) (he:∀cl C s0 H0 fp,QE (lcE X scope N cl C s0 H0 fp Z.EX) Z q c elt)
  (gx:qkr X Z.EX) (top:qku X) (hR:R.Nodup) (hr:∀j∈R,j<X.N.length) (hc:X.calm=true:=by rfl) (hk:scope.kind=.function:=by rfl) (hsc:qkf X.N X.env.scope scope N k R=true:=by rfl) (hs:∀x,foldedSetIterable iter X.env x=pure x:=by intro _;rfl):
  QE X Z q (cLC o k R it tt u c) (.ListComp elt [⟨tg,iter,ifs,0⟩] scope pos):=λpins s σ H Q I hw =>
 wj4 (EX:=Z.EX) N k R (wwp hi) hg ht he gx top hc hk hsc hs pins s σ H Q I (qvu I.len hR hr hw)
theorem qv1{EX:XK}{wi:TI}{g:TG}{tte:TT}{te:TE}{i:Nat}{y:Str}{py spos:Pos}(N:List Str)(k:Nat)(R:List Nat)(hN:X.N.Nodup)(hy:X.N[i]?=some y)(hx:Loc X.env.scope y)(hi:PI X tg iter wi)
  (hg:∀cl C s0 H0 fp,PG (lcE X scope N cl C s0 H0 fp EX) tg g) (ht:∀cl C s0 H0 fp,PTs (lcE X scope N cl C s0 H0 fp EX) ifs tte) (he:∀cl C s0 H0 fp,PE (lcE X scope N cl C s0 H0 fp EX) elt te) (gx:qkr X EX) (top:qku X)
  (hsw:swapsWith (.ListComp elt [⟨tg,iter,ifs,0⟩] scope pos) (some (.Name y py)) spos.line X.env=pure true:=by rfl)
  (hc:X.calm=true:=by rfl) (hk:scope.kind=.function:=by rfl) (hsc:qkf X.N X.env.scope scope N k R=true:=by rfl) (hs:∀x,foldedSetIterable iter X.env x=pure x:=by intro _;rfl)
  (hf:X.fn y=true\/X.env.scope.names.lookup y=some .local:=by first | exact .inl rfl | exact .inr rfl):
  PS X (.Assign [.Name y py] (.ListComp elt [⟨tg,iter,ifs,0⟩] scope pos) spos) (λD σ H=>tLC wi g tte te k R σ H λv H1=>D.nx (σ.set i (some v)) H1):=by
 intro pins s σ H D I h;have sc:=qj8 hk hsc;obtain⟨cl,hclos,hcl,hfree⟩:=kqb (scope:=scope) (env:=X.env) λy hy e=>I.ok.has y.1 (sc.caps y hy e)
 rw[exec_Assign_Name_used _ _ _ _ hsw];refine X1 (wpAny_standAt (X1 ?_));show wpAny _ X.A (do let _ <-comprehension (.ListComp elt [⟨tg,iter,ifs,0⟩] scope pos) scope X.env _ (newList []) false (eval iter X.env) (some (assign (.Name y py) X.env))) _ _ s;refine X1 (thn (wpAny_comprehension_free (use:=some (assign (.Name y py) X.env)) (Q:=λ_ s'=>SP X pins D .next s') rfl hs hclos sc.kind sc.names
  (thn (hi pins s σ H _ I h) λv s1 h1=>thn h1 λitv s2 h2=>?_)) λ_ s' hq=>X5 (X5 hq))
 obtain⟨it,fp,tn,J,H2,e,I2,T,st2,f2,W,w0,turn⟩:=h2;subst e;refine kwo (EX:=EX) (RR:=λacc C=>compPost (model X.prog X.w) X.A X.xe (some (assign (.Name y py) X.env)) (λ_ s'=>SP X pins D .next s') acc C) hc top sc hcl hfree (hg cl) (ht cl) (he cl) I2 T st2 f2 w0 turn ?_ ?_
 rotate_left
 ·intro D' C s' pins' σ' H' x T Cc fl hC t q;exact vkb gx I2 f2 hC t q
 intro L C oC m ys H' s' I' eC nC fC q;show wpAny _ X.A (assign (.Name y py) X.env (.ref L)) _ _ s';refine wpAny_assign_Name (kj2 I' hN hy hx (v:=.ref L) rfl (λs'' I''=>?_) hf);have pC:=I''.pin (C,oC) (lr9 _ (lr9 _ (List.mem_singleton.mpr rfl)));refine⟨m,nC.at' λo e=>?_,λh' sb=>⟨_,_,I''.unpinned.turned (it:=C) (t':=s''.toks) (λb o hb e=>(sb.2 b hb).trans e) fC.1 fC.2.1 fC.2.2.2.1 fC.2.2.2.2.1 fC.2.2.2.2.2,q⟩⟩;rw[eC]at e;cases e;exact pC.1
theorem kqu{i:Nat}{y:Str}{py spos:Pos}(N:List Str)(hN:X.N.Nodup)(hy:X.N[i]?=some y)(hx:Loc X.env.scope y)(hi:QI X Z q tg it iter)
  (hg:∀cl C s0 H0 fp,QG (lcE X scope N cl C s0 H0 fp Z.EX) Z ((List.range R.length).map (k + ·)) tt tg) (ht:∀cl C s0 H0 fp,PTs (lcE X scope N cl C s0 H0 fp Z.EX) ifs (tT Z q u)) (he:∀cl C s0 H0 fp,QE (lcE X scope N cl C s0 H0 fp Z.EX) Z q c elt)
  (gx:qkr X Z.EX) (top:qku X) (hR:R.Nodup) (hr:∀j∈R,j<X.N.length) (hp:i∉pn:=by decide)
  (hsw:swapsWith (.ListComp elt [⟨tg,iter,ifs,0⟩] scope pos) (some (.Name y py)) spos.line X.env=pure true:=by rfl)
  (hc:X.calm=true:=by rfl) (hk:scope.kind=.function:=by rfl) (hsc:qkf X.N X.env.scope scope N k R=true:=by rfl) (hs:∀x,foldedSetIterable iter X.env x=pure x:=by intro _;rfl)
  (hf:X.fn y=true\/X.env.scope.names.lookup y=some .local:=by first | exact .inl rfl | exact .inr rfl):
  QS X Z pn (jjk i (cLC o k R it tt u c)) (.Assign [.Name y py] (.ListComp elt [⟨tg,iter,ifs,0⟩] scope pos) spos):=
 vzo (q:=q) hp λpins s σ H D I hw=>qv1 N k R hN hy hx (wwp hi) hg ht he gx top hsw hc hk hsc hs hf pins s σ H D I (qvu I.len hR hr hw)
end
end
section
variable {X:Cx}{Z:Fx0}{K:PySem.W.Frag}{pn:List Nat}{q qa qb:Bool}{a b c:Ex}{u:Ts}{tg e ea eb:Expr}{σ:L2.St}{H:Hp}{L:Ls}{E:En}{pos p:Pos}{x:Str}{id T:String}{r:List V->Hp->VK->Prop}{f:Sd->Option Sd}{g:Sd->Sd->Option Sd}
theorem kjm:PTs X [] (tT Z q _root_.Q.tYes):=λpins s σ H Q I h_z=>ex8 h_z λE L r m w hc xc k=>by
 cases oq9 hc;exact vqw pins s σ H Q I (k _ _ rfl L H m w Step.refl λ_=>jk3)
theorem vqn(h:QT X Z q u e):PTs X [e] (tT Z q u):=vqv h
theorem vju(hc:CallR X (.builtin id) r)(ad:Ad1 Z.K (λv H Q=>r [v] H Q) f)(ha:QV X Z q a ea)(hm:X.mg x=none)(hv:bootBuiltins x=some (.builtin id))(hg:Gl X x:=by rfl)(hn:x≠"__name__":=by decide)(hdb:(x==("__debug__":Str))=false:=by decide)
  (he:starEach [ea] X.env=(false,eval ea X.env)::starEach [] X.env:=by rfl) (hpl:(backTo pos (starEach [] X.env)).any (·.1)=false:=by rfl):QE X Z q (cF1 f a) (.Call (.Name x p) [ea] [] pos):=
 jki (qzn hc hg hm hv (jko ha jqe he) hn hdb he hpl) fun σ H Q h=>qjv (r:=λv H Q=>r [v] H Q) ad h
theorem qxl(hc:CallR X (.type T) r)(ad:Ad1 Z.K (λv H Q=>r [v] H Q) f)(ha:QV X Z q a ea)(hm:X.mg x=none)(hv:bootBuiltins x=some (.type T))(hg:Gl X x:=by rfl)(hn:x≠"__name__":=by decide)(hdb:(x==("__debug__":Str))=false:=by decide)
  (he:starEach [ea] X.env=(false,eval ea X.env)::starEach [] X.env:=by rfl) (hpl:(backTo pos (starEach [] X.env)).any (·.1)=false:=by rfl):QE X Z q (cF1 f a) (.Call (.Name x p) [ea] [] pos):=
 jki (qvb hc hg hm hv (jko ha jqe he) hn hdb he hpl) fun σ H Q h=>qjv (r:=λv H Q=>r [v] H Q) ad h
theorem wq2:Ad1 K (λv H Q=>qqo K [v] H Q) (pu1 jqz):=by
 intro H x s Q ok hf k;unfold pu1 at hf;have fin:∀n:Nat,jqz x.d=some (.int n)->Q (.int n) H:=λn e=>by
  rw[show(x.o,x.d).2=x.d from rfl,e]at hf;cases oq9 hf;exact k ⟨.dp,.int n,.int n,[]⟩ H rfl rfl vk2
 cases hx:x.d with
 | lst ds =>
  obtain⟨l,xs,bs,e,q,r,_⟩:=items ok (.inl hx);refine .inl ⟨l,xs,by rw[e],?_,by rw[<-r.len];exact fin ds.length (by rw[hx];rfl)⟩;rcases q with⟨_,z⟩| ⟨_,z⟩
  ·exact .inl (kjl z)
  ·exact .inr z
 | tup ds =>
  obtain⟨l,xs,bs,e,q,r,_⟩:=items ok (.inr hx);refine .inl ⟨l,xs,by rw[e],?_,by rw[<-r.len];exact fin ds.length (by rw[hx];rfl)⟩;rcases q with⟨_,z⟩| ⟨_,z⟩
  ·exact .inl (kjl z)
  ·exact .inr z
 | str z =>
  obtain⟨e,hz⟩:=jqw ok hx;exact .inr (.inl ⟨z,by rw[e],hz,fin z.length (by rw[hx];rfl)⟩)
 | _=>rw[show(x.o,x.d).2=x.d from rfl,hx]at hf;cases hf
theorem vkx:Ad1 K (λv H Q=>qqp [v] H Q) (pu1 vki):=by
 intro H x s Q ok hf k;unfold pu1 vki at hf;dsimp only at hf
 split at hf
 ·rename_i i e;cases oq9 hf;exact .inl ⟨i,by rw[jku ok e],k ⟨.dp,.int _,.int _,[]⟩ H rfl rfl vk2⟩
 ·rename_i i e;cases oq9 hf;exact .inr (.inl ⟨i,by rw[qkd ok e],k ⟨.dp,.int _,.int _,[]⟩ H rfl rfl vk2⟩)
 ·rename_i z e
  split at hf
  ·rename_i hz;cases ht:PySem.intText? z with
   | none=>rw[ht]at hf;cases hf
   | some n =>
    rw[ht]at hf;cases oq9 hf;exact .inr (.inr ⟨z,n,by rw[(jqw ok e).1],ht,hz,k ⟨.dp,.int _,.int _,[]⟩ H rfl rfl vk2⟩)
  ·cases hf
 ·cases hf
theorem kkf:Ad1 K (λv H Q=>qqn K [v] H Q) jze:=by
 intro H x s Q ok hf k;unfold jze at hf;dsimp only at hf
 split at hf
 ·rename_i ds e
  split at hf
  ·rename_i hl;cases oq9 hf;obtain⟨l,xs,bs,ev,q3,r3,h3⟩:=jjs ok (.inl e) hl;have q3:LsR K H l xs:=by rcases q3 with⟨_,z⟩| ⟨z,_⟩;exact z;rw[e]at z;cases z
   exact⟨l,xs,by rw[ev],.inl (kjl q3),λp hp=>k ⟨.rt,.lst ds,.ref p,p::bs⟩ _ rfl rfl (jv6 hp r3 h3)⟩
  ·cases hf
 ·rename_i ds e
  split at hf
  ·rename_i hl;cases oq9 hf;obtain⟨l,xs,bs,ev,q3,r3,h3⟩:=jjs ok (.inr e) hl;have q3:SqT K H l xs:=by rcases q3 with⟨z,_⟩| ⟨_,z⟩;rw[e]at z;cases z;exact z
   exact⟨l,xs,by rw[ev],.inr q3,λp hp=>k ⟨.rt,.lst ds,.ref p,p::bs⟩ _ rfl rfl (jv6 hp r3 h3)⟩
  ·cases hf
 ·cases hf
def kzv(K:PySem.W.Frag):List V->Hp->VK->Prop:=λxs H Q=>∃p ys,xs=[.ref p]/\((SqL K H p ys/\∀l,H l=none->Q (.ref l) (upd H l (.tup ys)))\/(SqT K H p ys/\Q (.ref p) H))
theorem qx6(hK:X.K=K):CallR X (.type "tuple") (kzv K):=by subst hK;exact kvm
theorem vjk:Ad1 K (λv H Q=>kzv K [v] H Q) jqi:=by
 intro H x s Q ok hf k;unfold jqi at hf;dsimp only at hf
 split at hf
 ·rename_i ds e
  split at hf
  ·rename_i hl;cases oq9 hf;obtain⟨l,xs,bs,ev,q3,r3,h3⟩:=jjs ok (.inl e) hl;have q3:LsR K H l xs:=by rcases q3 with⟨_,z⟩| ⟨z,_⟩;exact z;rw[e]at z;cases z
   exact⟨l,xs,by rw[ev],.inl ⟨kjl q3,λp hp=>k ⟨.no,.tup ds,.ref p,bs⟩ _ rfl rfl (jz9 hp r3 h3)⟩⟩
  ·cases hf
 ·rename_i ds e
  split at hf
  ·rename_i hl;cases oq9 hf;obtain⟨l,xs,bs,ev,q3,r3,h3⟩:=jjs ok (.inr e) hl;have q3:SqT K H l xs:=by rcases q3 with⟨z,_⟩| ⟨_,z⟩;rw[e]at z;cases z;exact z
   refine⟨l,xs,by rw[ev],.inr ⟨q3,k ⟨.no,.tup ds,.ref l,bs⟩ H rfl rfl ⟨jk3,?_,λb hb=>(nomatch hb),Xv,λb hb=>h3 b hb⟩⟩⟩;show RepL K H true (.tup ds) (.ref l) bs;unfold RepL;exact⟨l,xs,rfl,q3,r3⟩
  ·cases hf
 ·cases hf
theorem qxc{g:Bool}:∀{ds:List D} {bs:List Bool} {xs:List V} {as:List Addr},bls ds=some bs->RepA K H g ds xs as->xs=bs.map V.bl
 | [],bs,xs,as,h,r=>by
  cases oq9 h;unfold RepA at r;exact r.1
 | d::ds,bs,xs,as,h,r=>by
  cases d with
  | bl b =>
   unfold bls at h;cases hb:bls ds with
   | none=>rw[hb]at h;cases h
   | some bs' =>
    rw[hb]at h;cases oq9 h;unfold RepA at r;obtain⟨x,rr,c1,c2,rfl,rfl,h1,h2⟩:=r;unfold RepL at h1;rw[h1.1,qxc hb h2];rfl
  | _=>unfold bls at h;cases h
theorem wq3:Ad1 K (λv H Q=>wv1 K [v] H Q) (pu1 wkm):=by
 intro H x s Q ok hf k;unfold pu1 wkm at hf;dsimp only at hf
 split at hf
 ·rename_i ds e;cases hb:bls ds with
  | none=>rw[hb]at hf;cases hf
  | some bs =>
   rw[hb]at hf;cases oq9 hf;obtain⟨l,xs,cs,ev,q3,r3,_⟩:=items ok (.inl e);have q3:LsR K H l xs:=by rcases q3 with⟨_,z⟩| ⟨z,_⟩;exact z;rw[e]at z;cases z
   exact⟨l,bs,by rw[ev],by rw[<-qxc hb r3];exact kjl q3,k ⟨.dp,.bl _,.bl _,[]⟩ H rfl rfl qj0⟩
 ·cases hf
theorem kkd{g:Int->Int->Bool}:∀x y s,pu2 (c2 g) x y=some s->∃k,s.2=.bl k:=by
 intro x y s h;unfold pu2 c2 at h
 split at h
 ·cases oq9 h;exact⟨_,rfl⟩
 ·cases h
theorem jzi:∀x y s,pu2 fEq x y=some s->∃k,s.2=.bl k:=by
 intro x y s h;unfold pu2 fEq at h
 split at h
 ·cases oq9 h;exact⟨_,rfl⟩
 ·cases h
theorem vkj{x y d:D}(h:fIn x y=some d):∃k,d=.bl k:=by
 unfold fIn at h
 split at h
 ·split at h
  ·cases oq9 h;exact⟨_,rfl⟩
  ·cases h
 ·split at h
  ·cases oq9 h;exact⟨_,rfl⟩
  ·cases h
 ·split at h
  ·cases oq9 h;exact⟨_,rfl⟩
  ·cases h
 ·cases oq9 h;exact⟨_,rfl⟩
 ·cases h
theorem vww:∀x y s,pu2 qkt x y=some s->∃k,s.2=.bl k:=by
 intro x y s h;unfold pu2 qkt at h
 split at h
 ·cases h
 ·cases hf:fIn x.2 y.2 with
  | none=>rw[hf]at h;cases h
  | some d =>
   rw[hf]at h;cases oq9 h;exact vkj hf
theorem qjs:∀x y s,pu2 jkt x y=some s->∃k,s.2=.bl k:=by
 intro x y s h;unfold pu2 jkt kwt at h
 split at h
 ·cases h
 ·cases hf:fIn x.2 y.2 with
  | none=>rw[hf]at h;cases h
  | some d =>
   obtain⟨k,rfl⟩:=vkj hf;rw[hf]at h;cases oq9 h;exact⟨_,rfl⟩
theorem qxd:∀x y s,f2First fIsNon x y=some s->∃k,s.2=.bl k:=by
 intro x y s h;unfold f2First fIsNon at h
 split at h
 ·cases oq9 h;exact⟨_,rfl⟩
 ·cases h
theorem kvn:∀x y s,f2First fNotNon x y=some s->∃k,s.2=.bl k:=by
 intro x y s h;unfold f2First fNotNon at h
 split at h
 ·cases oq9 h;exact⟨_,rfl⟩
 ·cases h
theorem kql:∀{xs:List V} {us:List Value},xs.length=us.length->(∀(i:Nat) (x:V) (u:Value),xs[i]?=some x->us[i]?=some u->RelV x u)->Vals xs us
 | [],[],_,_=>.nil
 | [],_::_,h,_=>by simp at h
 | _::_,[],h,_=>by simp at h
 | x::xs,u::us,h,f=>.cons (f 0 x u (by simp) (by simp)) (kql (by simpa using h) λi x u e1 e2=>f (i+1) x u (by simpa using e1) (by simpa using e2))
theorem vzk{p2 pos2:Pos}(ha:QV X Z q a ea)(hmr:X.mg "range"=none)(hml:X.mg "list"=none)(hc:X.calm=true:=by rfl)(hgr:Gl X "range":=by rfl)(hgl:Gl X "list":=by rfl)
  (hst:starEach [ea] X.env=(false,eval ea X.env)::starEach [] X.env:=by rfl) (hpl:(backTo pos2 (starEach [] X.env)).any (·.1)=false:=by rfl)
  (hst2:starEach [.Call (.Name "range" p2) [ea] [] pos2] X.env=(false,eval (.Call (.Name "range" p2) [ea] [] pos2) X.env)::starEach [] X.env:=by rfl) (hpl2:(backTo pos (starEach [] X.env)).any (·.1)=false:=by rfl):
  QE X Z q (vkn a) (.Call (.Name "list" p) [.Call (.Name "range" p2) [ea] [] pos2] [] pos):=by
 have hr:PE X (.Call (.Name "range" p2) [ea] [] pos2) (fun σ H Q=>tV Z q a σ H λv H1=>∃j:Int,v=.int j/\∀pp,H1 pp=none->Q (.ref pp) (upd H1 pp (.rng 0 j))):=by
  intro pins s σ H Q I h;refine Call_ (jxg I hgr hmr boot_range (Xz (thn (jko ha jqe hst pos2 pins s σ H (λvs H1=>∃j:Int,vs=[.int j]/\∀pp,H1 pp=none->Q (.ref pp) (upd H1 pp (.rng 0 j))) I ?_) λus s1 ⟨vs,H1,I1,r1,j,e,q1⟩=>?_) hst hpl))
  ·obtain⟨E,L,r,m,w,hcc,xc,k⟩:=h;exact⟨E,L,r,m,w,hcc,xc,λE' s' z x L' H' e1 e2 m' w' ok fr sr st sm=>by
    obtain⟨j,ej,qj⟩:=k E' s' z x L' H' e1 e2 m' w' ok fr sr st sm;exact⟨j,by rw[ej],qj⟩⟩
  ·subst e;obtain⟨u,rfl,t,rfl⟩:=r1.one;refine call_range_1 ⟨.ref s1.heap.objs.size,_,I1.laid (o:=.rng 0 j) (λb o e=>X6 _ e) (X8 _) ⟨_,_,_,Xl _ rfl⟩,rfl,q1 _ I1.fresh⟩
 intro pins s σ H Q I ⟨E,L,r,m,w,hcc,xc,k⟩;refine Ys (jxg I hgl hml jwb ?_);refine Xz (thn (jko hr jqe hst2 pos pins s σ H (λvs H1=>∃pp j,vs=[.ref pp]/\H1 pp=some (.rng 0 j)/\jkf j=true/\j.toNat<=big/\∀l,H1 l=none->Q (.ref l) (upd H1 l (.lst ((List.range j.toNat).map λ(i:Nat)=>V.int (0+(i:Int)))))) I ?_) λus s1 ⟨vs,H1,I1,r1,pp,j,e,hp,h62,hbig,q1⟩=>?_) hst2 hpl2
 ·refine jvj m w (show bnd (a E) _=some r from hcc) xc λE1 s h1 x L1 H1 e1 e2 m1 w1 ok fr sr st sm=>?_
  cases hx:s.2 with
  | int j =>
   rw [hx]at h1;dsimp only at h1
   split at h1
   ·rename_i hj;cases oq9 h1;refine⟨j,jku ok (e2.trans hx),λpp hpp=>⟨pp,j,rfl,jjy,hj.1,hj.2,λl hl=>?_⟩⟩;have s1:jqp H1 (upd H1 pp (.rng 0 j)):=jjp hpp;have w2:World Z.K (upd H1 pp (.rng 0 j)) L1:=⟨λx hx=>RepO.kp (w1.ok x hx) (Kp.of_same s1),w1.nd,w1.ds⟩;have st2:Step H L (upd H1 pp (.rng 0 j)) L1:=st.trans ⟨λb ob z _=>s1 b ob z,λb z=>.inl z,λb z=>.inl z⟩;have ra:∀(n:Nat) (ns:List Nat) (Hx:Hp),RepA Z.K Hx true (ns.map λ(i:Nat)=>D.int (0+(i:Int))) (ns.map λ(i:Nat)=>V.int (0+(i:Int))) []:=by
     intro n ns Hx
     induction ns with
     | nil=>unfold RepA;exact⟨rfl,rfl⟩
     | cons i ns ih =>
      rw[List.map_cons,List.map_cons];unfold RepA;exact⟨_,_,[],[],rfl,rfl,jq1,ih⟩
    have o:=jv6 (K:=Z.K) (H:=upd H1 pp (.rng 0 j)) (fr:=[]) hl (ra 0 (List.range j.toNat) (upd H1 pp (.rng 0 j))) (λ_ z=>(nomatch z));obtain⟨w3,st3⟩:=jky w2 st2 o (λ_ z=>(nomatch z)) (λ_ z=>(nomatch z)) (λ_ z=>(nomatch z));refine k _ _ rfl ⟨.rt,.lst (jj4 0 j),.ref l,[l]⟩ L1 _ rfl rfl m1 (by simpa [jj4]using w3) (by simpa [jj4]using st3) λhq=>⟨jj7 (sm hq) (jj7 s1 o.same),λb hb=>?_⟩
    have:b=l:=by simpa [Sl.own]using hb
    subst this;exact jk4 (jj7 (sm hq) s1) hl
   ·cases h1
  | _=>rw[hx]at h1;cases h1
 ·subst e;obtain⟨u,rfl,rx⟩:=r1.one;cases rx;obtain⟨t1,t2,t3,hg⟩:=(show ObjOk X.prog X.w H1 s1.heap pp (.rng 0 j)from I1.hok pp _ hp);obtain⟨j1,j2⟩:=jxw h62;have e2:Builtin.Range.rangeSize 0 j 1=((j.toNat:Nat):Int):=by rw[rangeSize_one];split<;>omega
  refine call_list_range (n:=j.toNat) (I1.ok.hd hc) (show IsRange s1.heap pp 0 j 1 t1 t2 t3 from hg) (small_one (by omega) (by omega) j1 j2) e2 hbig λh' tk acc' c' kp e4 hit=>?_
  obtain⟨hs,hg2⟩:=hit;have hv:Vals ((List.range j.toNat).map λ(i:Nat)=>V.int (0+(i:Int))) acc'.toList:=kql (by simp[hs]) λi x u ex eu=>by
   rw[Yi]at eu;obtain⟨t,rfl⟩:=hg2 i u eu;rw[Xi]at ex;cases hr:(List.range j.toNat)[i]? with
   | none=>rw[hr]at ex;cases ex
   | some m =>
    rw[hr]at ex;have hm:m=i:=by
     obtain⟨_,h2⟩:=List.getElem?_eq_some_iff.mp hr
     simpa using h2.symm
    subst hm;cases oq9 ex;exact⟨t,by rw[Int.mul_one]⟩
  refine⟨.ref s1.heap.objs.size,_,I1.laid (a:=s1.heap.objs.size) (o:=.lst ((List.range j.toNat).map λ(i:Nat)=>V.int (0+(i:Int)))) (t':=tk) kp (X8 _) ⟨by rw[X3,Ya];exact hbig,acc'.toList,c',hv,by simpa using e4⟩,rfl,q1 _ I1.fresh⟩
end
end Q
noncomputable section
namespace Q
open PySem
def qqj(n d:Nat):Option Int->Nat
 | none=>d
 | some v=>if v<0 then(v+(n:Int)).toNat else min v.toNat n
def qxp(xs:List D)(lo hi:Option Int):List D:=(xs.drop (qqj xs.length 0 lo)).take (qqj xs.length xs.length hi - qqj xs.length 0 lo)
def fSl:Sd->Option Int->Option Int->Option Sd:=λx lo hi=>match x.2 with
 | .lst xs=>if jq0 x then some (.rt,.lst (qxp xs lo hi))else none
 | .tup xs=>if jq0 x/\¬(qqj xs.length 0 lo=0/\qqj xs.length xs.length hi=xs.length)then some (.no,.tup (qxp xs lo hi))else none
 | .str z=>if(Txt.slice z lo hi).length<=big then some (.dp,.str (Txt.slice z lo hi))else none
 | _=>none
def kz4:Option Ex->Ev (Option Int)
 | none,E=>some (.ok E none)
 | some c,E=>bnd (c E) λE x=>match x.2 with
  | .int i=>some (.ok E (some i))
  | _=>none
def cSl(a:Ex)(lo hi:Option Ex):Ex:=λE=>bnd (a E) λE x=>bnd (kz4 lo E) λE l=>bnd (kz4 hi E) λE h=>val E (fSl x l h)
def jvp:Nat->List D->List D
 | _,[]=>[]
 | k,d::ds=>.tup [.int k,d]::jvp (k+1) ds
def kvu:List D->List D->List D
 | a::x,b::y=>.tup [a,b]::kvu x y
 | _,_=>[]
def lstOf:D->Option (List D)
 | .lst xs=>some xs
 | _=>none
def qzx(c:Ex):Ev (List D):=λE=>bnd (c E) λE x=>val E ((lstOf x.2).map (jvp 0))
def qw5(c d:Ex):Ev (List D):=λE=>bnd (c E) λE x=>bnd (d E) λE y=>val E ((lstOf x.2).bind λxs=>(lstOf y.2).bind λys=>if xs.length<=big then some (kvu xs ys)else none)
def kkm:List D->Option (List Str)
 | []=>some []
 | .str z::ds=>(kkm ds).map (z :: ·)
 | _=>none
def kjz:List D->Option (List Int)
 | []=>some []
 | .int z::ds=>(kjz ds).map (z :: ·)
 | _=>none
def qzz(a:Str):List Str->List Str
 | []=>[a]
 | b::r=>if Spec.ltCps b.cps.toList a.cps.toList then b::qzz a r else a::b::r
def kjc:List Str->List Str
 | []=>[]
 | a::r=>qzz a (kjc r)
def insI(a:Int):List Int->List Int
 | []=>[a]
 | b::r=>if b<a then b::insI a r else a::b::r
def kxe:List Int->List Int
 | []=>[]
 | a::r=>insI a (kxe r)
def jzd:Sd->Option Sd:=λx=>match x.2 with
 | .lst ds=>(match kkm ds with
  | some ss=>if ss.length<64 then some (.rt,.lst ((kjc ss).map .str))else none
  | none=>(match kjz ds with
   | some is=>if is.length<64 then some (.rt,.lst ((kxe is).map .int))else none
   | none=>none))
 | _=>none
def qjk:D->D->Option D:=λxs x=>match xs with
 | .lst ys=>if x.flat 30&&D.flats 30 ys then(ys.findIdx? λz=>peq z x).map λ(j:Nat)=>D.int (j:Int)else none
 | .tup ys=>if x.flat 30&&D.flats 30 ys then(ys.findIdx? λz=>peq z x).map λ(j:Nat)=>D.int (j:Int)else none
 | _=>none
def isSq:D->Bool
 | .lst _=>true
 | .tup _=>true
 | _=>false
def wkv(a b:Ex):Ex:=λE=>bnd (a E) λE x=>if isSq x.2 then bnd (b E) λE y=>val E (pu2 qjk x y)else none
def cPop(i:Nat)(c:Ex):Ex:=λE=>if qzy E[i]? then bnd (c E) λE x=>match E[i]?,x.2 with
 | some (some (o,.lst xs)),.int k=>if o=.no then none else(match ixN xs.length k with
  | some j=>(match xs[j]? with
   | some d=>if d.pure&&jkf k then some (.ok (E.set i (some (o,.lst (xs.eraseIdx j)))) (.dp,d))else none
   | none=>none)
  | none=>none)
 | _,_=>none
 else none
def jjt:Sd->Sd->Option Sd:=λx y=>match x.2,y.2 with
 | .tup a,.int k=>if -(2 ^ 63)<=k/\k<2 ^ 63/\a.length*k.toNat<=big/\jq0 x then some (.no,.tup (List.replicate k.toNat a).flatten)else none
 | _,_=>qwt x y
def sRz(c:Str):Sm:=λE=>some (.xc E c)
def jxp(f:Fn)(cs:List Ex):Ex:=λE=>match jq4 cs E with
 | some (.ok E xs)=>(match f (letAll xs)with
  | some (.ok _ y)=>some (.ok E y)
  | some (.exc _ c)=>some (.exc E c)
  | none=>none)
 | _=>none
def wvs:D->Bool
 | .tup _=>true
 | _=>false
def jqy(x:D):Bool:=jq5 6 x&&wvs x
def qx8(kc vc:Ex):Ex:=λE=>bnd (kc E) λE k=>bnd (vc E) λE v=>if jqy k.2=true then some (.ok E (.rt,.dct [(k.2,v.2)]))else none
def jxk:Sd->Option Sd:=λx=>match x.2 with
 | .dct kvs=>if kvs.length<=big/\unm kvs=true then some (.rt,.lst (kvs.map (·.1)))else none
 | _=>none
end Q
noncomputable section
namespace Q
open PySem
def kw1(is:List Int):Bool:=is.all λi=>decide (0<=i)&&decide (i<=1000000)
def vxb:D->Option D:=λd=>match d with
 | .lst ds=>(match kjz ds with
  | some is=>if kw1 is=true/\is.length<=100000 then some (.int is.sum)else none
  | none=>none)
 | _=>none
def qkk(d e:D):Option D:=match d,e with
 | .bl a,.bl b=>some (.bl (!(a==b)))
 | _,_=>none
end Q
noncomputable section
namespace Q
open PySem
def ww1(z:Str):D->Option D:=λd=>match d with
 | .lst ds=>(match kkm ds with
  | some ys=>if(ys.map (·.length)).sum+ys.length*z.length<=100000 then some (.str (Txt.join z ys))else none
  | none=>none)
 | _=>none
def ww7(z:Str)(c:Ex):Ex:=λE=>bnd (c E) λE x=>val E ((ww1 z x.2).map λd=>(.dp,d))
end Q
noncomputable section
noncomputable section
noncomputable section
namespace Q
open PySem
def D.at:List Nat->D->Option D
 | [],d=>some d
 | n::p,.tup ds=>match ds[n]? with
  | some d=>D.at p d
  | none=>none
 | n::p,.lst ds=>match ds[n]? with
  | some d=>D.at p d
  | none=>none
 | _::_,_=>none
def D.put(d':D):List Nat->D->D
 | [],_=>d'
 | n::p,.tup ds=>match ds[n]? with
  | some d=>.tup (ds.set n (D.put d' p d))
  | none=>.tup ds
 | n::p,.lst ds=>match ds[n]? with
  | some d=>.lst (ds.set n (D.put d' p d))
  | none=>.lst ds
 | _::_,d=>d
mutual
def D.dat:D->PyData
 | .non=>.none
 | .bl b=>.bool b
 | .int i=>.int i
 | .str z=>.str z
 | .tup ds=>.tuple (D.dats ds)
 | .lst ds=>.list (D.dats ds)
 | .dct _=>.none
 | .obj _ _=>.none
def D.dats:List D->List PyData
 | []=>[]
 | d::ds=>D.dat d::D.dats ds
end
def wkb:D->Bool
 | .tup _=>true
 | .lst _=>true
 | _=>false
def qxo(d:D):Option D:=if wkb d=true/\d.flat 40=true/\(D.dat d).showable=true/\(D.dat d).shown.length<=sizeLine then some (.str (D.dat d).shown)else none
def kwu:D->Option D
 | .dct kvs=>if unm kvs=true then some (.int kvs.length)else none
 | _=>none
def wqe:Option (Option Sd)->Bool
 | some (some (.rt,.dct kvs))=>unm kvs
 | _=>false
def kwp(kvs:List (D×D))(k:D):Option D:=(kvs.find? λp=>decide (p.1=k)).map (·.2)
def qkp(i:Nat)(kc vc:Ex):Ex:=λE=>if wqe E[i]?=true then bnd (kc E) λE k=>bnd (vc E) λE v=>(match E[i]? with
 | some (some (.rt,.dct kvs))=>if jqy k.2=true/\kvs.length<big/\unm kvs=true/\v.2.pure=true/\D.pures (kvs.map (·.2))=true then(match kwp kvs k.2 with
  | some d=>some (.ok E (.dp,d))
  | none=>some (.ok (E.set i (some (.rt,.dct (kvs++[(k.2,v.2)])))) (.dp,v.2)))else none
 | _=>none)else none
def kkc(f:Fn)(i:Nat)(cs:List Ex):Ex:=λE=>bnd (jq4 cs E) λE xs=>match E[i]? with
 | some (some x)=>(match f (letAll xs++[x])with
  | some (.ok E' y)=>(match E'[xs.length]? with
   | some (some x')=>some (.ok (E.set i (some x')) y)
   | _=>none)
  | some (.exc _ c)=>some (.exc (E.set i none) c)
  | none=>none)
 | _=>none
def jz4(cs:List Str)(b h:Sm):Sm:=λE=>match b E with
 | some (.xc E c)=>if c∈cs then(match h E with
  | some (.xc _ _)=>none
  | r=>r)else none
 | r=>r
def vjp(i:Nat):Sm:=λE=>match E[i]? with
 | some (some (.rt,.lst ds))=>some (.nx (E.set i (some (.rt,.lst ds.reverse))))
 | _=>none
end Q
noncomputable section
namespace Q
open PySem
def wqf(c:Ex):Ex:=λE=>bnd (c E) λE x=>match x.2 with
 | .int j=>if jkf j/\j.toNat<=big then some (.ok E (.no,.tup (jj4 0 j)))else none
 | _=>none
end Q
namespace Q
open PySem PySem.Spec PyProof.Rows L2 L3
section
variable {X:Cx}{Z:Fx0}{K:PySem.W.Frag}{pn:List Nat}{q qa qb:Bool}{a b c:Ex}{u:Ts}{tg e ea eb:Expr}{st:Stmt}{σ:L2.St}{H:Hp}{L:Ls}{E:En}{pos p p2:Pos}{x:Str}
theorem kk2(a:Str):∀r,(qzz a r).Perm (a::r)
 | []=>List.Perm.refl _
 | b::r=>by
  unfold qzz
  split
  ·exact((kk2 a r).cons b).trans (List.Perm.swap ..)
  ·exact List.Perm.refl _
theorem jq9:∀r,(kjc r).Perm r
 | []=>List.Perm.refl _
 | a::r=>(kk2 a _).trans ((jq9 r).cons a)
def leS(a b:Str):Prop:=Spec.ltCps b.cps.toList a.cps.toList=false
theorem leS_iff{a b:Str}:leS a b↔a.cps.toList<=b.cps.toList:=by
 unfold leS;rw[ltCps_eq,decide_eq_false_iff_not,List.not_lt]
theorem kwn{a b c:Str}(h:leS a b)(h':leS b c):leS a c:=leS_iff.mpr (List.le_trans (leS_iff.mp h) (leS_iff.mp h'))
theorem qzv{a b:Str}(h:leS a b)(h':leS b a):a=b:=by
 have:=List.le_antisymm (leS_iff.mp h) (leS_iff.mp h');cases a;cases b;simp only at this
 congr 1
 exact Array.toList_inj.mp this
theorem qvt{a b:Str}(h:¬leS a b):leS b a:=by
 rw[leS_iff]at h ⊢;exact List.le_of_lt (List.not_le.mp h)
theorem kw5:∀{a:Str} {r:List Str},risingS a r=true->(a::r).Pairwise leS
 | a,[],_=>by simp
 | a,b::r,h=>by
  have h:(!(Spec.ltCps b.cps.toList a.cps.toList)&&risingS b r)=true:=h;rw[Bool.and_eq_true,Bool.not_eq_true']at h;have ih:=kw5 h.2;refine List.pairwise_cons.mpr ⟨λc hc=>?_,ih⟩;rcases List.mem_cons.mp hc with rfl | hc
  ·exact h.1
  ·exact kwn h.1 ((List.pairwise_cons.mp ih).1 c hc)
theorem qqd{r:List Str}(h:sortedS r=true):r.Pairwise leS:=by
 cases r with
 | nil=>exact .nil
 | cons a r=>exact kw5 h
theorem qw8{a:Str}:∀{r:List Str},r.Pairwise leS->(qzz a r).Pairwise leS
 | [],_=>by simp[qzz]
 | b::r,h=>by
  rw[List.pairwise_cons]at h;unfold qzz
  by_cases hl:Spec.ltCps b.cps.toList a.cps.toList=true
  ·rw[Xf hl];refine List.pairwise_cons.mpr ⟨λc hc=>?_,qw8 h.2⟩;rcases List.mem_cons.mp ((kk2 a r).mem_iff.mp hc)with rfl | hc
   ·exact qvt (by unfold leS;rw[hl];exact λz=>nomatch z)
   ·exact h.1 c hc
  ·rw[Xj hl];have hab:leS a b:=by unfold leS;exact Bool.eq_false_iff.mpr hl
   refine List.pairwise_cons.mpr ⟨λc hc=>?_,List.pairwise_cons.mpr h⟩;rcases List.mem_cons.mp hc with rfl | hc
   ·exact hab
   ·exact kwn hab (h.1 c hc)
theorem kzk:∀{r:List Str},(kjc r).Pairwise leS
 | []=>.nil
 | a::r=>qw8 kzk
theorem qz0{r s:List Str}(p:s.Perm r)(h:sortedS s=true):s=kjc r :=
 List.Perm.eq_of_pairwise (λa b _ _ h1 h2=>qzv h1 h2) (qqd h) kzk (p.trans (jq9 r).symm)
theorem kk3(a:Int):∀r,(insI a r).Perm (a::r)
 | []=>List.Perm.refl _
 | b::r=>by
  unfold insI
  split
  ·exact((kk3 a r).cons b).trans (List.Perm.swap ..)
  ·exact List.Perm.refl _
theorem jxv:∀r,(kxe r).Perm r
 | []=>List.Perm.refl _
 | a::r=>(kk3 a _).trans ((jxv r).cons a)
theorem qw9{a:Int}:∀{r:List Int},r.Pairwise (·<=·)->(insI a r).Pairwise (·<=·)
 | [],_=>by simp[insI]
 | b::r,h=>by
  rw[List.pairwise_cons]at h;unfold insI
  by_cases hl:b<a
  ·rw[Xf hl];refine List.pairwise_cons.mpr ⟨λc hc=>?_,qw9 h.2⟩;rcases List.mem_cons.mp ((kk3 a r).mem_iff.mp hc)with rfl | hc
   ·exact Int.le_of_lt hl
   ·exact h.1 c hc
  ·rw[Xj hl];refine List.pairwise_cons.mpr ⟨λc hc=>?_,List.pairwise_cons.mpr h⟩;rcases List.mem_cons.mp hc with rfl | hc
   ·omega
   ·have:=h.1 c hc;omega
theorem kzl:∀{r:List Int},(kxe r).Pairwise (·<=·)
 | []=>.nil
 | a::r=>qw9 kzl
theorem qz1{r s:List Int}(p:s.Perm r)(h:s.Pairwise (·<=·)):s=kxe r :=
 List.Perm.eq_of_pairwise (λa b _ _ h1 h2=>Int.le_antisymm h1 h2) h kzl (p.trans (jxv r).symm)
theorem qk3{ns:List Str}:∀{us:List Value},Vals (ns.map V.str) us->StrsAre us ns:=by
 induction ns with
 | nil=>intro us r;rw[List.map_nil]at r;cases r;exact .nil
 | cons n ns ih =>
  intro us r;rw[List.map_cons]at r;cases r with
  | cons r1 r2 =>
   obtain⟨t,e⟩:=r1;subst e;exact .cons n t (ih r2)
theorem qq0{us:List Value}{ns:List Str}(h:StrsAre us ns):Vals (ns.map V.str) us:=by
 induction h with
 | nil=>exact .nil
 | cons y t _ ih=>exact .cons ⟨t,rfl⟩ ih
theorem kvx{us:List Value}{ns:List Int}(h:IntsAre us ns):Vals (ns.map V.int) us:=by
 induction h with
 | nil=>exact .nil
 | cons y t _ ih=>exact .cons ⟨t,rfl⟩ ih
def qqm(K:PySem.W.Frag):List V->Hp->VK->Prop:=λxs H Q =>
 (∃p ss,xs=[.ref p]/\SqL K H p (ss.map V.str)/\ss.length<64/\∀l,H l=none->Q (.ref l) (upd H l (.lst ((kjc ss).map V.str)))) \/
 ∃p ss,xs=[.ref p]/\SqL K H p (ss.map V.int)/\ss.length<64/\∀l,H l=none->Q (.ref l) (upd H l (.lst ((kxe ss).map V.int)))
theorem kz3(hK:X.K=K):CallR X (.builtin "sorted") (qqm K):=by
 subst hK;intro pins s σ H xs us Q I r h;rcases h with⟨p,ss,rfl,hq,hl,q⟩| ⟨p,ss,rfl,hq,hl,q⟩
 ·obtain⟨u,rfl,rx⟩:=jx3 r;cases rx;obtain⟨its,r',pl,hz⟩:=I.list hq;have hlen:=r'.length;rw[X3]at hlen hz;refine sorted_strs (vs:=its) pl.isList (qk3 r') (by omega) λout ss' h1 h2 h3=>?_
  have e:=qz0 h2 h3;subst e;obtain⟨n,hn⟩:=sortedAll_at s.heap its out;have hle:s.heap.objs.size<=s.heap.objs.size+1:=Nat.le_succ _;refine⟨.ref (s.heap.objs.size+1),_,I.laid (t':=s.toks) (o:=.lst ((kjc ss).map V.str)) (λb o e=>sortedAll_old e) hle ?_,rfl,q _ (I.hok.fresh hle)⟩;exact⟨by rw[X3,(jq9 ss).length_eq];exact hz,out.toList,n,qq0 h1,by simpa using hn⟩
 ·obtain⟨u,rfl,rx⟩:=jx3 r;cases rx;obtain⟨its,r',pl,hz⟩:=I.list hq;have hlen:=r'.length;rw[X3]at hlen hz;refine sorted_ints (vs:=its) pl.isList (qkh r') (by omega) λout ss' h1 h2 h3=>?_
  have e:=qz1 h2 h3;subst e;obtain⟨n,hn⟩:=sortedAll_at s.heap its out;have hle:s.heap.objs.size<=s.heap.objs.size+1:=Nat.le_succ _;refine⟨.ref (s.heap.objs.size+1),_,I.laid (t':=s.toks) (o:=.lst ((kxe ss).map V.int)) (λb o e=>sortedAll_old e) hle ?_,rfl,q _ (I.hok.fresh hle)⟩;exact⟨by rw[X3,(jxv ss).length_eq];exact hz,out.toList,n,kvx h1,by simpa using hn⟩
theorem kzh{g:Bool}:∀{ds:List D} {bs:List Str} {xs:List V} {as:List Addr},kkm ds=some bs->RepA K H g ds xs as->xs=bs.map V.str/\∀z∈bs,z.length<=sizeLine
 | [],bs,xs,as,h,r=>by
  cases oq9 h;unfold RepA at r;exact⟨r.1,λ_ z=>nomatch z⟩
 | d::ds,bs,xs,as,h,r=>by
  cases d with
  | str b =>
   unfold kkm at h;cases hb:kkm ds with
   | none=>rw[hb]at h;cases h
   | some bs' =>
    rw[hb]at h;cases oq9 h;unfold RepA at r;obtain⟨x,rr,c1,c2,rfl,rfl,h1,h2⟩:=r;unfold RepL at h1;obtain⟨i1,i2⟩:=kzh hb h2;exact⟨by rw[h1.1,i1];rfl,λz hz=>(List.mem_cons.mp hz).elim (λe=>e▸h1.2.2) (i2 z)⟩
  | _=>unfold kkm at h;cases h
theorem kvf{g:Bool}:∀{ds:List D} {bs:List Int} {xs:List V} {as:List Addr},kjz ds=some bs->RepA K H g ds xs as->xs=bs.map V.int
 | [],bs,xs,as,h,r=>by
  cases oq9 h;unfold RepA at r;exact r.1
 | d::ds,bs,xs,as,h,r=>by
  cases d with
  | int b =>
   unfold kjz at h;cases hb:kjz ds with
   | none=>rw[hb]at h;cases h
   | some bs' =>
    rw[hb]at h;cases oq9 h;unfold RepA at r;obtain⟨x,rr,c1,c2,rfl,rfl,h1,h2⟩:=r;unfold RepL at h1;rw[h1.1,kvf hb h2];rfl
  | _=>unfold kjz at h;cases h
theorem kzr{g:Bool}:∀{bs:List Str},(∀z∈bs,z.length<=sizeLine)->RepA K H g (bs.map D.str) (bs.map V.str) []
 | [],_=>by unfold RepA;exact⟨rfl,rfl⟩
 | b::bs,h=>by
  rw[List.map_cons,List.map_cons];unfold RepA;exact⟨_,_,[],[],rfl,rfl,kjk (h b X4),kzr λz hz=>h z (lc9 _ hz)⟩
theorem kzt{g:Bool}:∀{bs:List Int},RepA K H g (bs.map D.int) (bs.map V.int) []
 | []=>by unfold RepA;exact⟨rfl,rfl⟩
 | b::bs=>by
  rw[List.map_cons,List.map_cons];unfold RepA;exact⟨_,_,[],[],rfl,rfl,jq1,kzt⟩
theorem qxg:Ad1 K (λv H Q=>qqm K [v] H Q) jzd:=by
 intro H x s Q ok hf k;unfold jzd at hf;dsimp only at hf;cases hx:x.d with
 | lst ds =>
  rw [hx]at hf;dsimp only at hf;obtain⟨l,xs,bs,ev,q3,r3,_⟩:=items ok (.inl hx);have q3:LsR K H l xs:=by rcases q3 with⟨_,z⟩| ⟨z,_⟩;exact z;rw[hx]at z;cases z
  cases hs:kkm ds with
  | some ss =>
   rw[hs]at hf;dsimp only at hf
   split at hf
   ·rename_i hl;cases oq9 hf;obtain⟨e1,e2⟩:=kzh hs r3;subst e1;refine .inl ⟨l,ss,by rw[ev],kjl q3,hl,λp hp=>?_⟩;exact k ⟨.rt,.lst _,.ref p,p::[]⟩ _ rfl rfl (jv6 hp (kzr λz hz=>e2 z ((jq9 ss).mem_iff.mp hz)) λb hb=>nomatch hb)
   ·cases hf
  | none =>
   rw[hs]at hf;dsimp only at hf;cases hi:kjz ds with
   | none=>rw[hi]at hf;cases hf
   | some ss =>
    rw[hi]at hf;dsimp only at hf
    split at hf
    ·rename_i hl;cases oq9 hf;have e1:=kvf hi r3;subst e1;refine .inr ⟨l,ss,by rw[ev],kjl q3,hl,λp hp=>?_⟩;exact k ⟨.rt,.lst _,.ref p,p::[]⟩ _ rfl rfl (jv6 hp kzt λb hb=>nomatch hb)
    ·cases hf
 | _=>rw[hx]at hf;cases hf
def tPo(Z:Fx0):Option Ex->TO
 | none=>qq5
 | some c=>vxq (tV Z true c)
theorem wv4:PO X none (tPo Z none):=vv7
theorem vqp(h:QV X Z true c e):PO X (some e) (tPo Z (some c)):=vv4 h
theorem qv4{α:Type}{co:Option Ex}{F:En->Option Int->Option (Res α)}{r:Res α}{G:Option Int->Hp->Prop}(m:Mt E σ L)(w:World Z.K H L)(h:bnd (kz4 co E) F=some r)(xc:Xc Z σ H L r)
  (k:∀E1 l,F E1 l=some r->∀L1 H1,Mt E1 σ L1->World Z.K H1 L1->Step H L H1 L1->jqp H H1->G l H1):tPo Z co σ H G:=by
 cases co with
 | none=>exact k E none h L H m w Step.refl jk3
 | some c =>
  have h:bnd (bnd (c E) λE x=>match x.2 with | .int i=>some (.ok E (some i))| _=>none) F=some r:=h;have h':bnd (c E) (λE x=>bnd (match x.2 with | .int i=>some (.ok E (some i))| _=>none) F)=some r:=by
   cases hc:c E with
   | none=>rw[hc]at h;exact h
   | some y=>rw[hc]at h;cases y<;>exact h
  show tV Z true c σ H λx H1=>∃i,x=.int i/\G (some i) H1
  refine jvj m w h' xc λE1 s h1 x L1 H1 e1 e2 m1 w1 ok fr sr st sm=>?_
  cases hs:s.2 with
  | int i =>
   rw[hs]at h1;exact⟨i,jku ok (e2.trans hs),k E1 (some i) h1 L1 H1 m1 w1 st (sm rfl)⟩
  | _=>rw[hs]at h1;cases h1
theorem kzo(n d:Nat)(v:Option Int):HT.sIx n d v=qqj n d v:=by
 cases v<;>rfl
theorem RepA.drop{K:PySem.W.Frag}{H:Hp}{g:Bool}:∀(n:Nat) {ds:List D} {xs:List V} {as:List Addr},RepA K H g ds xs as->∃bs,RepA K H g (ds.drop n) (xs.drop n) bs/\∀b∈bs,b∈as
 | 0,ds,xs,as,h=>⟨as,h,λ_ h=>h⟩
 | n+1,[],xs,as,h=>by
  unfold RepA at h;obtain⟨rfl,rfl⟩:=h;exact⟨[],by simp only[List.drop_nil];unfold RepA;exact⟨rfl,rfl⟩,λ_ h=>h⟩
 | n+1,d::ds,xs,as,h=>by
  unfold RepA at h;obtain⟨x,r,bs,cs,rfl,rfl,h1,h2⟩:=h;obtain⟨es,r2,hb⟩:=RepA.drop n h2;exact⟨es,r2,λb h=>lr9 _ (hb b h)⟩
theorem RepA.take{K:PySem.W.Frag}{H:Hp}{g:Bool}:∀(n:Nat) {ds:List D} {xs:List V} {as:List Addr},RepA K H g ds xs as->∃bs,RepA K H g (ds.take n) (xs.take n) bs/\∀b∈bs,b∈as
 | 0,ds,xs,as,h=>⟨[],by simp only[List.take_zero];unfold RepA;exact⟨rfl,rfl⟩,λ_ h=>nomatch h⟩
 | n+1,[],xs,as,h=>by
  unfold RepA at h;obtain⟨rfl,rfl⟩:=h;exact⟨[],by simp only[List.take_nil];unfold RepA;exact⟨rfl,rfl⟩,λ_ h=>h⟩
 | n+1,d::ds,xs,as,h=>by
  unfold RepA at h;obtain⟨x,r,bs,cs,rfl,rfl,h1,h2⟩:=h;obtain⟨es,r2,hb⟩:=RepA.take n h2;refine⟨bs++es,?_,λb h=>(List.mem_append.mp h).elim (λz=>ll9 _ z) λz=>lr9 _ (hb b z)⟩;rw[List.take_succ_cons,List.take_succ_cons];unfold RepA;exact⟨x,r.take n,bs,es,rfl,rfl,h1,r2⟩
theorem RepA.cut{K:PySem.W.Frag}{H:Hp}{g:Bool}{ds:List D}{xs:List V}{as:List Addr}(h:RepA K H g ds xs as)(lo hi:Option Int):∃bs,RepA K H g (qxp ds lo hi) (vkm xs lo hi) bs/\∀b∈bs,b∈as:=by
 have hl:=h.len;unfold qxp vkm;rw[kzo,kzo,<-hl];obtain⟨bs,r,hb⟩:=h.drop (qqj ds.length 0 lo);obtain⟨cs,r2,hc⟩:=r.take (qqj ds.length ds.length hi - qqj ds.length 0 lo);exact⟨cs,r2,λb h=>hb b (hc b h)⟩
theorem vqe{x:Sl}{s:Sd}{lo hi:Option Int}{Q:VK}(ok:x.ok K H)(hf:fSl (x.o,x.d) lo hi=some s)(k:∀(z:Sl) H',z.o=s.1->z.d=s.2->Out K H H' z x.frz->Q z.v H'):vjr K x.v lo hi H Q:=by
 unfold fSl at hf;dsimp only at hf;cases hx:x.d with
 | lst ds =>
  rw[hx]at hf;dsimp only at hf
  split at hf
  ·rename_i hl;cases oq9 hf;obtain⟨l,xs,bs,ev,q3,r3,h3⟩:=jjs ok (.inl hx) (by rw[hx];exact hl);have q3:LsR K H l xs:=by rcases q3 with⟨_,z⟩| ⟨z,_⟩;exact z;rw[hx]at z;cases z
   obtain⟨cs,r4,h4⟩:=r3.cut lo hi;exact .inl ⟨l,xs,ev,kjl q3,λp hp=>k ⟨.rt,.lst _,.ref p,p::cs⟩ _ rfl rfl (jv6 hp r4 λb hb=>h3 b (h4 b hb))⟩
  ·cases hf
 | tup ds =>
  rw[hx]at hf;dsimp only at hf
  split at hf
  ·rename_i hl;cases oq9 hf;obtain⟨l,xs,bs,ev,q3,r3,h3⟩:=jjs ok (.inr hx) (by rw[hx];exact hl.1);have q3:SqT K H l xs:=by rcases q3 with⟨z,_⟩| ⟨_,z⟩;rw[hx]at z;cases z;exact z
   obtain⟨cs,r4,h4⟩:=r3.cut lo hi;refine .inr (.inl ⟨l,xs,ev,q3,?_,λp hp=>k ⟨.no,.tup _,.ref p,cs⟩ _ rfl rfl (jz9 hp r4 λb hb=>h3 b (h4 b hb))⟩);rw[kzo,kzo,<-r3.len];exact hl.2
  ·cases hf
 | str z =>
  rw[hx]at hf;dsimp only at hf
  split at hf
  ·rename_i hl;cases oq9 hf;obtain⟨e,hz⟩:=jqw ok hx;exact .inr (.inr ⟨z,e,hz,k ⟨.dp,.str _,.str _,[]⟩ H rfl rfl (wvk hl)⟩)
  ·cases hf
 | _=>rw[hx]at hf;cases hf
theorem wwq{lo hi:Option Ex}{elo ehi:Option Expr}(ha:QV X Z q a ea)(hl:PO X elo (tPo Z lo))(hh:PO X ehi (tPo Z hi))(hK:X.K=Z.K:=by rfl):QE X Z q (cSl a lo hi) (.Subscript ea (.Slice elo ehi none p2) pos):=
 jki (qzk (wqu Z.K hK) ha hl hh) fun σ H Q h_z=>ex8 h_z λE L r m w hc xc k=>by
  refine jvj m w (show bnd (a E) _=some r from hc) xc λE1 s h1 x L1 H1 e1 e2 m1 w1 ok fr sr st sm=>?_
  refine qv4 m1 w1 h1 (xc.step st) λE2 l h2 L2 H2 m2 w2 st2 sm2=>?_
  refine qv4 m2 w2 h2 (xc.step (st.trans st2)) λE3 u h3 L3 H3 m3 w3 st3 sm3=>?_
  obtain⟨z,hz,rfl⟩:=jqr h3;have k1:=jvq ok fr st2 sm2;have k2:=jvq k1.1 k1.2 st3 sm3;refine vqe k2.1 (by rw[e1,e2];exact hz) λy H' ho hd o=>?_
  obtain⟨w4,st4⟩:=jky w3 ((st.trans st2).trans st3) o k2.2 (λb hb=>k2.1.some (Sl.frz_as hb)) (jx6 sr λb hb=>Sl.frz_as hb);have sm':q=true->jqp H H3:=λhq=>jj7 (sm hq) (jj7 sm2 sm3)
  exact k _ _ rfl y L3 H' ho hd m3 w4 st4 λhq=>⟨jj7 (sm' hq) o.same,λb hb=>jk4 (sm' hq) (o.new b hb)⟩
end
theorem vxl{prog:Program}{w:PySem.World}{A:Around}{E:Value->Shared->Prop}{s:Shared}{t:Addr}{items:Array Value}{x:Value}{e:Value->Bool}{j:Nat}{Q:Value->Shared->Prop}
  (ht:IsTup s.heap t items) (he:∀y∈items,SeqAt.EqAt A.in1 s y x (e y)) (hj:j<items.size) (h1:e items[j]=true) (h2:∀m (hm:m<items.size),m<j->e items[m]=false)
  (h:Q (.int j s.toks) { s with toks:=s.toks+1 }):wpAny (model prog w) A (call (.builtin "tuple.index") [.ref t,x]) Q E s:=by
 refine Yf PySem.F.slot_tuple_index ht.typeIs PySem.F.entry_tuple_index ?_ (PySem.F.args_tuple_index_2 _ _);show wpAny _ _ (Builtin.Tuple.tupleItemsOf (.ref t) >>= _) _ _ s;refine X1 (tupleItemsOf_ ht ?_);dsimp only;refine X1 (X5 ?_);refine X1 (X5 ?_);rw[Std.Legacy.Range.forIn_eq_forIn_range'];refine X1 (wpAny_forIn_list _ (λjkp b s'=>b=(none,())/\s'=s/\∃k,k<=j/\jkp=List.range' k (items.size - k)) _ ?_ ?_ _ _ ⟨rfl,rfl,0,Y4 _,?_⟩)
 ·rintro i jkp b s' ⟨rfl,rfl,k,hk,hr⟩;obtain⟨n,hn⟩:∃n,items.size - k=n+1:=⟨items.size - k - 1,by omega⟩;rw[hn,List.range'_succ]at hr;injection hr with hi hrest;subst hi;have hi:i<items.size:=by omega
  rw[show items[i]?=some items[i]from Array.getElem?_eq_getElem hi];dsimp only;refine X1 (he items[i] (Array.getElem_mem hi) _ _ _ _ ?_)
  by_cases hij:i=j
  ·subst hij;rw[h1,Xf rfl];unfold retInt;refine X1 (X1 (wpAny_mkInt (X5 (X5 ?_))));exact X5 ⟨_,rfl,h⟩
  ·rw[h2 i hi (by omega),Xj (by decide)];refine X5 ⟨rfl,rfl,i+1,by omega,?_⟩;rw[hrest]
   congr 1
   omega
 ·rintro b s' ⟨rfl,rfl,k,hk,hr⟩;have:items.size - k=0:=by
   have:=congrArg List.length hr
   simpa using this.symm
  omega
 ·simp
theorem wqw{prog:Program}{w:PySem.World}{A:Around}{E:Value->Shared->Prop}{s:Shared}{l:Addr}{items:Array Value}{k:Int}{t:Tok}{Q:Value->Shared->Prop}
  (ht:IsTup s.heap l items) (h:Q .notImplemented s):wpAny (model prog w) A (call (.builtin "int.__rmul__") [.int k t,.ref l]) Q E s:=by
 refine Yf PySem.F.slot_int_rmul (typeIs_int s k t) PySem.F.entry_int_rmul ?_ (PySem.F.args_int_rmul_2 _ _);obtain⟨o,e,c,n,hd⟩:=ht;show wpAny _ _ (asInt? (.ref l) >>= _) _ _ s;unfold asInt?;refine X1 (X1 (wpAny_load e ?_));rw[hd];refine X5 ?_;dsimp only;refine X1 (wpAny_rule ?_);exact X5 ⟨_,rfl,h⟩
theorem mulT{prog:Program}{w:PySem.World}{A:Around}{E:Value->Shared->Prop}{s:Shared}{l:Addr}{items:Array Value}{k:Int}{t:Tok}{Q:Value->Shared->Prop}
  (ht:IsTup s.heap l items) (h1:-(2 ^ 63)<=k) (h2:k<2 ^ 63) (hz:items.size*k.toNat<=sizeLine)
  (hsame:(items.isEmpty=true\/k=1)->Q (.ref l) s)
  (hsz:(List.foldl (λx1 x2=>x1++x2) #[] (List.replicate k.toNat items)).size<=sizeLine)
  (hnew:Q (.ref s.heap.objs.size) { s with heap:=s.heap.push { cls:=.type "tuple",data:=.seq (List.foldl (λx1 x2=>x1++x2) #[] (List.replicate k.toNat items)) } })
  : wpAny (model prog w) A (call (.builtin "tuple.__mul__") [.ref l,.int k t]) Q E s:=by
 refine Yf PySem.F.slot_tuple_mul ht.typeIs PySem.F.entry_tuple_mul ?_ (PySem.F.args_tuple_mul_2 _ _);show wpAny _ _ (if(decide (k < -2 ^ 63)||decide (k>=2 ^ 63))=true then _ else _) _ _ s;rw [Xj (by simp;omega)];show wpAny _ _ (Builtin.Tuple.tupleItemsOf (.ref l) >>= _) _ _ s;refine X1 (tupleItemsOf_ ht ?_)
 by_cases hs:(items.isEmpty||k==1)=true
 ·rw[Xf hs];unfold Builtin.Tuple.tupleIsExact;refine X1 (X1 (wpAny_typeOf ht.typeIs (X5 ?_)));rw[Xf (by decide)];refine X1 (wpAny_rule ?_);refine X5 ⟨_,rfl,hsame ?_⟩
  simpa using hs
 ·rw[Xj hs];have hne:items.isEmpty=false:=by
   cases h:items.isEmpty<;>simp_all
  have hm:((items.size:Int)*k)<=(sizeLine:Int)\/k<=0:=by
   by_cases hk:k<=0
   ·exact .inr hk
   ·refine .inl ?_;have e:((k.toNat:Nat):Int)=k:=Int.toNat_of_nonneg (by omega);have:((items.size*k.toNat:Nat):Int)<=(sizeLine:Int):=Int.ofNat_le.mpr hz;rw[Int.natCast_mul,e]at this;exact this
  dsimp only
  by_cases hk:k<=0
  ·rw[Xf (by simp[hk])];have e:k.toNat=0:=by omega
   rw[e]at hnew;unfold Builtin.Tuple.tupleExact;exact X1 (Y0 (X5 ⟨_,rfl,hnew⟩) (show(0:Nat)<=sizeLine from Y4 _))
  ·rw[Xj (by simp[hk,hne])];have hm:=hm.resolve_right hk;have hsl:(sizeLine:Int)=16777216:=by decide
   rw[Xj (by omega)];rw[Xj (by unfold Builtin.Tuple.tupleTooMany;simp;omega)];unfold Builtin.Tuple.tupleExact;exact X1 (Y0 (X5 ⟨_,rfl,hnew⟩) hsz)
section
variable {X:Cx}{Z:Fx0}{K:PySem.W.Frag}{pn:List Nat}{q qa qb:Bool}{a b c:Ex}{u:Ts}{tg e ea eb:Expr}{st:Stmt}{σ:L2.St}{H:Hp}{L:Ls}{E:En}{pos p p2:Pos}{x:Str}
def vz6(K:PySem.W.Frag):R2:=λx y H Q=>∃l k xs,x=.ref l/\y=.int k/\SqT K H l xs/\-(2 ^ 63)<=k/\k<2 ^ 63/\xs.length*k.toNat<=sizeLine/\((xs=[]\/k=1)->Q (.ref l) H)/\∀p,H p=none->Q (.ref p) (upd H p (.tup (List.replicate k.toNat xs).flatten))
theorem op_repT:OpR X (binaryOp .Mult) (vz6 X.K):=by
 intro pins s σ H x y v u Q I rx ry h;obtain⟨l,k,xs,rfl,rfl,hq,h1,h2,hz,q1,q2⟩:=h;cases rx;obtain⟨t,rfl⟩:=ry;obtain⟨its,r,ht,hl⟩:=I.tuple hq;have hlen:=r.length;have f0:List.foldl (λx1 x2=>x1++x2) #[] (List.replicate k.toNat its.toArray)=(List.replicate k.toNat its).flatten.toArray:=by
  have:=kk6 its k.toNat [];rw[List.nil_append]at this;exact this
 have hz2:(List.replicate k.toNat xs).flatten.length<=sizeLine:=by rw[qvq,Nat.mul_comm];exact hz
 refine wpAny_binaryOp_repeat_ref (T:="tuple") (U:="int") (by decide) ht.typeIs (λs'=>typeIs_int s' k t) rfl F.fills_int_mul F.slot_int_rmul (show seqRepeat? (Value.type "tuple")=pure (some (Value.builtin "tuple.__mul__"))from rfl) F.slot_int_index.lookup
  (wqw ht ⟨rfl,ht.typeIs,mulT ht h1 h2 (by rw[Xa,<-hlen];exact hz) (λhs=>?_) ?_ ?_⟩)
 ·refine⟨.ref l,H,I,rfl,q1 ?_⟩;rcases hs with hs | hs
  ·left;have:its=[]:=by simpa using hs
   subst this
   simpa using hlen
  ·exact .inr hs
 ·rw[f0,Xa,<-(r.rep k.toNat).length];exact hz2
 ·rw[f0];exact⟨.ref _,_,I.laid (t':=s.toks) (o:=.tup _) (λb o e=>X6 _ e) (X8 _) ⟨hz2,_,r.rep k.toNat,IsTupD.new _ _⟩,rfl,q2 _ (I.hok.fresh (X8 _))⟩
def vz9(K:PySem.W.Frag):R2:=λx y H Q=>vz6 K x y H Q\/vqk K x y H Q
theorem wjg(hK:X.K=K:=by rfl):OpR X (binaryOp .Mult) (vz9 K):=by subst hK;exact op_repT.or wjh
theorem vx2:Ad2 K (vz9 K) jjt:=by
 intro H x y s Q ox oy hf k;cases hx:x.d with
 | tup ds =>
  cases hy:y.d with
  | int n =>
   unfold jjt at hf;rw [show(x.o,x.d).2=x.d from rfl,show(y.o,y.d).2=y.d from rfl,hx,hy]at hf;dsimp only at hf
   split at hf
   ·rename_i hc;cases oq9 hf;obtain⟨l,xs,bs,e3,q3,r3,h3⟩:=jjs ox (.inr hx) (by rw[hx];exact hc.2.2.2);have q3:SqT K H l xs:=by rcases q3 with⟨z,_⟩| ⟨_,z⟩;rw[hx]at z;cases z;exact z
    obtain⟨cs,r4,h4⟩:=r3.reps n.toNat;refine .inl ⟨l,n,xs,e3,jku oy hy,q3,hc.1,hc.2.1,by rw[<-r3.len];exact hc.2.2.1,λhs=>?_,λp hp=>?_⟩
    ·refine k ⟨.no,.tup _,.ref l,cs⟩ H rfl rfl ⟨jk3,?_,λb hb=>(nomatch hb),Xv,λb hb=>ll9 _ (h3 b (h4 b hb))⟩;show RepL K H true (.tup _) (.ref l) cs;unfold RepL;refine⟨l,xs,rfl,q3,?_⟩;have e:(List.replicate n.toNat xs).flatten=xs:=by
      rcases hs with hs | hs
      ·subst hs;simp
      ·subst hs;simp
     rw[e]at r4;exact r4
    ·exact k ⟨.no,.tup _,.ref p,cs⟩ _ rfl rfl (jz9 hp r4 λb hb=>ll9 _ (h3 b (h4 b hb)))
   ·cases hf
  | _ =>
   refine .inr (vkw H x y s Q ox oy ?_ k);unfold jjt at hf;rw[show(x.o,x.d).2=x.d from rfl,show(y.o,y.d).2=y.d from rfl,hx,hy]at hf;rw[hx,hy];exact hf
 | _ =>
  refine .inr (vkw H x y s Q ox oy ?_ k);unfold jjt at hf;rw[show(x.o,x.d).2=x.d from rfl,hx]at hf;rw[hx];exact hf
theorem qvn{h:Heap}:∀{ds:List D} {us:List Value},CReps h ds us->us.map (dec h)=ds
 | [],_,r=>by unfold CReps at r;rw[r];rfl
 | z::ds,_,r=>by
  unfold CReps at r;obtain⟨u,rr,rfl,h1,h2⟩:=r;rw[List.map_cons,kwz h1,qvn h2]
def wv0(K:PySem.W.Frag)(C:Hp->List V->Prop):List V->Hp->VK->Prop:=λvs H Q=>∃v d ds as bs xs j,vs=[v]/\RepL K H true d v as/\C H xs/\RepA K H true ds xs bs/\d.flat 30=true/\D.flats 30 ds=true/\(ds.findIdx? λz=>peq z d)=some j/\Q (.int j) H
theorem qzl{o:Expr}{to:TE}{t:TA}{apos cpos:Pos}(hu:X.A.units+64<cLine)(ho:PE X o to)(ha:PA X [e] t)
  (hbase:attributeBase o "index" X.env (eval o X.env)=eval o X.env:=by rfl)
  (hfew:((backTo cpos (starEach [e] X.env)).all (λx=>!x.1)&&(backToKw cpos (keywordEach [] X.env)).all (λx=>x.1.isSome)
   && decide ([e].length+([]:List Keyword).length+(if([]:List Keyword).isEmpty then 0 else 1)<30))=true:=by rfl)
  (hline:(apos.endLine==cpos.line)=true:=by rfl) (hs:starEach [e] X.env=(false,eval e X.env)::starEach [] X.env:=by rfl) (hplain:(backTo cpos (starEach [] X.env)).any (·.1)=false:=by rfl):
  PE X (.Call (.Attribute o "index" apos) [e] [] cpos) (fun σ H Q=>to σ H λx H1=>(∃p xs,x=.ref p/\LsR X.K H1 p xs/\t σ H1 λvs H2=>wv0 X.K (λH xs=>LsR X.K H p xs) vs H2 Q)\/∃p xs,x=.ref p/\SqT X.K H1 p xs/\t σ H1 λvs H2=>wv0 X.K (λH xs=>SqT X.K H p xs) vs H2 Q):=by
 intro pins s σ H Q I h;refine wpAny_Call_method_late hbase hfew hline rfl (thn (ho pins s σ H _ I h) λv s1 ⟨x,H1,I1,r1,qq⟩=>?_);have eqs:∀{s2:Shared} {H2:Hp} {d:D} {v:V} {as:List Addr} {w:Value} {us:List Value} {ds:List D},L2.Inv X pins σ H2 s2->RepL X.K H2 true d v as->RelV v w->d.flat 30=true->D.flats 30 ds=true->CReps s2.heap ds us->∀y∈us.toArray,SeqAt.EqAt X.A.in1 s2 y w (peq (dec s2.heap y) d):=fun {s2 H2 d v as w us ds} I2 rd rw f1 f2 cr y hy=>by
  have c1:=jzg I2 rd f1 rw;obtain⟨d',hd,c⟩:=kj6 cr (by simpa using hy);rw[kwz c];exact kq7 30 (jxi f2 hd) c c1 (by have:=L3.in1_units X.A;omega)
 have idx:∀{h:Heap} {ds:List D} {us:List Value} {d:D} {j:Nat},CReps h ds us->(ds.findIdx? λz=>peq z d)=some j->∃hj:j<us.toArray.size,peq (dec h us.toArray[j]) d=true/\∀m (hm:m<us.toArray.size),m<j->peq (dec h us.toArray[m]) d=false:=fun {h ds us d j} cr hf=>by
  have e:=qvn cr;subst e;rw[List.findIdx?_eq_some_iff_getElem]at hf;obtain⟨hj,h1,h2⟩:=hf;have hj':j<us.length:=by simpa using hj
  refine⟨by simpa using hj',by simpa using h1,λm hm hmj=>?_⟩;have:=h2 m hmj
  simpa using this
 rcases qq with⟨pp,zs,rfl,ty,q1⟩| ⟨pp,zs,rfl,ty,q1⟩
 ·cases r1;have hA:=ha cpos pins s1 σ H1 _ I1 q1;rw[hs]at hA ⊢;obtain⟨z,its,n,r,e0⟩:=ty.is I1;refine⟨"list","list.index",F.plainAttrs_list,F.slot_list_index,F.type_list_index,⟨_,e0,rfl⟩,λa e2=>?_,?_⟩
  ·cases e2;exact⟨_,e0,rfl⟩
  refine Yp (by show(false||(backTo cpos (starEach [] X.env)).any (·.1))=false;rw[hplain]<;>rfl) (Calls.evalArgs_plain ?_);refine thn hA λus s2 ⟨vs,H2,I2,r2,d2⟩=>?_
  obtain⟨v,d,ds,as,bs,xs,j,rfl,rd,hq,ra,f1,f2,hf,q2⟩:=d2;obtain⟨w,rfl,rw1⟩:=r2.one;obtain⟨z2,its2,n2,r3,e3⟩:=hq.is I2;have cr:=creps_of I2 ra f2 r3;obtain⟨hj,h1,h2⟩:=idx cr hf;have hsz:its2.toArray.size<=16777216:=by rw[Xa,<-r3.length];exact z2
  exact call_meets F.slot_list_index ⟨_,e3,rfl⟩ F.entry_list_index (F.args_list_index_2 _ _) (SeqAt.list_indexAt pp its2.toArray n2 none #[] w (λy=>peq (dec s2.heap y) d) j hj (by omega) h1 h2) ⟨e3,eqs I2 rd rw1 f1 f2 cr,.int _,H2,I2.tok _,⟨_,rfl⟩,q2⟩
 ·cases r1;have hA:=ha cpos pins s1 σ H1 _ I1 q1;rw[hs]at hA ⊢;obtain⟨its,r,ht,hz⟩:=I1.tuple ty;have hd0:=I1.tupleD ty;refine⟨"tuple","tuple.index",F.plainAttrs_tuple,F.slot_tuple_index,F.type_tuple_index,ht.typeIs,λa e2=>?_,?_⟩
  ·cases e2;exact hd0
  refine Yp (by show(false||(backTo cpos (starEach [] X.env)).any (·.1))=false;rw[hplain]<;>rfl) (Calls.evalArgs_plain ?_);refine thn hA λus s2 ⟨vs,H2,I2,r2,d2⟩=>?_
  obtain⟨v,d,ds,as,bs,xs,j,rfl,rd,hq,ra,f1,f2,hf,q2⟩:=d2;obtain⟨w,rfl,rw1⟩:=r2.one;obtain⟨its2,r3,ht2,hz2⟩:=I2.tuple hq;have cr:=creps_of I2 ra f2 r3;obtain⟨hj,h1,h2⟩:=idx cr hf;exact vxl (e:=λy=>peq (dec s2.heap y) d) ht2 (eqs I2 rd rw1 f1 f2 cr) hj h1 h2 ⟨.int _,H2,I2.tok _,⟨_,rfl⟩,q2⟩
theorem vqs{apos cpos:Pos}(hu:X.A.units+64<cLine)(ha:QV X Z q a ea)(hb:QV X Z true b eb)(hK:X.K=Z.K:=by rfl)
  (hbase:attributeBase ea "index" X.env (eval ea X.env)=eval ea X.env:=by rfl)
  (hfew:((backTo cpos (starEach [eb] X.env)).all (λx=>!x.1)&&(backToKw cpos (keywordEach [] X.env)).all (λx=>x.1.isSome)
   && decide ([eb].length+([]:List Keyword).length+(if([]:List Keyword).isEmpty then 0 else 1)<30))=true:=by rfl)
  (hline:(apos.endLine==cpos.line)=true:=by rfl) (hs:starEach [eb] X.env=(false,eval eb X.env)::starEach [] X.env:=by rfl) (hplain:(backTo cpos (starEach [] X.env)).any (·.1)=false:=by rfl):
  QE X Z q (wkv a b) (.Call (.Attribute ea "index" apos) [eb] [] cpos):=jki (qzl hu ha (jko hb jqe hs) hbase hfew hline hs hplain) fun σ H Q h_z=>ex8 h_z λE L r m w hc xc k=>by
 refine jvj m w (show bnd (a E) _=some r from hc) xc λE1 s h1 x L1 H1 e1 e2 m1 w1 ok fr sr st sm=>?_
 split at h1
 rotate_left
 ·cases h1
 rename_i hsq;rw [hK];have fin:∀{ds:List D},(x.d=.lst ds\/x.d=.tup ds)->∀(C:Hp->List V->Prop),(∀H2,x.ok Z.K H2->∃xs bs,C H2 xs/\RepA Z.K H2 true ds xs bs)->tV Z true b σ H1 λv H2=>wv0 Z.K C [v] H2 Q:=fun {ds} hx C hC=>by
  refine jvj m1 w1 h1 (xc.step st) λE2 s2 h2 y L2 H2 e3 e4 m2 w2 ok2 fr2 sr2 st2 sm2=>?_
  obtain⟨z,hz,rfl⟩:=jqr h2;have kx:=jvq ok fr st2 (sm2 rfl);obtain⟨xs,bs,c1,c2⟩:=hC H2 kx.1;have key:∃j:Nat,y.d.flat 30=true/\D.flats 30 ds=true/\(ds.findIdx? λz=>peq z y.d)=some j/\z=(.dp,.int j):=by
   unfold pu2 qjk at hz;rw[<-e2,<-e4]at hz;have hz':(if y.d.flat 30&&D.flats 30 ds then(ds.findIdx? λz=>peq z y.d).map λ(j:Nat)=>D.int (j:Int)else none).map (λd=>((Own.dp,d):Sd))=some z:=by
    rcases hx with hx | hx<;>(rw[hx]at hz;exact hz)
   split at hz'
   ·rename_i hf;rw[Bool.and_eq_true]at hf;cases hj:ds.findIdx? λz=>peq z y.d with
    | none=>rw[hj]at hz';cases hz'
    | some j=>rw[hj]at hz';exact⟨j,hf.1,hf.2,rfl,(oq9 hz').symm⟩
   ·cases hz'
  obtain⟨j,f1,f2,f3,rfl⟩:=key;refine⟨y.v,y.d,ds,y.as,bs,xs,j,rfl,RepO.wk ok2,c1,c2,f1,f2,f3,?_⟩;have sm':q=true->jqp H H2:=λhq=>jj7 (sm hq) (sm2 rfl)
  exact k _ _ rfl ⟨.dp,.int j,.int j,[]⟩ L2 H2 rfl rfl m2 (w2.consPu (x:=⟨.dp,.int j,.int j,[]⟩) (show RepL Z.K H2 false (.int j) (.int j) []from jq1) rfl) (jx5 (x:=⟨.dp,.int j,.int j,[]⟩) (st.trans st2) (λb hb=>nomatch hb) rfl) λhq=>⟨sm' hq,λ_ z=>(nomatch z)⟩
 have wkA:∀{ds:List D} {xs:List V} {bs:List Addr} {H2:Hp},RepA Z.K H2 (x.o != .dp) ds xs bs->RepA Z.K H2 true ds xs bs:=fun {ds xs bs H2} r=>by
  cases ho:(x.o != .dp)with
  | true=>rw[ho]at r;exact r
  | false=>rw[ho]at r;exact r.wk
 cases hx:x.d with
 | lst ds =>
  obtain⟨l,xs,bs,ev,q3,r3,h3,_⟩:=items ok (.inl hx);have q3:LsR Z.K H1 l xs:=by rcases q3 with⟨_,z⟩| ⟨z,_⟩;exact z;rw[hx]at z;cases z
  refine .inl ⟨l,xs,ev,q3,fin (.inl hx) _ λH2 ok2=>?_⟩;obtain⟨l2,ys,cs,ev2,q4,r4,_⟩:=items ok2 (.inl hx);have:l2=l:=by have:=ev2.symm.trans ev;exact V.ref.inj this
  subst this;rcases q4 with⟨_,z⟩| ⟨z,_⟩
  ·exact⟨ys,cs,z,wkA r4⟩
  ·rw[hx]at z;cases z
 | tup ds =>
  obtain⟨l,xs,bs,ev,q3,r3,h3,_⟩:=items ok (.inr hx);have q3:SqT Z.K H1 l xs:=by rcases q3 with⟨z,_⟩| ⟨_,z⟩;rw[hx]at z;cases z;exact z
  refine .inr ⟨l,xs,ev,q3,fin (.inr hx) _ λH2 ok2=>?_⟩;obtain⟨l2,ys,cs,ev2,q4,r4,_⟩:=items ok2 (.inr hx);have:l2=l:=by have:=ev2.symm.trans ev;exact V.ref.inj this
  subst this;rcases q4 with⟨z,_⟩| ⟨_,z⟩
  ·rw[hx]at z;cases z
  ·exact⟨ys,cs,z,wkA r4⟩
 | _=>rw[<-e2,hx]at hsq;cases hsq
end
def Ite(K:PySem.W.Frag)(l:Addr):It:=⟨λi H=>∃xs x,SqL K H l xs/\xs[i]?=some x,
 λi H v H'=>∃T x,H T=none/\v=.ref T/\H'=upd H T (.tup [.int i,x])/\∀xs,SqL K H l xs->xs[i]?=some x,
 λi H=>∃xs,SqL K H l xs/\xs.length<=i⟩
theorem qq3{P:Program}{w:PySem.World}{K:PySem.W.Frag}{elts:List Expr}{k1:Nat}{pos:Pos}{e it l:Addr}(n1:e≠it)(n2:l≠e)(n3:l≠it):
  Turn P w K (.Tuple elts k1 pos) (Ite K l) [e,it] e (λi h=>(∃old,IsEnum h e it (i:Int) old)/\h.IsListIter it l i) where
 mem:=by simp
 obj:=λi h st b hb=>by
  obtain⟨⟨old,h1⟩,o4,e4,c4,d4⟩:=st;simp only[Xu,Xm,or_false]at hb;rcases hb with rfl | rfl
  ·exact⟨_,h1,λv z=>by cases z⟩
  ·exact⟨_,e4,λv z=>by rw[d4]at z;cases z⟩
 keep:=λi h h' st k=>by
  obtain⟨⟨old,h1⟩,o4,e4,c4,d4⟩:=st;exact⟨⟨old,k _ (by simp) _ h1⟩,o4,k _ (by simp) _ e4,c4,d4⟩
 item:=by
  intro X hP hw hK hc i pins s σ H E I hf st hg;subst hP hw hK;obtain⟨xs,x,q1,hx⟩:=hg;obtain⟨its1,rv1,p1,hz1⟩:=I.list q1;obtain⟨u1,hu1,ru1⟩:=rv1.get hx;obtain⟨⟨old,t1⟩,t2⟩:=st;refine wpAny_pyNext_enum_item t1 t2 p1.isList (x:=u1) (by simpa using hu1) n1 λh1 g1 g2 gT gs gk=>?_
  refine⟨_,rfl,wpAny_letOwnedTupleGo_enum (s:={ s with heap:=h1,toks:=s.toks+1 }) g1 λh2 f1 sb=>?_⟩;have fT:kku X pins H s.heap.objs.size:=I.fpOk (X8 _) (I.hok.fresh (X8 _));have nT:∀b∈[e,it],b≠s.heap.objs.size:=λb hb ee=>by
   obtain⟨o,eo,_⟩:∃o,s.heap.get? b=some o/\True:=by
    simp only[Xu,Xm,or_false]at hb;obtain⟨o4,e4,_⟩:=t2;rcases hb with rfl | rfl
    ·exact⟨_,t1,trivial⟩
    ·exact⟨_,e4,trivial⟩
   exact absurd (Xh eo) (by rw[ee];exact Yc _)
  have kk:∀b o,b∉[e,it]->s.heap.get? b=some o->h2.get? b=some o:=λb o hb ee=>by
   simp only[Xu,Xm,or_false,not_or]at hb;exact(sb.2 b hb.1).trans (gk b o hb.1 hb.2 ee)
  have I1:L2.Inv X pins σ H { s with heap:=h2,toks:=s.toks+1 }:=jv8 [e,it] I kk hf;have nz:s.heap.objs.size≠e:=λee=>nT e (by simp) ee.symm
  have I2:=kjx (a:=s.heap.objs.size) (o:=.tup [.int (i:Int),x]) I1 fT.1 fT.2.1 fT.2.2.2.1 fT.2.2.2.2.1 fT.2.2.2.2.2
   (show ObjOk X.prog X.w _ h2 _ (.tup [.int (i:Int),x])from⟨by show(2:Nat)<=sizeLine;decide,[.int i s.toks,u1],.cons ⟨_,rfl⟩ (.cons ru1 .nil),⟨_,(sb.2 _ nz).trans gT,rfl,rfl,0,rfl⟩⟩)
  refine⟨.ref s.heap.objs.size,_,I2,rfl,⟨_,x,fT.1,rfl,rfl,λzs hzs=>by rw[I.list_inj hzs q1];exact hx⟩,?_,λb hb=>by rw[jjv (nT b hb)];exact(hf b hb).1⟩;exact⟨⟨u1,f1⟩,g2.at λo ee=>(sb.2 _ n1.symm).trans ee⟩
 done:=by
  intro X hP hw hK hc i pins s σ H E I hf st hg;subst hP hw hK;obtain⟨xs,q1,hx⟩:=hg;obtain⟨its1,rv1,p1,hz1⟩:=I.list q1;obtain⟨⟨old,t1⟩,t2⟩:=st;have hl1:=rv1.length;refine wpAny_pyNext_enum_end (I.ok.hd hc) t1 t2 p1.isList (by simp;omega) λh' kk=>⟨rfl,?_⟩
  refine jv8 (t':=s.toks) [it] I (λb o hb ee=>kk b o (by simpa using hb) ee) λb hb=>hf b (by
   simp only[Xu,Xm,or_false]at hb ⊢;exact .inr hb)
 self:=λ_ _ _ _ _ st h=>by obtain⟨⟨old,h1⟩,_⟩:=st;exact wpAny_pyIter_enum h1 h
abbrev wvu(K:PySem.W.Frag)(ta:TA):TI:=fun σ H R=>ta σ H λvs H1=>∃l,vs=[.ref l]/\(∃xs,SqL K H1 l xs/\(xs.length<=sizeLine->R (Ite K l) H1))
theorem kx3:bootBuiltins "enumerate"=some (.type "enumerate"):=boot_enumerate
section
variable {X:Cx}{Z:Fx0}{K:PySem.W.Frag}{pn:List Nat}{q qa qb:Bool}{a b c:Ex}{u:Ts}{tg e ea eb:Expr}{st:Stmt}{σ:L2.St}{H:Hp}{L:Ls}{E:En}{pos p p2 tpos:Pos}{x:Str}{elts:List Expr}{k1:Nat}
theorem vv8(K:PySem.W.Frag){ta:TA}(hg:Gl X "enumerate")(hm:X.mg "enumerate"=none)(ha:PA X [e] ta)(hK:X.K=K:=by rfl)
  (hs:starEach [e] X.env=[(false,eval e X.env)]:=by rfl):PI X (.Tuple elts k1 tpos) (.Call (.Name "enumerate" p) [e] [] pos) (wvu K ta):=by
 subst hK;intro pins s σ H R I h;refine Call_ (jxg I hg hm kx3 (Xz (thn (ha pos pins s σ H _ I h) λus s1 ⟨vs,H1,I1,r1,q1⟩=>?_) (by rw[hs];rfl) rfl));obtain⟨l,rfl,xs,q1,q⟩:=q1;obtain⟨u1,rfl,e1⟩:=jx3 r1;cases e1;obtain⟨its1,rv1,p1,hz1⟩:=I1.list q1;have lt:l<s1.heap.objs.size:=by obtain⟨_,ee,_⟩:=p1.isList;exact Xh ee
 refine call_enumerate_list p1.isList λh' g1 g2 gs gk=>?_
 refine wpAny_pyIter_enum g1 ⟨_,[_,s1.heap.objs.size],_,_,H1,rfl,I1.kept (t':=s1.toks) gk,
  qq3 (e:=s1.heap.objs.size+1) (it:=s1.heap.objs.size) (l:=l) (Nat.succ_ne_self _) (Xw (Nat.lt_succ_of_lt lt)) (Xw lt),⟨⟨_,g1⟩,g2⟩,λb hb=>?_,q hz1⟩
 have hle:s1.heap.objs.size<=b:=by
  simp only[Xu,Xm,or_false]at hb;rcases hb with rfl | rfl<;>omega
 exact I1.fpOk hle (I1.hok.fresh hle)
theorem jxl:∀(ds:List D) (k:Nat),(jvp k ds).length=ds.length
 | [],_=>rfl
 | d::ds,k=>by rw[jvp,Xd,Xd,jxl ds]
theorem kwv:∀(ds:List D) (k i:Nat),(jvp k ds)[i]?=(ds[i]?).map λd=>.tup [.int ((k+i:Nat):Int),d]
 | [],_,_=>by simp[jvp]
 | d::ds,k,0=>by simp[jvp]
 | d::ds,k,i+1=>by
  rw[jvp,List.getElem?_cons_succ,List.getElem?_cons_succ,kwv ds,show k+1+i=k+(i+1)from by omega]
theorem kz9:∀(xs ys:List D) (i:Nat),(kvu xs ys)[i]?=(xs[i]?).bind λa=>(ys[i]?).map λb=>.tup [a,b]
 | [],_,_=>by simp[kvu]
 | _::_,[],i=>by cases i<;>simp[kvu]
 | a::x,b::y,0=>by simp[kvu]
 | a::x,b::y,i+1=>by rw[kvu,List.getElem?_cons_succ,List.getElem?_cons_succ,List.getElem?_cons_succ,kz9 x y i]
theorem kj1:∀(xs ys:List D),(kvu xs ys).length=min xs.length ys.length
 | [],_=>by simp[kvu]
 | _::_,[]=>by simp[kvu]
 | a::x,b::y=>by rw[kvu,Xd,Xd,Xd,kj1 x y];omega
theorem kju{x:Sl}{es:List D}{l:Addr}{H1:Hp}(hx:x.d=.lst es)(ev:x.v=.ref l):∀H2:Hp,x.let.ok K H2->∃ys cs,SqL K H2 l ys/\RepA K H2 true es ys cs/\∀b∈cs,b∈x.as:=λH2 hok=>by
 obtain⟨a',ys,cs,ev',q4,r4,h4,_⟩:=items hok (.inl hx);have:a'=l:=by have:=ev'.symm.trans ev;exact V.ref.inj this
 subst this;rcases q4 with⟨_,z⟩| ⟨z,_⟩
 ·exact⟨ys,cs,z.sq,r4,h4⟩
 ·rw[show x.let.d=D.lst es from hx]at z;cases z
theorem kzs{H2:Hp}{T:Addr}{d1 d2:D}{v1 v2:V}{b1 b2:List Addr}(hT:H2 T=none)(r1:RepL K H2 true d1 v1 b1)(r2:RepL K H2 true d2 v2 b2):RepL K (upd H2 T (.tup [v1,v2])) true (.tup [d1,d2]) (.ref T) (b1++b2):=by
 have sm:jqp H2 (upd H2 T (.tup [v1,v2])):=jjp hT;unfold RepL;refine⟨T,[v1,v2],rfl,.inl (.inl jjy),?_⟩;unfold RepA;refine⟨v1,[v2],b1,b2,rfl,rfl,r1.kp (Kp.of_same sm),?_⟩;unfold RepA;refine⟨v2,[],b2,[],rfl,by simp,r2.kp (Kp.of_same sm),?_⟩;unfold RepA;exact⟨rfl,rfl⟩
theorem qqt(h:QE X Z q c e)(hg:Gl X "enumerate")(hm:X.mg "enumerate"=none)(hK:X.K=Z.K:=by rfl)(hs:starEach [e] X.env=[(false,eval e X.env)]:=by rfl):QI X Z q (.Tuple elts k1 tpos) (qzx c) (.Call (.Name "enumerate" p) [e] [] pos):=λpins s σ H R I h_z=>ex8 h_z λE L r m w hc xc k=>by
 refine(vv8 Z.K hg hm (jko h jqe hs) hK hs) pins s σ H R I ?_;refine kqt m w (show bnd (c E) _=some r from hc) xc λE1 s h1 x L1 H1 e1 e2 m1 w1 st sm=>?_
 obtain⟨ds,hd,rfl⟩:=jqr h1;have ok:=w1.head;have wT:World Z.K H1 (L1++[x.let].map some):=by
  refine World.comm (L:=[some x.let]) ?_;exact w1.tail.consNo (jwj ok) rfl λb hb=>w1.apart b hb
 have sT:Step H L H1 (L1++[x.let].map some):=by
  refine⟨st.keep,λb hb=>?_,λb hb=>?_⟩
  ·have:b∈jj6 L1:=by simpa [jwk]using hb
   exact st.own b (by rw[jj3];exact lr9 _ this)
  ·have:b∈jjd L1\/b∈x.as:=by simpa [jwk]using hb
   rcases this with z | z
   ·exact st.frz b (by rw[jj8];exact lr9 _ z)
   ·exact jx7 st b z
 cases hx:x.d with
 | lst es =>
  rw[<-e2,hx]at hd;have hd':jvp 0 es=ds:=oq9 hd;subst hd';obtain⟨a,xs,bs,ev,q3,r3,h3,_⟩:=items ok (.inl hx);have q3:LsR Z.K H1 a xs:=by rcases q3 with⟨_,z⟩| ⟨z,_⟩;exact z;rw[hx]at z;cases z
  have again:=kju (K:=Z.K) (H1:=H1) hx ev;refine⟨a,by rw[ev],xs,q3.sq,λhlen=>k _ _ rfl (Ite Z.K a) [x.let] L1 H1 m1 wT sT (by rw[jxl,r3.len];exact hlen) (λhq=>(sm hq).1) ⟨λt ht=>by rw[List.mem_singleton.mp ht];rfl,λi H2 hok hi=>?_,λH2 hok=>?_,λi H2 v H3 d hok hy hdi=>?_⟩⟩
  ·obtain⟨ys,cs,s1,s2,_⟩:=again H2 (hok _ (List.mem_singleton.mpr rfl));have hl:=s2.len;rw[jxl]at hi;exact⟨ys,ys[i]'(by omega),s1,X0 (by omega)⟩
  ·obtain⟨ys,cs,s1,s2,_⟩:=again H2 (hok _ (List.mem_singleton.mpr rfl));exact⟨ys,s1,by rw[jxl,s2.len];exact X8 _⟩
  ·obtain⟨ys,cs,s1,s2,s3⟩:=again H2 (hok _ (List.mem_singleton.mpr rfl));obtain⟨T,x',hT,rfl,rfl,hy⟩:=hy;rw[kwv]at hdi;cases hes:es[i]? with
   | none=>rw[hes]at hdi;cases hdi
   | some d0 =>
    rw[hes]at hdi;cases oq9 hdi;obtain⟨v',bs',f1,f2,f3⟩:=s2.get hes;have:v'=x':=by have:=hy ys s1;rw[f1]at this;exact oq9 this
    subst this;have rp:=kzs (v1:=.int ((0+i:Nat):Int)) hT jq1 f2;rw[show((0+i:Nat):Int)=(i:Int)from by omega]at rp ⊢;exact⟨⟨.no,_,.ref T,[]++bs'⟩,rfl,rfl,rfl,jjp hT,rp,λb hb=>⟨x.let,List.mem_singleton.mpr rfl,s3 b (f3 b (by simpa using hb))⟩⟩
 | _=>rw[<-e2,hx]at hd;cases hd
theorem vqr{b:Ex}(ha:QE X Z q a ea)(hb:QE X Z q b eb)(hg:Gl X "zip")(hm:X.mg "zip"=none)(hK:X.K=Z.K:=by rfl)
  (hs:starEach [ea,eb] X.env=[(false,eval ea X.env),(false,eval eb X.env)]:=by rfl) (hs2:starEach [eb] X.env=[(false,eval eb X.env)]:=by rfl)
  (hs3:starEach [ea,eb] X.env=(false,eval ea X.env)::starEach [eb] X.env:=by rfl):QI X Z q (.Tuple elts k1 tpos) (qw5 a b) (.Call (.Name "zip" p) [ea,eb] [] pos):=λpins s σ H R I h_z=>ex8 h_z λE L r m w hc xc k=>by
 refine(vzx Z.K hg hm (jko ha (jko hb jqe hs2) hs3) hK hs hs2) pins s σ H R I ?_;refine kqt m w (show bnd (a E) _=some r from hc) xc λE1 s h1 x L1 H1 e1 e2 m1 w1 st sm=>?_
 have s1:Step H L H1 L1:=st.trans Step.drop;refine kqt (q:=q) m1 w1.tail h1 (xc.step s1) λE2 s2 h2 y L2 H2 e3 e4 m2 w2 st2 sm2=>?_
 have hh:=wke (T:=[some x]) w1 st2 w2;have w3:World Z.K H2 (some x::some y::L2):=hh.1;have st3:Step H1 (some x::L1) H2 (some x::some y::L2):=hh.2;obtain⟨ds,hd,rfl⟩:=jqr h2;have okx:=w3.head;have oky:=w3.tail.head;have wT:World Z.K H2 (L2++[x.let,y.let].map some):=by
  have wy:World Z.K H2 (some y.let::L2):=w3.tail.tail.consNo (jwj oky) rfl λb hb=>w3.tail.apart b hb
  have wx:World Z.K H2 (some x.let::some y.let::L2):=wy.consNo (jwj okx) rfl λb hb ho=>w3.apart b hb (by
   rw [jj3]at ho ⊢;exact lr9 _ ((List.mem_append.mp ho).elim (λz=>by rw[(jwk y).1]at z;exact nomatch z) id))
  exact World.comm (L:=[some x.let,some y.let]) wx
 have stAll:Step H L H2 (some x::some y::L2):=st.trans st3;have sT:Step H L H2 (L2++[x.let,y.let].map some):=by
  refine⟨stAll.keep,λb hb=>?_,λb hb=>?_⟩
  ·have:b∈jj6 L2:=by simpa [jwk]using hb
   exact stAll.own b (by rw[jj3,jj3];exact lr9 _ (lr9 _ this))
  ·have:b∈jjd L2\/b∈x.as\/b∈y.as:=by simpa [jwk]using hb
   rcases this with z | z | z
   ·exact stAll.frz b (by rw[jj8,jj8];exact lr9 _ (lr9 _ z))
   ·exact jx7 stAll b z
   ·rcases Sl.as_of z with z | z
    ·exact .inr (stAll.own b (by rw[jj3,jj3];exact lr9 _ (ll9 _ z)))
    ·exact stAll.frz b (by rw[jj8,jj8];exact lr9 _ (ll9 _ z))
 cases hx:x.d with
 | lst es =>
  cases hy:y.d with
  | lst fs =>
   rw [<-e2,<-e4,hx,hy]at hd;have hd:(if es.length<=big then some (kvu es fs)else none)=some ds:=hd
   split at hd
   rotate_left
   ·cases hd
   rename_i hlen;have hlen:es.length<=sizeLine:=hlen;cases oq9 hd;obtain⟨l1,xs,bs,ev,q3,r3,h3,_⟩:=items okx (.inl hx);have q3:LsR Z.K H2 l1 xs:=by rcases q3 with⟨_,z⟩| ⟨z,_⟩;exact z;rw[hx]at z;cases z
   obtain⟨l2,ys,cs,ev2,q4,r4,h4,_⟩:=items oky (.inl hy);have q4:LsR Z.K H2 l2 ys:=by rcases q4 with⟨_,z⟩| ⟨z,_⟩;exact z;rw[hy]at z;cases z
   have ag1:=kju (K:=Z.K) (H1:=H1) hx ev;have ag2:=kju (K:=Z.K) (H1:=H1) hy ev2;refine⟨l1,l2,by rw[ev,ev2],⟨xs,q3.sq⟩,⟨ys,q4.sq⟩,k _ _ rfl (Itz Z.K l1 l2) [x.let,y.let] L2 H2 m2 wT sT (by rw[kj1];omega) (λhq=>jj7 (sm hq).1 (sm2 hq).1) ⟨λt ht=>?_,λi H3 hok hi=>?_,λH3 hok=>?_,λi H3 v H4 d hok hyl hdi=>?_⟩⟩
   ·simp only[Xu,Xm,or_false]at ht;rcases ht with rfl | rfl<;>rfl
   ·obtain⟨us,cs1,a1,a2,_⟩:=ag1 H3 (hok _ (by simp));obtain⟨vs,cs2,b1,b2,_⟩:=ag2 H3 (hok _ (by simp));have hl:=a2.len;have hl2:=b2.len;rw[kj1]at hi;exact⟨us,vs,us[i]'(by omega),vs[i]'(by omega),a1,b1,X0 (by omega),X0 (by omega)⟩
   ·obtain⟨us,cs1,a1,a2,_⟩:=ag1 H3 (hok _ (by simp));obtain⟨vs,cs2,b1,b2,_⟩:=ag2 H3 (hok _ (by simp));have hl:=a2.len;have hl2:=b2.len;exact⟨us,vs,a1,b1,by rw[kj1];omega⟩
   ·obtain⟨us,cs1,a1,a2,a3⟩:=ag1 H3 (hok _ (by simp));obtain⟨vs,cs2,b1,b2,b3⟩:=ag2 H3 (hok _ (by simp));obtain⟨T,x',y',hT,rfl,rfl,g1,g2⟩:=hyl;rw[kz9]at hdi;cases he1:es[i]? with
    | none=>rw[he1]at hdi;cases hdi
    | some d1 =>
     cases he2:fs[i]? with
     | none=>rw[he1,he2]at hdi;cases hdi
     | some d2 =>
      rw[he1,he2]at hdi;cases oq9 hdi;obtain⟨v1,bs1,f1,f2,f3⟩:=a2.get he1;obtain⟨v2,bs2,j1,j2,j3⟩:=b2.get he2;have e5:v1=x':=by have:=g1 us a1;rw[f1]at this;exact oq9 this
      have e6:v2=y':=by have:=g2 vs b1;rw[j1]at this;exact oq9 this
      subst e5 e6;refine⟨⟨.no,_,.ref T,bs1++bs2⟩,rfl,rfl,rfl,jjp hT,kzs hT f2 j2,λb hb=>?_⟩;rcases List.mem_append.mp hb with z | z
      ·exact⟨x.let,by simp,a3 b (f3 b z)⟩
      ·exact⟨y.let,by simp,b3 b (j3 b z)⟩
  | _=>rw[<-e2,<-e4,hx,hy]at hd;cases hd
 | _=>rw[<-e2,hx]at hd;cases hd
end
end Q
namespace L3
open PySem PySem.Spec PyProof.Rows L2
def tX(X:Cx)(x:Addr):Cx:={ X with A:=X.A.mark (some (.ref x)),calm:=false,xe:=λ_ _=>False }
section
variable {X:Cx}{pins:List (Addr×Obj)}{σ:L2.St}{H:Hp}{s:Shared}{x:Addr}{ox:Obj}
theorem vke(I:Inv X pins σ H s):Inv (tX X x) pins σ H s :=
 ⟨⟨I.ok.mod,I.ok.kind,I.ok.glob,I.ok.blt,I.ok.above,I.ok.inj,I.ok.has,I.ok.cab,λz=>(by cases z),I.ok.frames,I.ok.stk,I.ok.exf,I.ok.bs,I.ok.bsz,I.ok.noex,I.ok.exfs,I.ok.funs,I.ok.frf⟩,I.os,I.bare,I.base,I.loc,I.cell,I.free,I.freeC,I.pin,I.hok,I.len⟩
theorem vw6(ok:X.Ok)(I:Inv (tX X x) pins σ H s):Inv X pins σ H s:=⟨ok,I.os,I.bare,I.base,I.loc,I.cell,I.free,I.freeC,I.pin,I.hok,I.len⟩
end
end L3
namespace Q
open PySem PySem.Spec PyProof.Rows L2 L3
theorem qkz{K:PySem.W.Frag}{C:Addr}(ga:PySem.W.findIn K (.ref C) "__getattribute__"=some (some (.builtin "BaseException.__getattribute__")))(gt:PySem.W.findIn K (.ref C) "__getattr__"=some none)(fa:PySem.W.findIn K (.ref C) "__class__"=some (some (.builtin "object.__class__")))
  (fg:PySem.W.specialIn K (.builtin "object.__class__") "__get__"=some (some (.builtin "getset_descriptor.__get__"))) (ft:PySem.W.takesIn K (.builtin "object.__class__")=some true) (ob:PySem.W.mroIn K C (.type "object")=some true) (bx:PySem.W.mroIn K C (.type "BaseException")=some true) (cl:PySem.W.isClsIn K C=true):XCls K C :=
 ⟨ga,gt,by
  obtain⟨cd,hc⟩:=Option.isSome_iff_exists.mp (show(PySem.W.clsIn K C).isSome=true from cl);unfold PySem.W.findObj;rw[hc,Option.bind_some,fa,Option.bind_some];simp[fg,ft],ob,bx,cl⟩
section
variable {X:Cx}{Z:Fx0}{pn:List Nat}{q:Bool}{a b c:Ex}{e ea eb:Expr}{es:List Expr}{pos p p2:Pos}{t:List (Str×Bool)}{y:Str}{u:V}
theorem qqs{x:Str}{C:Addr}{z:Str}{np cpos:Pos}(c:ECls X.K X.mg x C)(hm:Z.mg x=some (.ref C))(g:qkr X Z.EX)(hz:PE X e (tC (.str z)))(hg:Gl X x:=by rfl)(hc:X.calm=true:=by rfl)(hdb:(x==("__debug__":Str))=false:=by decide)
  (he:starEach [e] X.env=(false,eval e X.env)::starEach [] X.env:=by rfl) (hpl:((backTo cpos (starEach [e] X.env)).any (·.1))=false:=by rfl):
  QS X Z pn (sRz x) (.Raise (some (.Call (.Name x np) [e] [] cpos)) none pos):=jve (qzf c g (jko hz jqe he) hg hc hdb he hpl) λD σ H h_z=>ex7 h_z λE L r m w hr k=>by
 cases oq9 hr;exact⟨show(1:Nat)<=sizeLine by decide,k C σ L H hm Pn.refl m w Step.refl⟩
def QEX(X:Cx)(Z:Fx0)(q:Bool)(c:Ex)(e:Expr):Prop:=PEX X e λEX=>tQ ⟨Z.K,Z.mg,EX⟩ q c
theorem vv9{t t':XK->TE}(h:PEX X e t)(w:∀E σ H Q,t' E σ H Q->t E σ H Q):PEX X e t':=λE pins s σ H Q I q=>h E pins s σ H Q I (w E σ H Q q)
theorem qqu{k n:Nat}{x:Str}{ps:List Str}{f:Fn}{cs:List Ex}(D:jwh X.prog X.w X.K X.mg X.base k x ps (spF Z.K Z.mg n f))(hr:Room k X.A)(ha:QA X.nox ⟨Z.K,Z.mg,λ_ _ _=>False⟩ q cs (e::es))(hn:cs.length=n:=by rfl)(hg:Gl X x:=by rfl)(hdb:(x==("__debug__":Str))=false:=by decide)
  (he:starEach (e::es) X.env=(false,eval e X.env)::starEach es X.env:=by rfl) (hpl:(backTo pos (starEach es X.env)).any (·.1)=false:=by rfl):
  QEX X Z false (jxp f cs) (.Call (.Name x p) (e::es) [] pos):=vv9 (qzj D hr ha hg hdb he hpl) λEX σ H Q h_z=>ex8 h_z λE L r m w hc xc kk=>by
 have hc:jxp f cs E=some r:=hc;unfold jxp at hc
 split at hc
 ·rename_i E1 ys hA;refine⟨E,L,_,m,w,hA,(λ_ _ z=>by cases z),λE' ys' z xs L1 H1 e1 m1 w1 st sm=>?_⟩;injection z with z1 z2;subst z1 z2;show spF _ _ _ _ _ _ _ _;rw[Xq];have hlen:xs.length=n:=by
   rw[<-hn];have:ys.length=cs.length:=jwa hA;rw[<-this,<-e1,X3]
  cases hf:f (letAll ys)with
  | none=>rw[hf]at hc;cases hc
  | some fr =>
   rw[hf]at hc;obtain⟨wl,sl⟩:=jxu w1;have ev:xs.map Sl.v=(xs.map Sl.let).map Sl.v:=by rw[Y6];rfl
   rw[ev];refine⟨xs.map Sl.let,fr,rfl,by rw[X3];exact hlen,wl.left,by rw[<-e1]at hf;rw[kxu];exact hf,λE' c ee C H' hm s'=>?_,λE' a ee y H' e2 e3 w' s'=>?_⟩
   ·subst ee;cases oq9 hc;obtain⟨w2,s2⟩:=stay wl s' ⟨λ_ z=>(nomatch z),Xv,λ_ z=>(nomatch z)⟩;exact xc _ _ rfl C L1 H' hm m1 w2 ((st.trans sl).trans s2)
   ·subst ee;cases oq9 hc;obtain⟨w2,s2⟩:=stay wl s' w';exact kk _ _ rfl y L1 H' e2 e3 m1 w2 ((st.trans sl).trans s2) λhq=>nomatch hq
 ·cases hc
def kqj(K:PySem.W.Frag)(mg:Str->Option Value)(UC:Addr)(cs:List Str):Prop:=∀c∈cs,∃C,mg c=some (.ref C)/\PySem.W.nsIn K mainGlobals c=some (some (.ref C))/\PySem.W.exmOne K (.ref C) (.ref UC)=some true/\XCls K C
theorem kqc{K:PySem.W.Frag}{mg:Str->Option Value}{UC:Addr}:kqj K mg UC []:=λ_ z=>nomatch z
theorem kka{K:PySem.W.Frag}{mg:Str->Option Value}{UC C:Addr}{c:Str}{cs:List Str}(e:ECls K mg c C)(h:PySem.W.nsIn K mainGlobals c=some (some (.ref C)))(k:PySem.W.exmOne K (.ref C) (.ref UC)=some true)(r:kqj K mg UC cs):kqj K mg UC (c::cs):=λc' hc=>by
 rcases List.mem_cons.mp hc with rfl | hc
 ·exact⟨C,e.bd,h,k,e.xc⟩
 ·exact r c' hc
end
end Q
noncomputable section
namespace Q
open PySem PySem.Spec PyProof.Rows L2 L3
section
variable {X:Cx}{pins:List (Addr×Obj)}{σ:L2.St}{H:Hp}{s:Shared}{a b:Addr}{es:List Ent}{A:Around}{E:Value->Shared->Prop}{k:Kd}
mutual
theorem kj4(I:Inv X pins σ H s):∀{d:D} {v:V} {u:Value},PuR X.K H d v->RelV v u->jja s.heap d u
 | .non,_,_,h,r=>by unfold PuR at h;rw[h]at r;unfold jja;exact r
 | .int _,_,_,h,r=>by unfold PuR at h;rw[h]at r;unfold jja;exact r
 | .tup ds,_,_,h,r=>by
  unfold PuR at h;obtain⟨a,xs,rfl,q,ra⟩:=h;cases r;obtain⟨its,rv,p,_⟩:=I.tuple q;unfold jja;exact⟨a,its,rfl,p,purs_creps I ra rv⟩
 | .bl _,_,_,h,_=>by unfold PuR at h;exact h.elim
 | .str _,_,_,h,_=>by unfold PuR at h;exact h.elim
 | .lst _,_,_,h,_=>by unfold PuR at h;exact h.elim
 | .dct _,_,_,h,_=>by unfold PuR at h;exact h.elim
 | .obj _ _,_,_,h,_=>by unfold PuR at h;exact h.elim
theorem purs_creps(I:Inv X pins σ H s):∀{ds:List D} {xs:List V} {us:List Value},PuRs X.K H ds xs->Vals xs us->CReps s.heap ds us
 | [],_,_,h,r=>by unfold PuRs at h;rw[h]at r;cases r;unfold CReps;rfl
 | d::ds,_,_,h,r=>by
  unfold PuRs at h;obtain⟨x,rr,rfl,h1,h2⟩:=h;cases r with
  | cons r1 r2 =>
   unfold CReps;exact⟨_,_,rfl,kj4 I h1 r1,purs_creps I h2 r2⟩
end
mutual
theorem vjw{K:PySem.W.Frag}{g:Bool}:∀{n:Nat} {d:D} {v:V} {as:List Addr},jq5 n d=true->RepL K H g d v as->PuR K H d v
 | _,.non,_,_,_,h=>by unfold RepL at h;unfold PuR;exact h.1
 | _,.int _,_,_,_,h=>by unfold RepL at h;unfold PuR;exact h.1
 | 0,.tup _,_,_,hk,_=>by unfold jq5 at hk;cases hk
 | n+1,.tup ds,_,_,hk,h=>by
  unfold jq5 at hk;unfold RepL at h;obtain⟨a,xs,e,q,ra⟩:=h;unfold PuR;exact⟨a,xs,e,q,purs_of hk ra⟩
 | n,.bl _,_,_,hk,_=>by cases n<;>(unfold jq5 at hk;cases hk)
 | n,.str _,_,_,hk,_=>by cases n<;>(unfold jq5 at hk;cases hk)
 | n,.lst _,_,_,hk,_=>by cases n<;>(unfold jq5 at hk;cases hk)
 | n,.dct _,_,_,hk,_=>by cases n<;>(unfold jq5 at hk;cases hk)
 | n,.obj _ _,_,_,hk,_=>by cases n<;>(unfold jq5 at hk;cases hk)
theorem purs_of{K:PySem.W.Frag}{g:Bool}:∀{n:Nat} {ds:List D} {xs:List V} {as:List Addr},keyDs n ds=true->RepA K H g ds xs as->PuRs K H ds xs
 | _,[],_,_,_,h=>by unfold RepA at h;unfold PuRs;exact h.1
 | n,d::ds,_,_,hk,h=>by
  unfold keyDs at hk;rw[Bool.and_eq_true]at hk;unfold RepA at h;obtain⟨x,r,bs,cs,rfl,rfl,h1,h2⟩:=h;unfold PuRs;exact⟨x,r,rfl,vjw hk.1 h1,purs_of hk.2 h2⟩
end
theorem vkk{ep:Nat}(I:Inv X pins σ H s)(h:H a=some (jx2 a es ep))(hn:(es.map (·.1)).Nodup)(hk:∀x∈es,PuR X.K H x.1.1 (.ref x.2.1)):s.heap.DictOfH (kzf X.prog X.w) a es:=by
 obtain⟨⟨o,ds,h1,h2,h3,h4⟩,_⟩:=(show ObjOk X.prog X.w H s.heap a (jx2 a es ep)from I.hok a _ h);exact⟨o,ds,ep,h1,h2,h3,h4,λx hx=>kj4 I (hk x hx) rfl,hn⟩
theorem vkq:∀(es:List Ent) (k:Kd),(atKey es k).isSome=decide (k.1∈es.map (·.1.1))
 | [],k=>by simp[atKey]
 | x::es,k=>by
  have ih:=vkq es k
  by_cases h:x.1=k
  ·have:k.1∈(x::es).map (·.1.1):=by rw[<-h];simp
   rw[Xb this];simp[atKey,List.find?_cons,h]
  ·have e1:atKey (x::es) k=atKey es k:=by simp[atKey,List.find?_cons,h]
   have e2:(k.1∈(x::es).map (·.1.1))↔k.1∈es.map (·.1.1):=by
    rw[List.map_cons,Xu];exact⟨λz=>z.elim (λq=>absurd (Subtype.ext q.symm) h) id,.inr⟩
   rw[e1,ih];exact decide_eq_decide.mpr e2.symm
theorem vqj(hu:A.units+64<cLine):(kzf X.prog X.w).room A.in1:=by show A.units+1+40<cLine;omega
end
theorem vkl{K:PySem.W.Frag}{H:Hp}{y:Sl}{kvs:List (D×D)}(ok:y.ok K H)(hd:y.d=.dct kvs)(hu:unm kvs=true):∃a xs,y.v=.ref a/\DcN K H a (kvs.map (·.1)) xs:=by
 have h:=RepO.wk ok;rw[hd]at h;unfold RepL at h;obtain⟨a,xs,bs,e,_,q,_⟩:=h;exact⟨a,xs,e,DcA.un q hu⟩
theorem kq2{K:PySem.W.Frag}{H:Hp}{x:Sl}(ok:x.ok K H)(hk:jqy x.d=true):∃b,x.v=.ref b/\PuR K H x.d (.ref b):=by
 unfold jqy at hk;rw[Bool.and_eq_true]at hk;have h:=vjw hk.1 (RepO.wk ok);cases hd:x.d with
 | tup ds =>
  rw[hd]at h;have h':=h;unfold PuR at h;obtain⟨a,xs,e,_⟩:=h;exact⟨a,e,e▸h'⟩
 | _=>rw[hd]at hk;cases hk.2
theorem vwk{P:Program}{w:PySem.World}{H:Hp}(h:Heap):ObjOk P w H (h.push { cls:=.type "dict",data:=.dict #[] }) h.objs.size (jx2 h.objs.size [] 0):=
 ⟨⟨_,#[],Xl _ rfl,⟨rfl,rfl,rfl⟩,rfl,rfl⟩,⟨_,Xl _ rfl⟩,λh1 h2 ⟨o,ds,a1,a2⟩ k=>⟨o,ds,k o a1,a2⟩⟩
end Q
noncomputable section
namespace Q
open PySem PySem.Spec PyProof.Rows L2 L3
section
variable {K:PySem.W.Frag}{H:Hp}{g:Bool}{k:Kd}{b:Addr}{d:D}{x:V}{r:Value}{cs:List Addr}
theorem kw6{q : D}(hx : RepL K H g d x cs): ∀{kvs : List (D × D)} {xs : List V} {bs : List Addr}, RepP K H g kvs xs bs -> RepP K H g (kvs ++ [(q, d)]) (xs ++ [x]) (bs ++ cs)
  | [], _, _, h => by
    unfold RepP at h;obtain⟨rfl, rfl⟩:= h;show RepP K H g [(q, d)] [x] cs;unfold RepP;exact⟨x, [], cs, [], rfl, by simp, hx, by unfold RepP; exact⟨rfl, rfl⟩⟩
  | (p, e)::kvs, _, _, h => by
    unfold RepP at h;obtain⟨y, rr, b1, b2, rfl, rfl, h1, h2⟩:= h;rw[List.cons_append];unfold RepP;exact⟨y, rr ++ [x], b1, b2 ++ cs, rfl, by rw[Xr], h1, kw6 hx h2⟩
theorem kvv:∀{xs:List V} {us:List Value},Vals xs us->RelV x r->Vals (xs++[x]) (us++[r])
 | _,_,.nil,h=>.cons h .nil
 | _,_,.cons a t,h=>.cons a (kvv t h)
end
theorem qqx{K:PySem.W.Frag}{H:Hp}{T L:Ls}{i:Nat}{y:Sl}{l:Addr}{es es':List Ent}{ep ep':Nat}{xs':List V}{bs cs:List Addr}{kvs':List (D×D)}(w:World K H (T++L))(hy:L[i]?=some (some y))(hH:H l=some (jx2 l es ep))(ho:y.o=.rt)(ha:y.as=l::bs)(hv:y.v=.ref l)
  (r:RepP K H true kvs' xs' cs) (hc:∀a∈cs,a∈bs\/a∈jj6 T\/a∈jjd T) (hs:(l==sysModules)=false) (h2:es'.length<=sizeLine) (h3:(es'.map (·.1)).Nodup) (h4:kvs'.map (·.1)=es'.map (·.1.1)) (h5:∀n∈es',PuR K H n.1.1 (.ref n.2.1)) (h6:Vals xs' (es'.map (·.2.2))):
  World K (upd H l (jx2 l es' ep')) (L.set i (some ⟨.rt,.dct kvs',y.v,l::cs⟩))/\Step H (T++L) (upd H l (jx2 l es' ep')) (L.set i (some ⟨.rt,.dct kvs',y.v,l::cs⟩)):=by
 have hl:l∈y.own:=by unfold Sl.own;rw[ho,ha];simp
 have oL:l∈jj6 L:=mem_owned.mpr ⟨y,jjz hy,hl⟩;have oy:l∈jj6 (T++L):=by rw[jj2];exact lr9 _ oL
 have nd:=w.nd;rw[jj2,Xe]at nd;have nT:l∉jj6 T:=λz=>nd.2.2 l z l oL rfl
 have nF:l∉jjd T:=λz=>w.ds l oy (by rw[jj5];exact ll9 _ z)
 have nb:l∉bs:=λz=>by
  have:l∈y.frz:=by unfold Sl.frz;rw[ho,ha];exact z
  exact w.ds l oy (by rw[jj5];exact lr9 _ (mem_frozen.mpr ⟨y,jjz hy,this⟩))
 have nc:l∉cs:=λz=>by
  rcases hc l z with q | q | q
  ·exact nb q
  ·exact nT q
  ·exact nF q
 have kp:Kp H (upd H l (jx2 l es' ep')) cs:=by
  have k2:∀a o,H a=some o->a≠l->upd H l (jx2 l es' ep') a=some o:=λa o e ne=>by rw[jjv ne];exact e
  refine⟨λa zs e=>k2 a _ e λz=>?_,λa o u e=>k2 a _ e λz=>?_,λa ha o e=>k2 a o e λz=>nc (z▸ha)⟩
  ·subst z;rw[hH]at e;cases e
  ·subst z;rw[hH]at e;cases e
 refine World.writeAt w hy hl (y':=⟨.rt,.dct kvs',y.v,l::cs⟩) ⟨l,xs',cs,hv,r.kp kp,.inl ⟨es',ep',jjy,hs,h2,h3,h4,λn hn=>PuR.kp kp (h5 n hn),h6⟩,rfl⟩ (by simp[Sl.own]) (λa h=>?_) (λa h=>?_) (λa h z=>?_)
 ·have:a=l:=by simpa [Sl.own]using h
  subst this;exact .inl hl
 ·rcases hc a (by simpa [Sl.frz]using h)with q | q
  ·exact .inl (by rw[ha];exact lc9 _ q)
  ·exact .inr q
 ·have:a=l:=by simpa [Sl.own]using h
  subst this;exact nc (by simpa [Sl.frz]using z)
end Q
noncomputable section
namespace Q
open PySem PySem.Spec PyProof.Rows L2 L3
def vjm(h:Heap)(a:Addr)(ts:List DictEntry)(ep:Nat):Prop:=∃ob arr,h.get? a=some ob/\ob.ExactDict/\ob.data=.dict arr ep/\arr.toList=ts
theorem vwl{X:Cx}{pins:List (Addr×Obj)}{σ:L2.St}{H:Hp}{s:Shared}{a:Addr}{es:List Ent}{ep:Nat}(I:Inv X pins σ H s)(h:H a=some (jx2 a es ep)):vjm s.heap a (es.map λx=>(⟨kvh x.1.1,.ref x.2.1,x.2.2⟩:DictEntry)) ep:=by
 obtain⟨⟨o,ds,h1,h2,h3,h4⟩,_⟩:=(show ObjOk X.prog X.w H s.heap a (jx2 a es ep)from I.hok a _ h);exact⟨o,ds,h1,h2,h3,h4⟩
mutual
theorem qqk{K:PySem.W.Frag}{H:Hp}:∀{d:D} {v:V},PuR K H d v->RepL K H true d v []
 | .non,_,h=>by unfold PuR at h;unfold RepL;exact⟨h,rfl⟩
 | .int _,_,h=>by unfold PuR at h;unfold RepL;exact⟨h,rfl⟩
 | .tup ds,_,h=>by
  unfold PuR at h;obtain⟨a,xs,e,s,r⟩:=h;unfold RepL;exact⟨a,xs,e,s,rep_purs r⟩
 | .bl _,_,h=>by unfold PuR at h;exact h.elim
 | .str _,_,h=>by unfold PuR at h;exact h.elim
 | .lst _,_,h=>by unfold PuR at h;exact h.elim
 | .dct _,_,h=>by unfold PuR at h;exact h.elim
 | .obj _ _,_,h=>by unfold PuR at h;exact h.elim
theorem rep_purs{K:PySem.W.Frag}{H:Hp}:∀{ds:List D} {xs:List V},PuRs K H ds xs->RepA K H true ds xs []
 | [],_,h=>by unfold PuRs at h;unfold RepA;exact⟨h,rfl⟩
 | d::ds,_,h=>by
  unfold PuRs at h;obtain⟨x,r,e,h1,h2⟩:=h;unfold RepA;exact⟨x,r,[],[],e,rfl,qqk h1,rep_purs h2⟩
end
end Q
noncomputable section
namespace Q
open PySem PySem.Spec PyProof.Rows L2 L3
def wkh(K:PySem.W.Frag)(p:Addr)(Q:VK)(ps:List (V×V))(H2:Hp):Prop:=∃x y,ps=[(x,y)]/\H2 p=some (jx2 p [] 0)/\∃(b:Addr) (kd:Kd),x=.ref b/\PuR K H2 kd.1 (.ref b)/\∀r ep',RelV y r->Q (.ref p) (upd H2 p (jx2 p [(kd,b,r)] ep'))
abbrev wqp(K:PySem.W.Frag)(tk tv:TE):TE:=fun σ H Q=>∀p,H p=none->(p==sysModules)=false->tk σ (upd H p (jx2 p [] 0)) λx H1=>tv σ H1 λy H2=>wkh K p Q [(x,y)] H2
theorem vvb{X:Cx}{K:PySem.W.Frag}{pos:Pos}{k v:Expr}{tk tv:TE}(hu:X.A.units+64<cLine)(hk:PE X k tk)(hv:PE X v tv)(hK:X.K=K:=by rfl):PE X (.Dict [some k] [v] pos) (wqp K tk tv):=by
 subst hK;intro pins s σ H Q I h;have hn:=I.hok.fresh (X8 s.heap.objs.size);have I1:=I.laid (a:=s.heap.objs.size) (o:=jx2 s.heap.objs.size [] 0) (h':=s.heap.push { cls:=.type "dict",data:=.dict #[] }) (t':=s.toks) (λ_ _ q=>X6 _ q) (X8 _) (vwk s.heap);refine wpAny_Dict_any rfl rfl (by simp) (by simp) (thn (qzg hk hv vv3 pins _ σ _ (wkh X.K s.heap.objs.size Q) I1 (h _ hn (beq_false_of_ne (Nat.ne_of_gt I.big)))) λvs s2 hz=>?_);obtain⟨ps,H2,I2,rel,x,y,ep,e,b,kd,ex,pk,q⟩:=hz;subst ep ex;cases rel with
 | @cons p1 p2 t1 t2 h1 h2 =>
  cases h2;obtain⟨u,r⟩:=p2;obtain rfl:u=Value.ref b:=h1.1;have h1:RelV y r:=h1.2;unfold storeAll;rw[List.forIn_cons];refine X1 (X1 (wpAny_dictSet_heap (knd:=kzf X.prog X.w) (xs:=[]) (k:=kd) (by show X.A.units+40<cLine;omega) (kj4 I2 pk rfl) (vkk I2 e Xv (λ_ z=>absurd z Xm)) (λh' dd hs=>X5 ?_) (Y4 _)));show wpAny (model X.prog X.w) X.A (forIn [] PUnit.unit _) _ _ _;rw[List.forIn_nil];refine X5 ?_;obtain⟨o,ds,ep',hq,g2,g3,g4,_,_⟩:=dd;exact⟨.ref s.heap.objs.size,_,qwx (ob:=jx2 s.heap.objs.size [(kd,b,r)] ep') I2 (by rw[e];exact True.intro) hs ⟨o,hq⟩ ⟨⟨o,ds,hq,g2,g3,g4⟩,⟨o,hq⟩,λh1 h2 ⟨o,ds,a1,a2⟩ k=>⟨o,ds,k o a1,a2⟩⟩,rfl,q r ep' h1⟩
section
variable {X:Cx}{Z:Fx0}{q:Bool}{kc vc:Ex}{ke ve:Expr}{pos:Pos}
theorem vzm(hu:X.A.units+64<cLine)(hk:QE X Z q kc ke)(hv:QE X Z q vc ve)(hK:X.K=Z.K:=by rfl):QE X Z q (qx8 kc vc) (.Dict [some ke] [ve] pos):=jki (vvb hu hk hv hK) fun σ H Q h_z=>ex8 h_z λE L r m w hc xc k=>by
 intro p hp hs;have sm0:jqp H (upd H p (jx2 p [] 0)):=jjp hp;have st0:Step H L (upd H p (jx2 p [] 0)) L:=⟨λb ob h _=>sm0 b ob h,λ_ h=>.inl h,λ_ h=>.inl h⟩;have nL:p∉jj6 L:=λz=>w.own_some z hp
 have nF:p∉jjd L:=λz=>w.frz_some z hp
 have w0:World Z.K (upd H p (jx2 p [] 0)) L:=⟨λt ht=>RepO.kp (w.ok t ht) (Kp.of_same sm0),w.nd,w.ds⟩;have wd:World Z.K (upd H p (jx2 p [] 0)) ([some ⟨.rt,.dct [],.ref p,[p]⟩]++L):=by
  refine World.cons w0 ⟨p,[],[],rfl,by unfold RepP;exact⟨rfl,rfl⟩,.inl ⟨[],0,jjy,hs,Y4 _,Xv,rfl,λ_ z=>absurd z Xm,Paired.nil⟩,rfl⟩ (by simp[Sl.own]) (λb hb ho=>?_) (λb hb ho=>?_) (λb hb=>by simp[Sl.frz]at hb) (λb _ hb=>by simp[Sl.frz]at hb)
  ·have:b=p:=by simpa [Sl.own]using hb
   exact nL (this▸ho)
  ·have:b=p:=by simpa [Sl.own]using hb
   exact nF (this▸ho)
 refine kqt m w0 (show bnd (kc E) _=some r from hc) (xc.step st0) λE1 s1 h1 x L1 H1 e1 e2 m1 w1 st1 sm1=>?_
 obtain⟨wd1,sd1⟩:=wke wd st1 w1;have s1':Step H L H1 L1:=(st0.trans st1).trans Step.drop;refine kqt m1 w1.tail (show bnd (vc E1) _=some r from h1) (xc.step s1') λE2 s2 h2 y L2 H2 e3 e4 m2 w2 st2 sm2=>?_
 have pm:(([some ⟨.rt,.dct [],.ref p,[p]⟩]:Ls)++(some x::L1)).Perm (([some x,some ⟨.rt,.dct [],.ref p,[p]⟩]:Ls)++L1):=List.Perm.swap _ _ _;obtain⟨wd2,sd2⟩:=wke (wd1.perm pm) st2 w2;have pm2:(([some x,some ⟨.rt,.dct [],.ref p,[p]⟩]:Ls)++(some y::L2)).Perm (([some x,some y]:Ls)++(some ⟨.rt,.dct [],.ref p,[p]⟩::L2)):=List.Perm.cons _ (List.Perm.swap _ _ _);have w3:=wd2.perm pm2;have st3:Step (upd H p (jx2 p [] 0)) ([some ⟨.rt,.dct [],.ref p,[p]⟩]++L) H2 ([some x,some y]++(some ⟨.rt,.dct [],.ref p,[p]⟩::L2)):=(sd1.perm (List.Perm.refl _) pm).trans (sd2.perm (List.Perm.refl _) pm2)
 by_cases hkt:jqy s1.2=true
 ·rw [Xf hkt]at h2;cases oq9 h2;have okx:x.ok Z.K H2:=w3.ok x (by simp);have hkz:jqy x.d=true:=by rw[e2];exact hkt
  obtain⟨b,eb,pb⟩:=kq2 okx hkz;have hk6:jq5 6 x.d=true:=by unfold jqy at hkz;rw[Bool.and_eq_true]at hkz;exact hkz.1
  obtain⟨a,xs0,bs0,ea,_,q4,_⟩:=(show RepR Z.K H2 (.dct []) (.ref p) [p]from w3.ok ⟨.rt,.dct [],.ref p,[p]⟩ (by simp));obtain⟨es,ep,g1,_⟩:=DcA.un (kvs:=[]) q4 rfl;have hH2:H2 p=some (jx2 p [] 0):=by
   have n1:p∉jj6 (some x::L1):=λz=>by
    rcases st1.own p z with z | z
    ·exact nL z
    ·rw[jjy]at z;cases z
   have hH1:H1 p=some (jx2 p [] 0):=st1.keep p _ jjy nL;exact st2.keep p _ hH1 λz=>n1 (by rw[jj3];exact lr9 _ z)
  have rv:RepL Z.K H2 true s2.2 y.v y.as:=by rw[<-e4];exact RepO.wk (w3.ok y (by simp))
  refine⟨x.v,y.v,rfl,hH2,b,⟨x.d,hk6⟩,eb,pb,λrr ep' hrr=>?_⟩;obtain⟨w4,st4⟩:=qqx (ep':=ep') (es':=[(⟨x.d,hk6⟩,b,rr)]) (xs':=[y.v]) (cs:=y.as) (kvs':=[(x.d,s2.2)]) (bs:=[]) (i:=0) (y:=⟨.rt,.dct [],.ref p,[p]⟩) w3 rfl hH2 rfl rfl rfl
   (by unfold RepP;exact⟨y.v,[],y.as,[],rfl,by simp,rv,by unfold RepP;exact⟨rfl,rfl⟩⟩)
   (λc hc'=>.inr (by
    rcases Sl.as_of hc' with z | z
    ·exact .inl (by simpa using .inr z)
    ·exact .inr (by simpa using .inr z))) hs (by show(1:Nat)<=sizeLine;decide) (List.nodup_cons.mpr ⟨Xm,Xv⟩) rfl (λn hn=>by rw[List.mem_singleton.mp hn];exact pb) (.cons hrr .nil)
  have stA:Step (upd H p (jx2 p [] 0)) ([some ⟨.rt,.dct [],.ref p,[p]⟩]++L) _ _:=st3.trans st4;refine k _ _ rfl ⟨.rt,.dct [(x.d,s2.2)],.ref p,p::y.as⟩ L2 _ rfl (congrArg (λd=>D.dct [(d,s2.2)]) e2) m2 w4 ?_ λhq=>?_
  ·refine⟨λc ob h hn=>stA.keep c ob (sm0 c ob h) λz=>?_,λc hc'=>?_,λc hc'=>?_⟩
   ·rw[Y9,jj3]at z;rcases List.mem_append.mp z with z | z
    ·have:c=p:=by simpa [Sl.own]using z
     rw[this,hp]at h;cases h
    ·exact hn z
   ·rcases stA.own c hc' with z | z
    ·rw[Y9,jj3]at z;rcases List.mem_append.mp z with z | z
     ·have:c=p:=by simpa [Sl.own]using z
      exact .inr (this▸hp)
     ·exact .inl z
    ·exact .inr (by
      cases hc0:H c with
      | none=>rfl
      | some ob=>rw[sm0 c ob hc0]at z;cases z)
   ·have hcp:c=p->H c=none:=λz=>z▸hp
    rcases stA.frz c hc' with z | z | z
    ·rw[Y9,jj8]at z;rcases List.mem_append.mp z with z | z
     ·simp[Sl.frz]at z
     ·exact .inl z
    ·rw[Y9,jj3]at z;rcases List.mem_append.mp z with z | z
     ·have:c=p:=by simpa [Sl.own]using z
      exact .inr (.inr (this▸hp))
     ·exact .inr (.inl z)
    ·exact .inr (.inr (by
      cases hc0:H c with
      | none=>rfl
      | some ob=>rw[sm0 c ob hc0]at z;cases z))
  ·refine⟨λc ob h=>?_,λc hc'=>?_⟩
   ·have hne:c≠p:=λz=>by rw[z,hp]at h;cases h
    rw[jjv hne];exact(sm2 hq).1 c ob ((sm1 hq).1 c ob (sm0 c ob h))
   ·have:c=p:=by simpa [Sl.own]using hc'
    exact this▸hp
 ·rw[Xj hkt]at h2;cases h2
end
end Q
noncomputable section
namespace Q
open PySem PySem.Spec PyProof.Rows L2 L3
section
variable {prog:Program}{w:PySem.World}{A:Around}{E:Value->Shared->Prop}{s:Shared}{a it:Addr}{ts:List DictEntry}{ep i:Nat}
theorem qw0{Q:Value->Shared->Prop}(hs:(a==sysModules)=false)(hd:vjm s.heap a ts ep)
  (q:Q (.ref s.heap.objs.size) { s with heap:=s.heap.push { cls:=.type "dict_keyiterator",data:=.fields #[.ref a,.int 0 0,.int ts.length 0,.int ep 0] } }):wpAny (model prog w) A (pyIter (.ref a)) Q E s:=by
 obtain⟨ob,arr,g1,g2,g3,g4⟩:=hd;have ty:s.TypeIs (.ref a) "dict":=⟨ob,g1,g2.1⟩;have hl:arr.size=ts.length:=by rw[<-g4];simp
 refine wpAny_pyIter_slot ty F.slot_dict_iter (Yf F.slot_dict_iter ty F.entry_dict_iter ?_ (F.args_dict_iter_1 _));unfold Builtin.«dict.__iter__» Builtin.Dict.dictSlotNone;refine X1 (X1 (wpAny_notOrdered_dict ty ?_));show wpAny _ _ (pure (Value.ref a)) _ _ s;refine X5 ?_;show wpAny _ _ (Builtin.Dict.showsAll a >>= _) _ _ s;unfold Builtin.Dict.showsAll;rw[Xj (by rw[hs];exact Bool.false_ne_true)];refine X1 (X5 (X1 (wpAny_dictEntries g1 g3 (X1 (wpAny_dictEpoch g1 g3 ?_)))));refine X1 (Y0 (X5 ⟨_,rfl,"dict_keyiterator",_,⟨_,Xl _ rfl,rfl⟩,F.slot_dict_keyiterator_next.lookup,?_⟩))
 simpa [rawInt,hl]using q
theorem qvz{en:DictEntry}{Q:Option Value->Shared->Prop}(hi:s.heap.IsKeyIter it a i ts.length ep)(hd:vjm s.heap a ts ep)(hx:ts[i]?=some en)
  (q:∀h',h'.IsKeyIter it a (i+1) ts.length ep->Heap.SameBut it s.heap h'->Q (some en.key) { s with heap:=h' }):wpAny (model prog w) A (pyNext (.ref it)) Q E s:=by
 have ty:=hi.typeIs;obtain⟨o,h1,h2,h3⟩:=hi;obtain⟨ob,arr,g1,g2,g3,g4⟩:=hd;have hl:arr.size=ts.length:=by rw[<-g4];simp
 have hlt:i<arr.size:=by rw[hl];exact(List.getElem?_eq_some_iff.mp hx).1
 have hen:arr[i]=en:=by
  rw[<-g4,Yi,Array.getElem?_eq_getElem hlt]at hx;exact oq9 hx
 have ow:Builtin.Dict_items.ownsTuple "dict_keyiterator"=false:=by decide
 unfold pyNext;refine X1 (wpAny_attempt (wpAny_callSpecial?_slot (name:=Str.ofString "__next__") ty F.slot_dict_keyiterator_next (Yf F.slot_dict_keyiterator_next ty F.entry_dict_keyiterator_next ?_ (F.args_dict_keyiterator_next_1 _))));refine X1 (X5 (X1 (X1 ?_)))
 first
  | refine X1 (Yk ty (X5 (X1 (wpAny_fieldsOf h1 h3 ?_))))
  | refine X1 (wpAny_typeNameOf_keyiter ty (X5 (X1 (wpAny_fieldsOf h1 h3 ?_))))
 simp only[ow,Bool.false_eq_true,if_false];show wpAny _ _ (if(Value.ref a==Value.none)=true then _ else _) _ _ s;rw[Xj (show ¬((Value.ref a==Value.none)=true)from λz=>nomatch z)];refine X1 (X5 (X1 (wpAny_dictEntries g1 g3 ?_)));rw[Xj (by rw[hl];simp)];refine X1 (X5 (X1 (wpAny_dictEpoch g1 g3 ?_)));rw[Xj (by simp)];refine X5 ?_;simp only[show ¬((i:Int)<0)from by omega,if_false,Yb,Array.getElem?_eq_getElem hlt,hen];refine X1 ?_
 first
  | refine X1 (Yk ty (X5 (X1 (wpAny_isOneOf_keyiter ty ?_))))
  | refine X1 (wpAny_typeNameOf_keyiter ty (X5 (X1 (wpAny_isOneOf_keyiter ty ?_))))
 show wpAny _ _ (setField (.ref it) 1 (rawInt ((i:Int)+1)) >>= _) _ _ s;refine X1 (wpAny_setField h1 h3 (by simp) ?_);have hit':(s.heap.update it (Obj.mapFields (·.setIfInBounds 1 (rawInt ((i:Int)+1))))).IsKeyIter it a (i+1) ts.length ep:=⟨_,Heap.get?_update_self _ h1 (Obj.isFreed_of_fields (Obj.data_mapFields h3 _)),(Obj.cls_mapFields ..).trans h2,by rw[Obj.data_mapFields h3];simp[rawInt]⟩;refine X1 (Yq (X1 (wpAny_isOneOf_keyiter (s:={ s with heap:=s.heap.update it (Obj.mapFields (·.setIfInBounds 1 (rawInt ((i:Int)+1)))) }) hit'.typeIs ?_)));show wpAny _ _ (pure en.key) _ _ _;exact X5 (X5 ⟨_,rfl,X5 (q _ hit' (Heap.SameBut.update ..))⟩)
theorem qvy{Q:Option Value->Shared->Prop}(hh:A.handled=none)(hi:s.heap.IsKeyIter it a i ts.length ep)(hd:vjm s.heap a ts ep)(hx:ts.length<=i)(q:∀h',Heap.ExtBut it s.heap h'->Q none { s with heap:=h' }):wpAny (model prog w) A (pyNext (.ref it)) Q E s:=by
 have ty:=hi.typeIs;obtain⟨o,h1,h2,h3⟩:=hi;obtain⟨ob,arr,g1,g2,g3,g4⟩:=hd;have hl:arr.size=ts.length:=by rw[<-g4];simp
 have ow:Builtin.Dict_items.ownsTuple "dict_keyiterator"=false:=by decide
 unfold pyNext;refine X1 (wpAny_attempt (wpAny_callSpecial?_slot (name:=Str.ofString "__next__") ty F.slot_dict_keyiterator_next (Yf F.slot_dict_keyiterator_next ty F.entry_dict_keyiterator_next ?_ (F.args_dict_keyiterator_next_1 _))));refine X1 (X5 (X1 (X1 ?_)))
 first
  | refine X1 (Yk ty (X5 (X1 (wpAny_fieldsOf h1 h3 ?_))))
  | refine X1 (wpAny_typeNameOf_keyiter ty (X5 (X1 (wpAny_fieldsOf h1 h3 ?_))))
 simp only[ow,Bool.false_eq_true,if_false];show wpAny _ _ (if(Value.ref a==Value.none)=true then _ else _) _ _ s;rw[Xj (show ¬((Value.ref a==Value.none)=true)from λz=>nomatch z)];refine X1 (X5 (X1 (wpAny_dictEntries g1 g3 ?_)));rw[Xj (by rw[hl];simp)];refine X1 (X5 (X1 (wpAny_dictEpoch g1 g3 ?_)));rw[Xj (by simp)];refine X5 ?_;simp only[show ¬((i:Int)<0)from by omega,if_false,Yb,Array.getElem?_eq_none (show arr.size<=i by omega)];refine X1 ?_
 first
  | refine X1 (Yk ty (X5 ?_))
  | refine X1 (wpAny_typeNameOf_keyiter ty (X5 ?_))
 show wpAny _ _ (setField (.ref it) 0 .none >>= _) _ _ s;refine X1 (wpAny_setField h1 h3 (by simp) ?_);show wpAny _ _ (newExc (.type "StopIteration") [] >>= _) _ _ _;refine X1 ?_;simp only[newExc,newTuple];refine X1 (Y0 (X1 (m:=firstArgMember _ _) (wpAny_of_eq (a:=Value.none) (by first | rfl | (simp only[firstArgMember];rfl)) (Y0 ?_ (by size_fits)))) (by size_fits));simp only[raiseNew];refine X1 (wpAny_handled ?_);rw[show A.in1.handled=none from hh];have tyS:∀(hq:Heap) (ob:Obj),ob.cls=.type "StopIteration"->(hq.push ob).get? hq.objs.size=some ob->Shared.TypeIs { s with heap:=hq.push ob } (.ref hq.objs.size) "StopIteration":=λhq ob h1 h2=>⟨_,h2,h1⟩
 refine X1 (X5 (wpAny_throw ?_));refine X1 (wpAny_isInstance (b:=true) (tyS _ _ rfl (Xl _ rfl)) isSubtype_stop ?_);exact X5 (q _ (((Heap.SameBut.update ..).extBut.push _).push _))
theorem jxm{h h':Heap}(hd:vjm h a ts ep)(k:∀o,h.get? a=some o->h'.get? a=some o):vjm h' a ts ep:=by
 obtain⟨ob,arr,g1,g⟩:=hd;exact⟨ob,arr,k ob g1,g⟩
theorem kz2{h:Heap}(hd:vjm h a ts ep):a<h.objs.size:=by
 obtain⟨ob,arr,g1,g⟩:=hd;exact Xh g1
theorem qjy(hh:A.handled=none)(I:Addr)(hne:a≠I):PySem.Walks prog w A I [I,a] [I] ts.length (λi v=>∃en,ts[i]?=some en/\v=en.key) (λi h=>h.IsKeyIter I a i ts.length ep/\vjm h a ts ep) where
 sub:=λb hb=>by simp at hb;simp[hb]
 frame:=λ_ _ _ st hk=>⟨st.1.at λo e=>hk I (by simp) o e,jxm st.2 λo e=>hk a (by simp) o e⟩
 item:=λi s Q E hi st hQ=>qvz st.1 st.2 (X0 hi) λh' hit' hs' =>
  hQ _ h' s.toks ⟨_,X0 hi,rfl⟩ ⟨hit',jxm st.2 λo e=>hs'.extBut a o hne e⟩ λb o hb e=>hs'.extBut b o (λh=>hb (by simp[h])) e
 done:=λs Q E st hQ=>qvy hh st.1 st.2 (X8 _) λh' he'=>hQ h' s.toks λb o hb e=>he' b o (λh=>hb (by simp[h])) e
 self:=λ_ _ _ _ st hQ=>wpAny_pyIter_keyiter st.1 hQ
theorem qxz(lo:(a==sysModules)=false):PySem.W.KdlSrc prog w "dict" a a ts.length (λi v=>∃en,ts[i]?=some en/\v=en.key) (λh=>vjm h a ts ep) where
 type:=λ_ hm=>by obtain⟨ob,arr,g1,g2,_⟩:=hm;exact⟨ob,g1,g2.1⟩
 there:=λ_ hm=>⟨kz2 hm,kz2 hm⟩
 keep:=λ_ _ hm hk=>jxm hm λo e=>hk a (.inl rfl) o e
 notList:=by decide
 notTuple:=by decide
 hint:=λ_ _ _ _ hm hq=>PySem.W.kdl_hint_dict (by obtain⟨ob,arr,g1,g2,_⟩:=hm;exact⟨ob,g1,g2.1⟩) hq
 iter:=λ_ _ hh hm=>⟨_,_,(λ_ _ hq=>qw0 lo hm hq),qjy hh _ (Xw (kz2 hm)),⟨⟨_,Xl _ rfl,rfl,rfl⟩,jxm hm λo e=>X6 _ e⟩⟩
end
def vjs(K:PySem.W.Frag):List V->Hp->VK->Prop:=λxs H Q=>∃a es ep,xs=[.ref a]/\H a=some (jx2 a es ep)/\(a==sysModules)=false/\es.length<=sizeLine/\∀l,H l=none->Q (.ref l) (upd H l (.lst (es.map λn=>V.ref n.2.1)))
theorem kvw:∀(es:List Ent),Vals (es.map λn=>V.ref n.2.1) (es.map λn=>Value.ref n.2.1)
 | []=>.nil
 | n::es=>.cons rfl (kvw es)
theorem kqg{X:Cx}{K:PySem.W.Frag}(hc:X.calm=true:=by rfl):CallR X (.type "list") (vjs K):=by
 intro pins s σ H xs us Q I r h;obtain⟨a,es,ep,rfl,hH,hs,hl,q⟩:=h;obtain⟨u,rfl,rx⟩:=jx3 r;cases rx;refine PySem.W.kdl_call (qxz (ts:=es.map λx=>(⟨kvh x.1.1,.ref x.2.1,x.2.2⟩:DictEntry)) (ep:=ep) hs) (I.ok.hd hc) (vwl I hH) (by rw[X3];exact hl) λh' tk acc c kp e hacc=>?_
 have he:acc.toList=es.map λn=>Value.ref n.2.1:=by
  refine List.ext_getElem? λi=>?_
  rw[Xi];have hn:acc.size=es.length:=by have:=hacc.1;simpa using this
  cases hv:acc[i]? with
  | none=>rw[Yi,hv,Y8 (by have:=Array.getElem?_eq_none_iff.mp hv;omega)];rfl
  | some v =>
   obtain⟨en,h1,h2⟩:=hacc.2 i v hv;rw[Yi,hv,h2];rw[Xi]at h1;cases hes:es[i]? with
   | none=>rw[hes]at h1;cases h1
   | some n=>rw[hes]at h1;cases oq9 h1;rfl
 refine⟨.ref s.heap.objs.size,_,I.laid kp (X8 _) (show ObjOk X.prog X.w _ h' _ (.lst (es.map λn=>V.ref n.2.1))from⟨by rw[X3];exact hl,es.map λn=>Value.ref n.2.1,c,kvw es,by rw[<-he];simpa using e⟩),rfl,q _ (I.hok.fresh (X8 _))⟩
theorem kw7{K:PySem.W.Frag}{H:Hp}:∀{es:List Ent},(∀n∈es,PuR K H n.1.1 (.ref n.2.1))->RepA K H true (es.map (·.1.1)) (es.map λn=>V.ref n.2.1) []
 | [],_=>by unfold RepA;exact⟨rfl,rfl⟩
 | n::es,h=>by
  rw[List.map_cons,List.map_cons];unfold RepA;exact⟨_,_,[],[],rfl,rfl,qqk (h n X4),kw7 λm hm=>h m (lc9 _ hm)⟩
theorem qju{K:PySem.W.Frag}:Ad1 K (λv H Q=>vjs K [v] H Q) jxk:=by
 intro H x s Q ok hf k;unfold jxk at hf;cases hx:x.d with
 | dct kvs =>
  rw[show(x.o,x.d).2=D.dct kvs from hx]at hf;have hf:(if kvs.length<=big/\unm kvs=true then some (Own.rt,D.lst (kvs.map (·.1)))else none)=some s:=hf
  split at hf
  rotate_left
  ·cases hf
  rename_i hlen;cases oq9 hf;have okL:RepL K H true (.dct kvs) x.v x.as:=by rw[<-hx];exact jwj ok
  unfold RepL at okL;obtain⟨a,xs,bs,ev,rp,q4,eas⟩:=okL;obtain⟨es,ep,g1,g2,g3,g4,g5,g6,g7⟩:=DcA.un q4 hlen.2;refine⟨a,es,ep,by rw[ev],g1,g2,g3,λl hl=>k ⟨.rt,.lst (kvs.map (·.1)),.ref l,[l]⟩ _ rfl rfl ⟨jjp hl,⟨l,_,[],rfl,?_,jjy,rfl⟩,λb hb=>?_,by simp[Sl.own],λb hb=>?_⟩⟩
  ·rw[g5];exact(kw7 g6).kp (Kp.of_same (jjp hl))
  ·have:b=l:=by simpa [Sl.own]using hb
   exact this▸hl
  ·simp[Sl.frz]at hb
 | _=>rw[show(x.o,x.d).2=_ from hx]at hf;cases hf
end Q
noncomputable section
namespace Q
open PySem PySem.Spec PyProof.Rows L2 L3
theorem kxl{is:List Int}{val:Nat->Int}(hv:∀i (h:i<is.length),val i=is[i]):∀n,n<=is.length->preSum val n=(is.take n).sum
 | 0,_=>by simp[preSum]
 | n+1,h=>by
  rw[preSum,kxl hv n (by omega),hv n (by omega),List.take_succ_eq_append_getElem (by omega),List.sum_append];simp
theorem vxu{is:List Int}(h:∀i∈is,0<=i/\i<=1000000):0<=is.sum/\is.sum<=1000000*is.length:=by
 induction is with
 | nil=>simp
 | cons a is ih =>
  have h1:=h a X4;have h2:=ih λi hi=>h i (lc9 _ hi)
  rw[List.sum_cons,Xd];omega
def wqz(K:PySem.W.Frag):List V->Hp->VK->Prop:=λxs H Q=>∃(p:Addr) (is:List Int),xs=[.ref p]/\SqL K H p (is.map V.int)/\kw1 is=true/\is.length<=100000/\Q (.int is.sum) H
theorem vje{X:Cx}(hc:X.calm=true:=by rfl):CallR X (.builtin "sum") (wqz X.K):=by
 intro pins s σ H xs us Q I r h;obtain⟨p,is,rfl,hq,hs,hl,q⟩:=h;obtain⟨u,rfl,ru⟩:=jx3 r;cases ru;obtain⟨its,rv,pl,hz⟩:=I.list hq;have hli:=pl.isList;have hlt:p<s.heap.objs.size:=by obtain⟨_,e,_⟩:=hli;exact Xh e
 have hlen:is.length=its.length:=by rw[<-rv.length,X3]
 have hb:∀i∈is,0<=i/\i<=1000000:=λi hi=>by
  have:=List.all_eq_true.mp hs i hi;rw[Bool.and_eq_true]at this;exact⟨Ym this.1,Ym this.2⟩
 have hval:∀i (h:i<is.length),(λi=>is.getD i 0) i=is[i]:=λi h=>by
  show is.getD i 0=_;rw[X2,X0 h];rfl
 refine call_sum_walk (wpAny_pyIter_list hli ?_);refine⟨s.heap.objs.size,[s.heap.objs.size,p],[s.heap.objs.size],its.toArray.size,_,_,λi=>is.getD i 0,rfl,PySem.Walks.list (A:=X.A.in1) (I.ok.hd hc) _ p (Xw hlt) its.toArray,
  ⟨⟨_,Xl _ rfl,rfl,rfl⟩,hli.push _⟩,λb hb'=>?_,λi v hP=>?_,λj hj=>?_,λh' tk t' hk=>?_⟩
 ·rw[Heap.size_push];simp only[Xu,Xm,or_false]at hb';rcases hb' with e | e
  ·rw[e];exact Nat.lt_succ_self _
  ·rw[e];exact Nat.lt_succ_of_lt hlt
 ·have hP:its[i]?=some v:=by simpa using hP
  have hi:i<is.length:=by rw[hlen];exact(List.getElem?_eq_some_iff.mp hP).1
  obtain⟨u,e1,e2⟩:=rv.get (i:=i) (x:=.int is[i]) (by rw[Xi,X0 hi];rfl);rw[hP]at e1;cases oq9 e1;obtain⟨t,rfl⟩:=e2;exact⟨t,by rw[hval i hi]⟩
 ·have hj:j<is.length:=by rw[hlen];simpa using hj
  have h1:=hb _ (Xk hj);have h2:=vxu (is:=is.take (j+1)) λi hi=>hb i (List.mem_of_mem_take hi)
  rw[hval j hj,kxl hval (j+1) hj];have h3:(is.take (j+1)).length<=100000:=by rw[List.length_take];omega
  exact⟨⟨by omega,by omega⟩,⟨by omega,by omega⟩⟩
 ·rw[Xa,<-hlen,kxl hval is.length (X8 _),List.take_length];refine⟨.int _,H,I.kept (t':=tk) (h':=h') λb o e=>hk b o (λz=>?_) (X6 _ e),⟨_,rfl⟩,q⟩;exact absurd (Xh e) (by rw[List.mem_singleton.mp z];exact Yc _)
theorem vwp{X:Cx}(K:PySem.W.Frag)(hK:X.K=K:=by rfl)(hc:X.calm=true:=by rfl):CallR X (.builtin "sum") (wqz K):=by subst hK;exact vje hc
theorem wq0{K:PySem.W.Frag}:Ad1 K (λv H Q=>wqz K [v] H Q) (pu1 vxb):=by
 intro H x s Q ok hf k;unfold pu1 vxb at hf;dsimp only at hf
 split at hf
 ·rename_i ds e;cases hb:kjz ds with
  | none=>rw[hb]at hf;cases hf
  | some is =>
   rw[hb]at hf;dsimp only at hf
   by_cases hs:kw1 is=true/\is.length<=100000
   ·rw[Xf hs]at hf;cases oq9 hf;obtain⟨l,xs,cs,ev,q3,r3,_⟩:=items ok (.inl e);have q3:LsR K H l xs:=by rcases q3 with⟨_,z⟩| ⟨z,_⟩;exact z;rw[e]at z;cases z
    exact⟨l,is,by rw[ev],by rw[<-kvf hb r3];exact q3.sq,hs.1,hs.2,k ⟨.dp,.int _,.int _,[]⟩ H rfl rfl vk2⟩
   ·rw[Xj hs]at hf;cases hf
 ·cases hf
def wwn(neg:Bool):R2:=λx y H Q=>∃a b,x=.bl a/\y=.bl b/\Q (.bl (neg != (a==b))) H
theorem wjf{X:Cx}:OpR X (compareOp .IsNot) (wwn true):=by
 intro pins s σ H x y v u Q I rx ry h;obtain⟨a,b,rfl,rfl,q⟩:=h;cases rx;cases ry;exact isnot_bool (qjj I q (by cases a<;>cases b<;>rfl))
theorem vk5{K:PySem.W.Frag}{H:Hp}{x:Sl}{a:Bool}(ok:x.ok K H)(h:x.d=.bl a):x.v=.bl a:=by
 have:=RepO.wk ok;rw[h]at this;unfold RepL at this;exact this.1
theorem vx1{K:PySem.W.Frag}:Ad2 K (wwn true) (pu2 qkk):=by
 intro H x y s Q ox oy hf k;unfold pu2 qkk at hf;cases hx:x.d with
 | bl a=>cases hy:y.d with
  | bl b =>
   rw[show(x.o,x.d).2=D.bl a from hx,show(y.o,y.d).2=D.bl b from hy]at hf;cases oq9 hf;exact⟨a,b,vk5 ox hx,vk5 oy hy,by rw[show(true != (a==b))=(!(a==b))by cases a<;>cases b<;>rfl];exact k ⟨.dp,.bl _,.bl _,[]⟩ H rfl rfl qj0⟩
  | _=>rw[show(x.o,x.d).2=D.bl a from hx,show(y.o,y.d).2=_ from hy]at hf;cases hf
 | _=>rw[show(x.o,x.d).2=_ from hx]at hf;cases hf
theorem vwv:∀x y s,pu2 qkk x y=some s->∃k,s.2=.bl k:=by
 intro x y s h;unfold pu2 qkk at h
 split at h
 ·cases oq9 h;exact⟨_,rfl⟩
 ·cases h
end Q
noncomputable section
noncomputable section
noncomputable section
noncomputable section
namespace Q
open PySem PySem.Spec PyProof.Rows L2 L3
theorem wv8{X:Cx}{Z:Fx0}{q:Bool}:QA X Z q [] []:=kwa jqe fun σ H Q h_z=>ex8 h_z λE L r m w hc xc k=>by
 cases oq9 hc;exact k _ _ rfl [] L H rfl m w Step.refl λ_=>⟨λ_ _ z=>z,λ_ z=>(nomatch z)⟩
end Q
noncomputable section
noncomputable section
noncomputable section
noncomputable section
noncomputable section
namespace PySem
section
variable {prog:Program}{w:World}{K:Type}[DecidableEq K]{knd:HeapKind prog w K}{A:Around}{E:Value->Shared->Prop}{s:Shared}
theorem jqq{d a:Addr}{xs:List (K×Addr×Value)}{k:K}{v:Value}{Q:Value->Shared->Prop}(hu:knd.room A)(hkey:knd.is s.heap k a)(hm:s.heap.DictOfH knd d xs)
  (h1:∀p,atKey xs k=some p->Q p.2 { s with toks:=s.toks+knd.draws k })
  (h2:atKey xs k=none->∀h',h'.DictOfH knd d (storedH xs k a v)->Heap.SameBut d s.heap h'->Q v { s with heap:=h',toks:=s.toks+knd.draws k })
  (hsz:xs.length<=sizeLine:=by size_fits):
  wpAny (model prog w) A (dictSetDefault d (.ref a) v) Q E s:=by
 obtain⟨o,es,ep,ho,hc,hd,he,his,hn⟩:=hm;unfold dictSetDefault
 try with_reducible refine Yq ?_
 refine X1 (knd.pyHash hu hkey ?_);refine X1 (wpAny_dictFind_heap (s:={ s with toks:=s.toks+knd.draws k }) hu hkey ho hd he his hn ?_ ?_)
 ·intro hno;have hnot:k∉xs.map (·.1):=not_mem_keys_of_get hno;refine X1 (wpAny_rule (X1 (wpAny_updateDictKeys (hz:=by have e:=size_of_entries he;omega) (s:={ s with toks:=s.toks+knd.draws k }) ho hd (X5 (h2 (atKey_none_of_get hno) _ ⟨_,_,ep+1,Heap.get?_update_self _ ho (Obj.isFreed_of_dict (Obj.data_mapDictKeys hd _)),
   hc.mapDictKeys _,Obj.data_mapDictKeys hd _,?_,?_,?_⟩ (Heap.SameBut.update ..))))))
  ·rw[storedH_new (atKey_none_of_get hno)];simp[he,entryOfKey]
  ·rw[storedH_new (atKey_none_of_get hno)];intro x hx;rcases List.mem_append.mp hx with hx | hx
   ·exact knd.keeps (his x hx) ho hd (Heap.SameBut.update ..)
   ·simp only[List.mem_singleton]at hx;subst hx;exact knd.keeps hkey ho hd (Heap.SameBut.update ..)
  ·rw[storedH_new (atKey_none_of_get hno)];rw[Xs,Xe];refine⟨hn,by simp,?_⟩;intro x hx y hy;simp only[List.map_cons,List.map_nil,List.mem_singleton]at hy;subst hy;exact λe=>hnot (e▸hx)
 ·intro j p hj;refine X1 (wpAny_dictEntries (s:={ s with toks:=s.toks+knd.draws k }) ho hd ?_);rw[entry_at he j,hj];exact X1 (wpAny_rule (X5 (h1 _ (atKey_of_get hn hj))))
theorem jvm(knd:HeapKind prog w K)(d a:Addr)(hd:(d==sysModules)=false)(dflt:Value):
  MeetsIn prog w (Builtin.«dict.setdefault» ⟨[.ref d,.ref a,dflt],[]⟩) (λA R s=>knd.room A.in1/\∃k xs,knd.is s.heap k a/\s.heap.DictOfH knd d xs/\xs.length<=sizeLine /\
   (∀p,atKey xs k=some p->R (.ok (.ret p.2)) { s with toks:=s.toks+knd.draws k }) /\
   (atKey xs k=none->∀h',h'.DictOfH knd d (storedH xs k a dflt)->Heap.SameBut d s.heap h'->R (.ok (.ret dflt)) { s with heap:=h',toks:=s.toks+knd.draws k })):=
 .of_wp λA R s ⟨hu,k,xs,hkey,hm,hz,h1,h2⟩=>by
  unfold Builtin.«dict.setdefault»;refine X1 ?_;unfold Builtin.Dict.keyAndDefault;refine X1 (wpAny_notOrdered_dict hm.typeIs ?_);show wpAny _ _ (pure (d,Value.ref a,some dflt)) _ _ s;refine X5 ?_;show wpAny _ _ (if(d==sysModules)=true then _ else(dictSetDefault d (.ref a) dflt >>= _)) _ _ s;rw[Xj (by rw[hd];exact Bool.false_ne_true)];exact X1 (jqq (hsz:=hz) hu hkey hm (λp hp=>X5 ⟨p.2,rfl,h1 p hp⟩) λhn h' hm' hs'=>X5 ⟨dflt,rfl,h2 hn h' hm' hs'⟩)
end
end PySem
noncomputable section
noncomputable section
namespace Q
open PySem PySem.Spec PyProof.Rows L2 L3
section
variable {X:Cx}{Z:Fx0}{pn:List Nat}{q:Bool}{c:Ex}{e ep:Expr}{i:Nat}{p:List Nat}{pos:Pos}
theorem vz4{K:PySem.W.Frag}{H:Hp}{x:Sl}(ok:x.ok K H)(h:x.d.pure=true):RepL K H false x.d x.v []:=(RepL.pu (g':=false) (RepO.wk ok) h).2
theorem vxi{K:PySem.W.Frag}{H:Hp}{l:Addr}{xs:List V}(h:H l=some (.lst xs)):tyV K "list" (.ref l) H:=.inl ⟨rfl,xs,.inl (.inl h)⟩
end
end Q
noncomputable section
namespace Q
open PySem PySem.Spec PyProof.Rows L2 L3
mutual
theorem kzu{X:Cx}{pins:List (Addr×Obj)}{σ:L2.St}{H:Hp}{s:Shared}{g:Bool}(I:Inv X pins σ H s):∀{n:Nat} {d:D} {v:V} {u:Value} {as:List Addr},RepL X.K H g d v as->d.flat n=true->RelV v u->∃bs,Reads s.heap u (D.dat d) bs
 | _,.non,v,u,as,h,_,r=>by
  unfold RepL at h;obtain⟨rfl,_⟩:=h;cases(show u=.none from r);exact⟨[],.none⟩
 | _,.bl b,v,u,as,h,_,r=>by
  unfold RepL at h;obtain⟨rfl,_⟩:=h;cases(show u=.bool b from r);exact⟨[],.bool b⟩
 | _,.int i,v,u,as,h,_,r=>by
  unfold RepL at h;obtain⟨rfl,_⟩:=h;obtain⟨t,e⟩:=(show ∃t,u=Value.int i t from r);rw[e];exact⟨[],.int i t⟩
 | _,.str z,v,u,as,h,_,r=>by
  unfold RepL at h;obtain⟨rfl,_⟩:=h;obtain⟨t,e⟩:=(show ∃t,u=Value.str z t from r);rw[e];exact⟨[],.str z t⟩
 | 0,.tup ds,v,u,as,h,f,r=>by cases f
 | n+1,.tup ds,v,u,as,h,f,r=>by
  unfold RepL at h;obtain⟨a,xs,rfl,sq,ra⟩:=h;cases(show u=.ref a from r);obtain⟨its,rv,⟨o,e,c,m,hd⟩,_⟩:=I.tuple sq;obtain⟨bs,q⟩:=readsA_of I (n:=n) ra f rv;exact⟨bs,.tuple e c hd q⟩
 | 0,.lst ds,v,u,as,h,f,r=>by cases f
 | n+1,.lst ds,v,u,as,h,f,r=>by
  unfold RepL at h;obtain⟨a,xs,cs,rfl,ra,sq⟩:=h;cases(show u=.ref a from r);have sl:LsR X.K H a xs:=by
   rcases sq with⟨z,_⟩| ⟨_,z,_⟩
   ·exact .inl (.inl z)
   ·exact .of z
  obtain⟨_,its,m,rv,e⟩:=sl.is I;obtain⟨bs,q⟩:=readsA_of I (n:=n) ra f rv;exact⟨a::bs,.list e rfl rfl q⟩
 | n,.dct _,_,_,_,_,f,_=>by cases n<;>cases f
 | n,.obj _ _,_,_,_,_,f,_=>by cases n<;>cases f
theorem readsA_of{X:Cx}{pins:List (Addr×Obj)}{σ:L2.St}{H:Hp}{s:Shared}{g:Bool}(I:Inv X pins σ H s):∀{n:Nat} {ds:List D} {xs:List V} {us:List Value} {as:List Addr},RepA X.K H g ds xs as->D.flats n ds=true->Vals xs us->∃bs,ReadsAll s.heap us (D.dats ds) bs
 | _,[],xs,us,as,h,_,r=>by
  unfold RepA at h;obtain⟨rfl,_⟩:=h;cases r;exact⟨[],.nil⟩
 | n,d::ds,xs,us,as,h,f,r=>by
  unfold RepA at h;obtain⟨x,xr,bs,cs,rfl,_,h1,h2⟩:=h;unfold D.flats at f;rw[Bool.and_eq_true]at f;cases r with
  | cons r1 r2 =>
   obtain⟨b1,q1⟩:=kzu I h1 f.1 r1;obtain⟨b2,q2⟩:=readsA_of I h2 f.2 r2;exact⟨b1++b2,.cons q1 q2⟩
end
mutual
theorem qjl:∀{n:Nat} {d:D},d.flat n=true->(D.dat d).depth<=n
 | n,.non,_=>Y4 _
 | n,.bl _,_=>Y4 _
 | n,.int _,_=>Y4 _
 | n,.str _,_=>Y4 _
 | 0,.tup ds,f=>by cases f
 | n+1,.tup ds,f=>Nat.succ_le_succ (depths_le (n:=n) f)
 | 0,.lst ds,f=>by cases f
 | n+1,.lst ds,f=>Nat.succ_le_succ (depths_le (n:=n) f)
 | n,.dct _,f=>by cases n<;>cases f
 | n,.obj _ _,f=>by cases n<;>cases f
theorem depths_le:∀{n:Nat} {ds:List D},D.flats n ds=true->PyData.depthAll (D.dats ds)<=n
 | _,[],_=>Y4 _
 | n,d::ds,f=>by
  unfold D.flats at f;rw[Bool.and_eq_true]at f;exact Nat.max_le.mpr ⟨qjl f.1,depths_le f.2⟩
end
mutual
theorem kq9:∀d:D,(D.dat d).hasDict=false
 | .non=>rfl
 | .bl _=>rfl
 | .int _=>rfl
 | .str _=>rfl
 | .tup ds=>dats_noDict ds
 | .lst ds=>dats_noDict ds
 | .dct _=>rfl
 | .obj _ _=>rfl
theorem dats_noDict:∀ds:List D,PyData.hasDictAll (D.dats ds)=false
 | []=>rfl
 | d::ds=>by
  show((D.dat d).hasDict||PyData.hasDictAll (D.dats ds))=false;rw[kq9 d,dats_noDict ds];rfl
end
def wqb(K:PySem.W.Frag):List V->Hp->VK->Prop:=λxs H Q=>∃v d z g as,xs=[v]/\RepL K H g d v as/\qxo d=some (.str z)/\Q (.str z) H
theorem qx3{X:Cx}(hg:X.A.guards=some [])(hu:X.A.units+64<cLine):CallR X (.builtin "repr") (wqb X.K):=by
 intro pins s σ H xs us Q I r ⟨v,d,z,g,as,e,rp,hf,q⟩;subst e;cases r with
 | cons r1 r2 =>
  cases r2;unfold qxo at hf
  split at hf
  rotate_left
  ·cases hf
  rename_i hc;cases hf;obtain⟨bs,rd⟩:=kzu I rp hc.2.1 r1;have hv:∃a,v=.ref a:=by
   cases d with
   | tup ds=>unfold RepL at rp;obtain⟨a,_,e,_⟩:=rp;exact⟨a,e⟩
   | lst ds=>unfold RepL at rp;obtain⟨a,_,_,e,_⟩:=rp;exact⟨a,e⟩
   | _=>exact absurd hc.1 (by simp[wkb])
  obtain⟨a,rfl⟩:=hv;cases r1;have hd:=qjl hc.2.1;exact repr_of_reads' rd hc.2.2.1 (PyData.noDict_hsm (kq9 d)) hg (by omega) (λ_ _ e=>e) (λh' u tk hk=>⟨.str _,H,I.kept (t':=tk) hk,⟨u,rfl⟩,q⟩) hc.2.2.2
theorem qjp{X:Cx}(K:PySem.W.Frag)(hg:X.A.guards=some [])(hu:X.A.units+64<cLine)(hK:X.K=K:=by rfl):CallR X (.builtin "repr") (wqb K):=by subst hK;exact qx3 hg hu
theorem vku{K:PySem.W.Frag}:Ad1 K (λv H Q=>wqb K [v] H Q) (pu1 qxo):=by
 intro H x s Q ok hf k;have hf:(qxo x.d).map (λd=>(Own.dp,d))=some s:=hf;cases h:qxo x.d with
 | none=>rw[h]at hf;cases hf
 | some d =>
  rw[h]at hf;cases oq9 hf;have h0:=h;unfold qxo at h
  split at h
  rotate_left
  ·cases h
  rename_i hc;cases h;refine⟨x.v,x.d,_,true,x.as,rfl,RepO.wk ok,h0,k ⟨.dp,.str _,.str _,[]⟩ H rfl rfl (jxf (λ_ _ h=>h) ?_)⟩;unfold RepL;exact⟨rfl,rfl,hc.2.2.2⟩
theorem qxa:bootBuiltins "repr"=some (.builtin "repr"):=by decide +kernel
end Q
noncomputable section
namespace PySem
section
variable {prog:Program}{w:World}{A:Around}{E:Value->Shared->Prop}{s:Shared}
def qxk(h:Heap)(d:Addr)(n:Nat):Prop:=∃o es ep,h.get? d=some o/\o.cls=.type "dict"/\o.data=.dict es ep/\es.size=n
theorem kjs(d:Addr)(hd:(d==sysModules)=false):
  MeetsIn prog w (Builtin.«dict.__len__» ⟨[.ref d],[]⟩) (λ_ R s=>∃n,qxk s.heap d n/\R (.ok (.ret (.int n s.toks))) { s with toks:=s.toks+1 }):=
 .of_wp λA R s ⟨n,⟨o,es,ep,ho,hc,hdat,hz⟩,h⟩=>by
  show wpAny _ _ (dictSize d >>= _) _ _ s;unfold dictSize;refine X1 (X1 (wpAny_dictEntries ho hdat (X5 ?_)));show wpAny _ _ (Builtin.Dict.pendingCount d >>= _) _ _ s;refine X1 (wpAny_pendingCount_other hd ?_);refine wpAny_ret_mkInt ?_;rw[Nat.add_zero,hz];exact h
theorem kkr{d:Addr}{n:Nat}{Q:Value->Shared->Prop}(hd:(d==sysModules)=false)(hm:qxk s.heap d n)(hfit:(n:Int)<2 ^ 63)
  (h:Q (.int n (s.toks+1)) { s with toks:=s.toks+1+1 }):wpAny (model prog w) A (Builtin.«len» ⟨[.ref d],[]⟩) (λfin s'=>∃r,fin=.done (.ret r)/\Q r s') E s:=by
 have ht:s.TypeIs (.ref d) "dict":=by obtain⟨o,es,ep,ho,hc,_⟩:=hm;exact⟨o,ho,hc⟩
 unfold Builtin.«len»;refine X1 (m:=oneArg "len" _) (X5 ?_);refine X1 (m:=callSpecial? (.ref d) (Str.ofString "__len__")) (wpAny_callSpecial?_slot (name:=Str.ofString "__len__") ht F.slot_dict_len
  (call_meetsIn F.slot_dict_len ht F.entry_dict_len (F.args_dict_len_1 _) (kjs d hd) ⟨n,hm,?_⟩))
 show wpAny _ _ _ _ _ { s with toks:=s.toks+1 };refine X1 (Yq (X5 ?_));refine X1 (wpAny_letGo ?_);show wpAny _ _ (if((n:Nat):Int)<0 then _ else _) _ _ _;rw[Xj (by omega)];show wpAny _ _ (if((n:Nat):Int)>=2 ^ 63 then _ else _) _ _ _;rw[Xj (by omega)];exact X1 (wpAny_mkInt (X5 ⟨_,rfl,h⟩))
theorem kkt{d:Addr}{n:Nat}{Q:Value->Shared->Prop}(hd:(d==sysModules)=false)(hm:qxk s.heap d n)(hfit:(n:Int)<2 ^ 63)
  (h:Q (.int n (s.toks+1)) { s with toks:=s.toks+1+1 }):wpAny (model prog w) A (call (.builtin "len") [.ref d]) Q E s :=
 Calls.call_function_entry kind_len plain_len entry_len (args_len1 _) (kkr hd hm hfit h)
end
end PySem
namespace Q
open PySem PySem.Spec PyProof.Rows L2 L3
def vza(K:PySem.W.Frag):List V->Hp->VK->Prop:=λxs H Q=>∃a ks vs,xs=[.ref a]/\DcN K H a ks vs/\Q (.int ks.length) H
theorem kx1{X:Cx}(K:PySem.W.Frag):CallR X (.builtin "len") (vza K):=by
 intro pins s σ H xs us Q I r ⟨a,ks,vs,e,⟨es,ep,hH,hs,hl,_,hk,_⟩,q⟩;subst e;cases r with
 | cons r1 r2 =>
  cases r2;cases r1;obtain⟨ob,arr,g1,g2,g3,g4⟩:=vwl I hH;have hlen:ks.length=arr.size:=by
   have:=congrArg List.length g4;rw[X3,Y7]at this;rw[hk,X3];exact this.symm
  have hz:es.length=ks.length:=by rw[hk,X3]
  exact kkt (n:=ks.length) hs ⟨ob,arr,ep,g1,g2.1,g3,hlen.symm⟩ (by rw[sizeLine_eq]at hl;omega) ⟨.int ks.length,H,I.tok _,⟨_,rfl⟩,q⟩
theorem qxh{K:PySem.W.Frag}:Ad1 K (λv H Q=>vza K [v] H Q) (pu1 kwu):=by
 intro H x s Q ok hf k;have hf:(kwu x.d).map (λd=>(Own.dp,d))=some s:=hf;cases hd:x.d with
 | dct kvs =>
  rw[hd]at hf;unfold kwu at hf;dsimp only at hf
  by_cases hu:unm kvs=true
  ·rw[Xf hu]at hf;cases oq9 hf;obtain⟨a,xs,e,dn⟩:=vkl ok hd hu;refine⟨a,kvs.map (·.1),xs,by rw[e],dn,?_⟩;rw[X3];exact k ⟨.dp,.int kvs.length,.int kvs.length,[]⟩ H rfl rfl (jxf (λ_ _ h=>h) jq1)
  ·rw[Xj hu]at hf;cases hf
 | _=>rw[hd]at hf;cases hf
section
variable {X:Cx}{pins:List (Addr×Obj)}{σ:L2.St}{H:Hp}{s:Shared}{a b:Addr}{es:List Ent}{A:Around}{E:Value->Shared->Prop}{k:Kd}{r:Value}
theorem vja{ep:Nat}{Q:Value->Shared->Prop}(hu:A.units+64<cLine)(I:Inv X pins σ H s)(e:H a=some (jx2 a es ep))(hs:(a==sysModules)=false)(h2:es.length<=sizeLine)(h3:(es.map (·.1)).Nodup)(h5:∀x∈es,PuR X.K H x.1.1 (.ref x.2.1))(hk:PuR X.K H k.1 (.ref b))
  (h1:∀p,atKey es k=some p->∀s',Inv X pins σ H s'->Q p.2 s') (h4:atKey es k=none->∀ep' s',Inv X pins σ (upd H a (jx2 a (storedH es k b r) ep')) s'->Q r s'):
  wpAny (model X.prog X.w) A (call (.builtin "dict.setdefault") [.ref a,.ref b,r]) Q E s:=by
 have dd:=vkk I e h3 h5;refine call_meetsIn PySem.F.slot_dict_setdefault dd.typeIs PySem.F.entry_dict_setdefault (PySem.F.args_dict_setdefault_3 _ _ _) (jvm (kzf X.prog X.w) a b hs r) ⟨?_,k,es,kj4 I hk rfl,dd,h2,λp hp=>h1 p hp _ (I.tok _),λhn h' dd' hss=>?_⟩
 ·exact vqj hu
 ·obtain⟨q,ds,ep',hq,g2,g3,g4,_,_⟩:=dd';exact h4 hn ep' _ (qwx I (by rw[e];exact True.intro) hss ⟨q,hq⟩ ⟨⟨q,ds,hq,g2,g3,g4⟩,⟨q,hq⟩,λh1 h2 ⟨o,ds,a1,a2⟩ k=>⟨o,ds,k o a1,a2⟩⟩)
end
abbrev qxw(K:PySem.W.Frag)(td ty tx:TE):TE:=fun σ H Q=>td σ H λx H1=>∃a,x=.ref a/\(∃es ep,H1 a=some (jx2 a es ep))/\ty σ H1 λy H2=>tx σ H2 λz H3=>∃b k es ep,y=.ref b/\H3 a=some (jx2 a es ep)/\(a==sysModules)=false/\es.length<=sizeLine/\(es.map (·.1)).Nodup/\(∀x∈es,PuR K H3 x.1.1 (.ref x.2.1))/\PuR K H3 k.1 (.ref b) /\
 (∀p,atKey es k=some p->∃v,RelV v p.2/\Q v H3)/\(atKey es k=none->∀r ep',RelV z r->Q z (upd H3 a (jx2 a (storedH es k b r) ep')))
section
variable {X:Cx}{o e f:Expr}{apos cpos:Pos}{td ty tx:TE}
theorem qk8(hu:X.A.units+64<cLine)(ho:PE X o td)(he:PE X e ty)(hf:PE X f tx)(m:M2 X o "setdefault" apos e f cpos):PE X (.Call (.Attribute o "setdefault" apos) [e,f] [] cpos) (qxw X.K td ty tx):=by
 intro pins s σ H Q I h;refine wpAny_Call_method m.base m.few m.line PySem.F.plainAttrs_dict PySem.F.slot_dict_setdefault PySem.F.type_dict_setdefault (thn (ho pins s σ H _ I h) λu s1 ⟨x,H1,I1,rx,a,ex,⟨es0,ep0,d⟩,q1⟩=>?_);subst ex;obtain rfl:u=Value.ref a:=rx;obtain⟨ob,arr,g1,g2,g3,g4⟩:=vwl I1 d;refine⟨⟨ob,g1,g2.1⟩,λb z=>by cases z;exact⟨ob,g1,g2.2.1⟩,?_⟩;rw[m.trees];refine Yp rfl (Calls.evalArgs_plain (Calls.spliced_cons (thn (he pins s1 σ H1 _ I1 q1) λiv s2 ⟨y,H2,I2,ry,q2⟩ =>
  Calls.spliced_cons (thn (hf pins s2 σ H2 _ I2 q2) λfv s3 ⟨z,H3,I3,rz,b,k,es,ep,ey,ea,hs,hl,hn,h5,hk,q4,q5⟩=>Calls.spliced_nil ?_))))
 subst ey;obtain rfl:iv=Value.ref b:=ry;exact vja hu I3 ea hs hl hn h5 hk (λp hp s4 I4=>by obtain⟨v,rv,q3⟩:=q4 p hp;exact⟨v,H3,I4,rv,q3⟩) λhne ep' s4 I4=>⟨z,_,I4,rz,q5 hne fv ep' rz⟩
end
theorem qwe {K : PySem.W.Frag} {H : Hp} {k : Kd}: ∀{kvs : List (D × D)} {xs : List V} {bs : List Addr} {es : List Ent}, RepP K H true kvs xs bs -> kvs.map (·.1) = es.map (·.1.1) -> Vals xs (es.map (·.2.2)) -> D.pures (kvs.map (·.2)) = true ->
    (∀ p, atKey es k = some p -> ∃d v, kwp kvs k.1 = some d /\ RelV v p.2 /\ RepL K H false d v [] /\ d.pure = true) /\ (atKey es k = none -> kwp kvs k.1 = none)
  | [], _, _, [], _, _, _, _ => ⟨λp h => (by cases h), λ_ => rfl⟩
  | [], _, _, _::_, _, h, _, _ => by cases h
  | _ :: _, _, _, [], _, h, _, _ => by cases h
  | (q, d)::kvs, xs, bs, e::es, hr, hk, hv, hp => by
    unfold RepP at hr;obtain⟨x, r, b1, c1, rfl, _, h1, h2⟩:= hr;rw [List.map_cons, List.map_cons]at hk;injection hk with k1 k2;rw [List.map_cons]at hv hp;cases hv with
    | cons v1 v2 =>
      unfold D.pures at hp;rw [Bool.and_eq_true]at hp;have ih := qwe (k := k) h2 k2 v2 hp.2;have k1 : q = e.1.1 := k1
      by_cases he : e.1 = k
      · have hq : q = k.1 := by rw[k1, he]
        have hg : kwp ((q, d)::kvs) k.1 = some d := by unfold kwp; rw[List.find?_cons_of_pos (by simp[hq])]; rfl
        have ha : atKey (e::es) k = some e.2 := by
          obtain⟨ek, ev⟩:= e;have he : ek = k := he;simp[atKey, he]
        refine⟨λp hp' => ?_, λhn => ?_⟩
        · rw[ha]at hp'
          cases oq9 hp';exact⟨d, x, hg, v1, (RepL.pu (g' := false) h1 hp.1).2, hp.1⟩
        · rw[ha]at hn; cases hn
      · have hq : q≠k.1 := λz => he (Subtype.ext (by rw[<-k1]; exact z))
        have hg : kwp ((q, d)::kvs) k.1 = kwp kvs k.1 := by unfold kwp; rw[List.find?_cons_of_neg (by simp[hq])]
        have ha : atKey (e::es) k = atKey es k := by
          obtain⟨ek, ev⟩:= e;have he : ¬ek = k := he;simp[atKey, he]
        rw[hg, ha];exact ih
section
variable {X:Cx}{Z:Fx0}{pn:List Nat}{q qa:Bool}{kc vc a b:Ex}{o ke ve ea eb:Expr}{pos pos' apos cpos:Pos}
theorem vzi{i:Nat}(hu:X.A.units+64<cLine)(ho:PE X o (qxv i))(hk:QV X Z true kc ke)(hv:QV X Z true vc ve)(hK:X.K=Z.K:=by rfl)(hm:M2 X o "setdefault" apos ke ve cpos:=by exact⟨rfl,rfl,rfl,rfl⟩):QE X Z false (qkp i kc vc) (.Call (.Attribute o "setdefault" apos) [ke,ve] [] cpos):=
 jki (hK▸qk8 hu ho hk hv hm) fun σ H Q h_z=>ex8 h_z λE L r m w hc xc k=>by
  unfold qkp at hc
  by_cases hD:wqe E[i]?=true
  rotate_left
  ·rw[Xj hD]at hc;cases hc
  rw[Xf hD]at hc;obtain⟨kvs0,h0,hu0⟩:∃kvs,E[i]?=some (some (.rt,.dct kvs))/\unm kvs=true:=by
   unfold wqe at hD
   split at hD
   ·rename_i kvs h;exact⟨kvs,h,hD⟩
   ·cases hD
  obtain⟨x0,a1,a2,a3,a4⟩:=m.get h0;obtain⟨l0,xs0,el0,⟨es0,ep0,hH0,_⟩⟩:=vkl (w.ok x0 (jjz a1)) a3 hu0;refine⟨x0.v,a4,l0,el0,⟨es0,ep0,hH0⟩,?_⟩;refine jvj m w hc xc λE2 s2 h2 y L2 H2 e3 e4 m2 w2 ok2 fr2 sr2 st2 sm2=>?_
  refine jvj m2 w2 h2 (xc.step st2) λE3 s3 h3 t L3 H3 e5 e6 m3 w3 ok3 fr3 sr3 st3 sm3=>?_
  split at h3
  rotate_left
  ·cases h3
  rename_i kvs hE
  split at h3
  rotate_left
  ·cases h3
  rename_i hcond;obtain⟨hkey,hlen,hunm,hpv,hps⟩:=hcond;obtain⟨z,b1,b2,b3,b4⟩:=m3.get hE;have hzv:z.v=x0.v:=by rw[a4]at b4;exact(oq9 (oq9 b4)).symm
  have okz:RepR Z.K H3 (.dct kvs) z.v z.as:=by
   have:=w3.ok z (jjz b1);unfold Sl.ok at this;rw[b2,b3]at this;exact this
  obtain⟨l,xs,bs,c1,c2,c3,c4⟩:=okz;have hll:l=l0:=by
   have:V.ref l=V.ref l0:=by rw[<-c1,hzv,el0]
   injection this
  subst hll;obtain⟨es,ep,d1,d2,d3,d4,d5,d6,d7⟩:=DcA.un c3 hunm;have ok2':y.ok Z.K H3:=RepO.kp ok2 (Kp.of_same (sm3 rfl));obtain⟨b,eb,pb⟩:=kq2 ok2' (by rw[e4];exact hkey);have hk6:jq5 6 y.d=true:=by
   have:jqy y.d=true:=by rw[e4];exact hkey
   unfold jqy at this;rw[Bool.and_eq_true]at this;exact this.1
  have ht:=vz4 ok3 (by rw[e6];exact hpv);obtain⟨g1,g2⟩:=qwe (k:=⟨y.d,hk6⟩) c2 d5 d7 hps;have hyk:(⟨y.d,hk6⟩:Kd).1=s2.2:=e4;have hle:es.length<sizeLine:=by
   have:=congrArg List.length d5;rw[X3,X3]at this;rw[<-this];exact hlen
  refine⟨b,⟨y.d,hk6⟩,es,ep,eb,d1,d2,d3,d4,d6,pb,λp hp=>?_,λhn rr ep' hrr=>?_⟩
  ·obtain⟨d,v',q1,q2,q3,q4⟩:=g1 p hp;rw[hyk]at q1;rw[q1]at h3;cases oq9 h3;exact⟨v',q2,k _ _ rfl ⟨.dp,d,v',[]⟩ L3 H3 rfl rfl m3 (w3.consPu q3 rfl) (jx5 (x:=⟨.dp,d,v',[]⟩) (st2.trans st3) (λb hb=>nomatch hb) rfl) λz=>nomatch z⟩
  ·have q1:=g2 hn;rw[hyk]at q1;rw[q1]at h3;cases oq9 h3;have hmem:=vkq es (⟨y.d,hk6⟩:Kd);rw[hn]at hmem;have hnm:y.d∉es.map (·.1.1):=of_decide_eq_false hmem.symm;rw[storedH_new hn];have rt:RepL Z.K H3 true s3.2 t.v []:=by rw[<-e6];exact(RepL.pu (g':=true) (RepO.wk ok3) (by rw[e6];exact hpv)).2
   have rp:=kw6 (q:=s2.2) rt c2;rw[Xq]at rp;obtain⟨w4,st4⟩:=qqx (ep':=ep') (T:=[]) (i:=i) (y:=z) (es':=es++[(⟨y.d,hk6⟩,b,rr)]) (xs':=xs++[t.v]) (cs:=bs) (kvs':=kvs++[(s2.2,s3.2)]) (by simpa using w3) b1 d1 b2 c4 c1 rp (λa h=>.inl h) d2 (by rw[X7,Ye];omega) (by
    rw[Xs,Xe];refine⟨d4,List.nodup_cons.mpr ⟨Xm,Xv⟩,λp hp' q hq e=>?_⟩;have:q=⟨y.d,hk6⟩:=List.mem_singleton.mp hq;subst this e;obtain⟨n,hn1,hn2⟩:=List.mem_map.mp hp';exact hnm (List.mem_map.mpr ⟨n,hn1,by rw[hn2]⟩)) (by rw[Xs,Xs,d5,<-e4];rfl) (λn hn'=>by
    rcases List.mem_append.mp hn' with z | z
    ·exact d6 n z
    ·rw[List.mem_singleton.mp z];exact pb) (by rw[Xs];exact kvv d7 hrr)
   have ht2:RepL Z.K (upd H3 l (jx2 l (es++[(⟨y.d,hk6⟩,b,rr)]) ep')) false s3.2 t.v []:=by
    rw[<-e6];refine ht.kp ⟨λa zs e=>?_,λa o u e=>?_,λa ha=>nomatch ha⟩
    ·rw[jjv (λz=>by subst z;rw[d1]at e;cases e)];exact e
    ·rw[jjv (λz=>by subst z;rw[d1]at e;cases e)];exact e
   have mm:=m3.set (x:=⟨.rt,.dct (kvs++[(s2.2,s3.2)]),z.v,l::bs⟩) i;rw[jwc b4]at mm;exact k _ _ rfl ⟨.dp,s3.2,t.v,[]⟩ _ _ rfl rfl mm (w4.consPu ht2 rfl) (jx5 (x:=⟨.dp,s3.2,t.v,[]⟩) ((st2.trans st3).trans (by simpa using st4)) (λb hb=>nomatch hb) rfl) λz=>nomatch z
end
end Q
noncomputable section
namespace Q
open PySem PySem.Spec PyProof.Rows L2 L3
def spM(K:PySem.W.Frag)(mg:Str->Option Value)(n:Nat)(f:Fn):Sp:=λvs H Q E=>∃(xs:List Sl) (y:Sl) (r:Res Sd),vs=xs.map Sl.v++[y.v]/\xs.length=n/\World K H ((xs++[y]).map some)/\f ((xs++[y]).map Sl.sd)=some r /\
 (∀E' c,r=.exc E' c->∀C H',mg c=some (.ref C)->Step H ((xs++[y]).map some) H' []->E (.ref C) none H') /\
 ∀E' a,r=.ok E' a->∃sd,E'[n]?=some (some sd)/\∀(x y':Sl) H',x.o=a.1->x.d=a.2->y'.o=sd.1->y'.d=sd.2->y'.v=y.v->World K H' [some x,some y']->Step H ((xs++[y]).map some) H' [some x,some y']->Q x.v H'
theorem qqc{K:PySem.W.Frag}{mg:Str->Option Value}{n:Nat}{f:Fn}{ps:List Str}(hn:ps.length=n+1):∀vs H Q E,spM K mg n f vs H Q E->vs.length=ps.length:=λvs H Q E ⟨xs,y,r,e,hl,_⟩=>by rw[e,X7,X3,hl,hn];rfl
theorem kqm{L:Ls}{x y:Sl}{i:Nat}(h:L[i]?=some (some y)):(sls [some x,some y]).Sublist (sls (some x::L)):=by
 have:y∈sls L:=mem_sls.mpr (jjz h);show(x::[y]).Sublist (x::sls L);exact(List.singleton_sublist.mpr this).cons₂ x
theorem qwm{X:Cx}{K:PySem.W.Frag}{mg:Str->Option Value}{N:List Str}{n nn:Nat}{B:Sm}{body:List Stmt}{H:Hp}{vs:List V}{Q:VK}{E:XK}(hN:N.length=nn)(t:QSs X ⟨K,mg,E⟩ [n] B body)(h:spM K mg n (fn nn B) vs H Q E):
  ∃t,PSs X body t/\t { nx:=λ_ H'=>Q .non H',rt:=Q } (L2.start N vs) H:=by
 refine⟨_,t,?_⟩;obtain⟨xs,y,r,rfl,hl,w,hf,hx,hk⟩:=h;unfold fn at hf;rw[X3,Y6]at hf;have m:=kj5 (xs++[y]) (nn - (xs++[y]).length);have e1:L2.start N (xs.map Sl.v++[y.v])=(xs++[y]).map (λx=>some x.v)++List.replicate (nn - (xs++[y]).length) none:=by
  unfold L2.start;rw[show xs.map Sl.v++[y.v]=(xs++[y]).map Sl.v by simp,Y6,X3,hN];rfl
 have hy0:(L2.start N (xs.map Sl.v++[y.v]))[n]?=some (some y.v):=by
  rw[e1,Y1 (by simp[hl])];simp[hl]
 have wL:World K H ((xs++[y]).map some++List.replicate (nn - (xs++[y]).length) none):=w.same (by simp);have sL:Step H ((xs++[y]).map some) H ((xs++[y]).map some++List.replicate (nn - (xs++[y]).length) none):=Step.refl.same (List.Perm.refl _) (by simp);have fin:∀{E1:En} {σ':L2.St} {L':Ls} {sd:Sd},E1[n]?=some (some sd)->Pn [n] (L2.start N (xs.map Sl.v++[y.v])) σ'->Mt E1 σ' L'->∃y':Sl,L'[n]?=some (some y')/\y'.o=sd.1/\y'.d=sd.2/\y'.v=y.v:=λhE p m'=>by
  obtain⟨y',a1,a2,a3,a4⟩:=m'.get hE;refine⟨y',a1,a2,a3,?_⟩;have:=p n (List.mem_singleton.mpr rfl);rw[a4,hy0]at this;exact oq9 (oq9 this)
 cases hB:B ((xs++[y]).map (λx=>some x.sd)++List.replicate (nn - (xs++[y]).length) none)with
 | none=>rw[show(some∘Sl.sd)=(λx:Sl=>some x.sd)from rfl,hB]at hf;cases hf
 | some g =>
  rw[show(some∘Sl.sd)=(λx:Sl=>some x.sd)from rfl,hB]at hf;refine⟨_,_,g,e1▸m,wL,hB,?_⟩;cases g with
  | nx E1 =>
   cases oq9 hf;intro σ' L' H' p m' w' s';obtain⟨sd,hE,hk⟩:=hk _ _ rfl;obtain⟨y',b1,b2,b3,b4⟩:=fin hE p m';have wx:World K H' (some (⟨.dp,.non,.non,[]⟩:Sl)::L'):=w'.consPu (show RepL K H' false .non .non []from kxh) rfl;have sx:Step H ((xs++[y]).map some) H' (some (⟨.dp,.non,.non,[]⟩:Sl)::L'):=jx5 (x:=⟨.dp,.non,.non,[]⟩) (sL.trans s') (λb hb=>(nomatch hb)) rfl;exact hk ⟨.dp,.non,.non,[]⟩ y' H' rfl rfl b2 b3 b4 (wx.sub (kqm b1)) (sx.sub (kqm b1))
  | rt E1 a =>
   cases oq9 hf;intro x σ' L' H' e2 e3 p m' w' s';obtain⟨sd,hE,hk⟩:=hk _ _ rfl;obtain⟨y',b1,b2,b3,b4⟩:=fin hE p m';exact hk x y' H' e2 e3 b2 b3 b4 (w'.sub (kqm b1)) ((sL.trans s').sub (kqm b1))
  | xc E1 c =>
   cases oq9 hf;intro C σ' L' H' hm _ m' w' s';exact hx _ _ rfl C H' hm ((sL.trans s').sub (by simp))
  | ct E1=>cases hf
  | bk E1=>cases hf
def tAM(Z:Fx0)(q:Bool)(cs:List Ex)(i:Nat):TA:=fun σ H Q=>∃E L r,Mt E σ L/\World Z.K H L/\jq4 cs E=some r/\Xc Z σ H L r /\
 ∀E' ys,r=.ok E' ys->∀(xs:List Sl) L' H',xs.map Sl.sd=ys->Mt E' σ L'->World Z.K H' (xs.map some++L')->Step H L H' (xs.map some++L')->(q=true->jqp H H'/\∀b∈jj6 (xs.map some),H b=none)->∃v,σ[i]?=some (some v)/\Q (xs.map Sl.v++[v]) H'
section
variable {X:Cx}{Z:Fx0}{q:Bool}{c:Ex}{cs:List Ex}{e:Expr}{es:List Expr}{pos p:Pos}{x:Str}{ps:List Str}{k n i:Nat}{f:Fn}
theorem wwr(h:PE X e (qxv i))(hst:starEach [e] X.env=(false,eval e X.env)::starEach [] X.env:=by rfl):PA X [e] (tAM Z q [] i):=kwa (jko h jqe hst) fun σ H Q h_z=>ex8 h_z λE L r m w hc xc k=>by
 cases oq9 hc;obtain⟨v,hv,q⟩:=k _ _ rfl [] L H rfl m w Step.refl λ_=>⟨λ_ _ z=>z,λ_ z=>(nomatch z)⟩
 exact⟨v,hv,q⟩
theorem wqc(h:QE X Z q c e)(hs:PA X es (tAM Z q cs i))(hst:starEach (e::es) X.env=(false,eval e X.env)::starEach es X.env:=by rfl):PA X (e::es) (tAM Z q (c::cs) i):=
 kwa (jko h hs hst) fun σ H Q h_z=>ex8 h_z λE L r m w hc xc k=>by
  refine kqt m w (show bnd (c E) _=some r from hc) xc λE1 s h1 x L1 H1 e1 e2 m1 w1 st sm=>?_
  have s1:Step H L H1 L1:=st.trans Step.drop;rcases jjx h1 with⟨E2,ys,h2,h3⟩| ⟨E2,cc,h2,h3⟩
  ·cases oq9 h3;refine⟨E1,L1,_,m1,w1.tail,h2,(λ_ _ z=>by cases z),λE' ys' z xs L2 H2 e3 m2 w2 st2 sm2=>?_⟩;injection z with z1 z2;subst z1 z2;obtain⟨w3,st3⟩:=wke (T:=[some x]) w1 st2 w2;refine k _ _ rfl (x::xs) L2 H2 (by rw[List.map_cons,e3];simp[Sl.sd,e1,e2]) m2 w3 (st.trans st3) λhq=>?_
   obtain⟨a1,a2⟩:=sm hq;obtain⟨b1,b2⟩:=sm2 hq;refine⟨jj7 a1 b1,λb hb=>?_⟩;rw[List.map_cons,jj3]at hb;rcases List.mem_append.mp hb with z | z
   ·exact a2 b z
   ·exact jk4 a1 (b2 b z)
  ·exact⟨E1,L1,_,m1,w1.tail,h2,(xc.step s1).map h3,λE' s' z=>by cases z⟩
theorem qz3{L:Ls}{y:Sl}(h:L[i]?=some (some y)):(sls L).Perm (y::sls (L.set i none)):=by
 have:=(jxd h).filterMap id;exact this
theorem qqv(D:jwh X.prog X.w X.K X.mg X.base k x ps (spM Z.K Z.mg n f))(hr:Room k X.A)(g:qkr X Z.EX)(ha:PA X (e::es) (tAM Z q cs i))(hn:cs.length=n:=by rfl)(hg:Gl X x:=by rfl)(hdb:(x==("__debug__":Str))=false:=by decide)
  (he:starEach (e::es) X.env=(false,eval e X.env)::starEach es X.env:=by rfl) (hpl:(backTo pos (starEach es X.env)).any (·.1)=false:=by rfl):
  QE X Z false (kkc f i cs) (.Call (.Name x p) (e::es) [] pos):=jki (vk1 D hr g ha hg hdb he hpl) fun σ H Q h_z=>ex8 h_z λE L r m w hc xc kk=>by
 rcases jjx (show bnd (jq4 cs E) _=some r from hc)with⟨E1,ys,h1,h2⟩| ⟨E1,cc,h1,h2⟩
 rotate_left
 ·exact⟨E,L,_,m,w,h1,xc.map h2,λE' s' z=>by cases z⟩
 refine⟨E,L,_,m,w,h1,(λ_ _ z=>by cases z),λE' ys' z xs L1 H1 e1 m1 w1 st sm=>?_⟩;injection z with z1 z2;subst z1 z2;have hlen:xs.length=n:=by rw[<-hn,<-jwa h1,<-e1,X3]
 have hyl:ys.length=n:=by rw[<-hn];exact jwa h1
 split at h2
 rotate_left
 ·cases h2
 rename_i x0 hE;obtain⟨o0,d0⟩:=x0;obtain⟨y,a1,a2,a3,a4⟩:=m1.get hE;refine⟨y.v,a4,?_⟩;dsimp only;rw [Xq];obtain⟨wl,sl⟩:=jxu w1;have pm:(sls ((xs.map Sl.let).map some++L1)).Perm (sls ((xs.map Sl.let++[y]).map some++L1.set i none)):=by
  have e2:∀A B:Ls,sls (A++B)=sls A++sls B:=λA B=>List.filterMap_append ..
  rw[Xs,Xr,e2,e2];exact List.Perm.append_left _ (qz3 a1)
 have wl2:=wl.same pm;have sl2:Step H L H1 ((xs.map Sl.let++[y]).map some++L1.set i none):=(st.trans sl).trans (Step.refl.same (List.Perm.refl _) pm);cases hf:f (letAll ys++[(o0,d0)])with
 | none=>rw[hf]at h2;cases h2
 | some fr =>
  rw[hf]at h2;refine⟨xs.map Sl.let,y,fr,by rw[Y6];rfl,by rw[X3];exact hlen,wl2.left,?_,λE' c ee C H' hm s'=>?_,λE' a ee=>?_⟩
  ·rw[Xs,kxu,e1];show f (letAll ys++[(y.o,y.d)])=some fr;rw[a2,a3];exact hf
  ·subst ee;cases oq9 h2;obtain⟨w2,s2⟩:=stay wl2 s' ⟨λ_ z=>(nomatch z),Xv,λ_ z=>(nomatch z)⟩;exact xc _ _ rfl C _ H' hm (qvl i m1) w2 (sl2.trans s2)
  ·subst ee;dsimp only at h2
   split at h2
   rotate_left
   ·cases h2
   rename_i x' hE';cases oq9 h2;rw[hyl]at hE';refine⟨x',hE',λx y' H' e2 e3 e4 e5 e6 w' s'=>?_⟩;obtain⟨w2,s2⟩:=stay wl2 s' w';have pm2:([some x,some y']++L1.set i none).Perm (some y'::(some x::L1.set i none)):=List.Perm.swap ..;have w3:=(w2.perm pm2).set (i:=i+1);rw[List.set_cons_succ,List.set_set]at w3;have s3:Step H L H' (some x::L1.set i (some y')):=by
    have:=(sl2.trans (s2.perm (List.Perm.refl _) pm2)).trans (Step.set (i:=i+1));rw[List.set_cons_succ,List.set_set]at this;exact this
   have mm:=kq0 (i:=i) (x:=y') (s:=x') m1 e4 e5;rw[e6,jwc a4]at mm;exact kk _ _ rfl x _ H' e2 e3 mm w3 s3 λz=>nomatch z
end
end Q
noncomputable section
namespace Q
open PySem PySem.Spec PyProof.Rows L2 L3
abbrev vxo(K:PySem.W.Frag)(UC:Addr)(tb:XK->TS)(ts:TS):TS:=λD σ H=>∃E:XK,tb E D σ H/\∀x Cv H',E Cv none H'->H' x=none->∃C,Cv=.ref C/\PySem.W.exmOne K (.ref C) (.ref UC)=some true/\XCls K C/\ts D σ H'
theorem qv0{X:Cx}{ux:Str}{np hpos pos:Pos}{UC:Addr}{st b0:Stmt}{suite:List Stmt}{tb:XK->TS}{ts:TS}(top:qku X)(hU:X.mg ux=some (.ref UC))(hb:PSX X st tb)
  (hs:∀x,PSs (tX X x) (b0::suite) ts) (hg:Gl X ux:=by rfl) (hdb:(ux==("__debug__":Str))=false:=by decide):
  PS X (.Try [st] [.ExceptHandler (some (.Name ux np)) none (b0::suite) hpos] [] [] pos) (vxo X.K UC tb ts):=by
 intro pins s σ H D I ⟨E,h1,h2⟩;refine wpAny_Try_except (wpAny_execs_cons (wpAny_mono (hb E pins s σ H D I h1) (λf s1 q=>?_) (λe s1 q=>?_)))
 ·cases f with
  | next=>exact wpAny_execs_nil (wpAny_execs_nil q)
  | ret v=>exact q
  | brk=>exact q
  | cont=>exact q
 ·obtain⟨H',x,Cv,rfl,I1,f1,q1⟩:=q;refine qj2 top rfl I1 f1 λL T s2 _ t2=>jxh t2 λs3 t3=>?_
  obtain⟨C,rfl,hm,xc,ht⟩:=h2 x Cv H' q1 t3.fx.1;refine wpAny_handleBy_cons (codeAny_handlers_test ?_) (λz=>nomatch z);obtain⟨vs,ho,hv⟩:=t3.f.ex;have I3:Inv (tX X x) pins σ H' s3:=vke t3.inv;refine kjv I3 hg hU ?_ hdb;have at3:PySem.W.InstAt s3.heap x { cls:=.ref C,data:=.fields vs } C none:=⟨ho,rfl,rfl,trivial⟩;refine Lk (PySem.W.exm_one t3.inv.kIn at3.type hm) ?_;show codeAny _ _ _ _ s3;refine codeAny_handlers_suite (jxh t3 λs4 t4=>?_);have I4:Inv (tX X x) pins σ H' s4:=vke t4.inv;refine wpAny_mono (hs x pins s4 _ _ _ I4 ht) (λf s6 q=>?_) λ_ _ z=>z.elim
  have bk:∀{σ6:L2.St} {H6:Hp},Inv (tX X x) pins σ6 H6 s6->Inv X pins σ6 H6 s6:=λz=>vw6 I.ok z
  cases f with
  | next =>
   obtain⟨σ6,H6,I6,q6⟩:=q;exact⟨_,_,bk I6,q6⟩
  | brk =>
   obtain⟨σ6,H6,I6,q6⟩:=q;exact⟨_,_,bk I6,q6⟩
  | cont =>
   obtain⟨σ6,H6,I6,q6⟩:=q;exact⟨_,_,bk I6,q6⟩
  | ret v =>
   obtain⟨v',σ6,H6,I6,r6,q6⟩:=q;exact⟨v',_,_,bk I6,r6,q6⟩
section
variable {X:Cx}{Z:Fx0}{pn:List Nat}{q:Bool}{b:Ex}{e:Expr}{pos:Pos}
theorem kvy{UC:Addr}{cs:List Str}{B h:Sm}{tb:XK->TS}{D:Ends}{σ:L2.St}{H:Hp}(hK:X.K=Z.K)(ca:kqj X.K Z.mg UC cs)
  (hb:∀(EX:XK) E L r,Mt E σ L->World Z.K H L->B E=some r->(∀E' c,r=.xc E' c->∀C L' H',Z.mg c=some (.ref C)->Mt E' σ L'->World Z.K H' L'->Step H L H' L'->EX (.ref C) none H')->((∀E' c,r≠.xc E' c)->FlP Z pn D σ H L r)->tb EX D σ H)
  (hr:tS Z pn (jz4 cs B h) D σ H):vxo X.K UC tb (tS ⟨Z.K,Z.mg,λ_ _ _=>False⟩ pn h) D σ H:=by
 obtain⟨E,L,r,m,w,hr,k⟩:=hr;have hr:jz4 cs B h E=some r:=hr;cases hB:B E with
 | none=>unfold jz4 at hr;rw[hB]at hr;cases hr
 | some rb =>
  refine⟨λCv _ H'=>∃E1 c C L1,rb=.xc E1 c/\Cv=.ref C/\Z.mg c=some (.ref C)/\Mt E1 σ L1/\World Z.K H' L1/\Step H L H' L1,hb _ E L rb m w hB (λE' c e C L' H' hm m' w' st=>⟨E',c,C,L',e,rfl,hm,m',w',st⟩) (λhne=>?_),?_⟩
  ·unfold jz4 at hr;rw[hB]at hr;cases rb with
   | xc E1 c1=>exact absurd rfl (hne E1 c1)
   | nx E1=>cases oq9 hr;exact k
   | ct E1=>cases oq9 hr;exact k
   | bk E1=>cases oq9 hr;exact k
   | rt E1 x=>cases oq9 hr;exact k
  ·rintro x Cv H' ⟨E1,c,C,L1,rfl,rfl,hm,m1,w1,st1⟩ hx;unfold jz4 at hr;rw[hB]at hr;dsimp only at hr
   by_cases hc:c∈cs
   ·rw[Xf hc]at hr;obtain⟨C',g1,g2,g3,g4⟩:=ca c hc;rw[hm]at g1;cases oq9 g1;refine⟨C,rfl,g3,g4,?_⟩;cases hh:h E1 with
    | none=>rw[hh]at hr;cases hr
    | some rh =>
     rw[hh]at hr;have k2:=k.step st1 Pn.refl;refine⟨E1,L1,rh,m1,w1,hh,?_⟩;cases rh with
     | xc E2 c2=>cases hr
     | nx E2=>cases oq9 hr;exact k2
     | ct E2=>cases oq9 hr;exact k2
     | bk E2=>cases oq9 hr;exact k2
     | rt E2 x=>cases oq9 hr;exact k2
   ·rw[Xj hc]at hr;cases hr
theorem vzg{ux:Str}{np hpos tpos:Pos}{UC:Addr}{b0:Stmt}{suite:List Stmt}{cs:List Str}{h:Sm}(top:qku X)(hU:X.mg ux=some (.ref UC))(hK:X.K=Z.K)(ca:kqj X.K Z.mg UC cs)(hb:QEX X Z q b e)
  (hs:∀x,QSs (tX X x) ⟨Z.K,Z.mg,λ_ _ _=>False⟩ pn h (b0::suite)) (hsw:swapsWith e none pos.line X.env=pure false:=by rfl) (hg:Gl X ux:=by rfl) (hdb:(ux==("__debug__":Str))=false:=by decide):
  QS X Z pn (jz4 cs (qz6 b) h) (.Try [.Expr e pos] [.ExceptHandler (some (.Name ux np)) none (b0::suite) hpos] [] [] tpos):=
 jve (qv0 top hU (qzc hb hsw) hs hg hdb) λD σ H hr=>kvy hK ca (λEX E L r m w hB hx hk=>by
  have hB:ofE (b E) (λE _=>some (.nx E))=some r:=hB;rcases jw3 hB with⟨E1,s,h1,h2⟩| ⟨E1,c,h1,rfl⟩
  ·cases oq9 h2;refine⟨E,L,_,m,w,h1,(λ_ _ z=>by cases z),λE' s' z x L' H' e1 e2 m' w' st sm=>?_⟩;injection z with z1 z2;subst z1 z2;exact hk (λ_ _ z=>nomatch z) σ L' H' Pn.refl m' w'.tail (st.trans Step.drop)
  ·exact⟨E,L,_,m,w,h1,(λE' c' e C L' H' hm m' w' st=>by injection e with z1 z2;subst z1 z2;exact hx _ _ rfl C L' H' hm m' w' st),λE' s' z=>by cases z⟩) hr
theorem RepA.rev{K:PySem.W.Frag}{H:Hp}{g:Bool}:∀{ds:List D} {xs:List V} {bs:List Addr},RepA K H g ds xs bs->∃cs,RepA K H g ds.reverse xs.reverse cs/\∀a∈cs,a∈bs
 | [],xs,bs,h=>⟨bs,by unfold RepA at h;obtain⟨rfl,rfl⟩:=h;unfold RepA;exact⟨rfl,rfl⟩,λ_ h=>h⟩
 | d::ds,xs,bs,h=>by
  unfold RepA at h;obtain⟨x,r,b1,c1,rfl,rfl,h1,h2⟩:=h;obtain⟨cs,r2,hc⟩:=RepA.rev h2;rw[List.reverse_cons,List.reverse_cons];refine⟨cs++b1,RepA.snoc h1 r2,λa ha=>?_⟩;rcases List.mem_append.mp ha with z | z
  ·exact lr9 _ (hc a z)
  ·exact ll9 _ z
theorem wv3{o:Expr}{i:Nat}(ho:PE X o (qxv i))(hK:X.K=Z.K:=by rfl)(hm:MtR X "list.reverse" kzw){apos cpos spos:Pos}
  (hbase:attributeBase o "reverse" X.env (eval o X.env)=eval o X.env:=by rfl) (hline:(apos.endLine==cpos.line)=true:=by rfl)
  (hsw:swapsWith (.Call (.Attribute o "reverse" apos) [] [] cpos) none spos.line X.env=pure false:=by rfl):
  QS X Z pn (vjp i) (.Expr (.Call (.Attribute o "reverse" apos) [] [] cpos) spos):=
 jve (qv2 (vve Z.K PySem.F.plainAttrs_list PySem.F.slot_list_reverse PySem.F.type_list_reverse hm ho hbase hline hK) hsw) λDe σ H h_z=>ex7 h_z λE L r m w hcc k=>by
 unfold vjp at hcc
 split at hcc
 rotate_left
 ·cases hcc
 rename_i ds hE;cases oq9 hcc;obtain⟨y,a1,a2,a3,a4⟩:=m.get hE;have oky:RepR Z.K H (.lst ds) y.v y.as:=by
  have:=w.ok y (jjz a1);unfold Sl.ok at this;rw[a2,a3]at this;exact this
 obtain⟨l,xs,bs,c1,c2,c3,c4⟩:=oky;obtain⟨cs,r2,hc⟩:=c2.rev;obtain⟨w2,s2⟩:=kxk (T:=[]) (o':=.rt) (ds':=ds.reverse) (xs':=xs.reverse) (by simpa using w) a1 c3 c4 (by unfold Sl.own;rw[a2,c4];simp) c1 r2 (.inl ⟨rfl,λa ha=>.inl (hc a ha)⟩);refine⟨y.v,a4,by rw[c1];exact vxi c3,l,xs,c1,rfl,c3,?_⟩;have mm:=m.set (x:=⟨.rt,.lst ds.reverse,y.v,l::cs⟩) i;rw[jwc a4]at mm;exact k σ _ _ Pn.refl mm w2 (by simpa using s2)
end
end Q
noncomputable section
namespace PySem
open Sem (wp)
open AutoSeq1 (wpAny_loadPart')
section
variable {prog:Program}{w:World}{A:Around}{E:Value->Shared->Prop}{s:Shared}
theorem jxn{R:Result->Shared->Prop}{r:Addr}{a b c:Int}{t u v:Tok}{n:Nat}(hh:A.handled=none)(hr:IsRange s.heap r a b c t u v)(hsmall:Builtin.Range.small a b c=true)
  (hn:Builtin.Range.rangeSize a b c=n) (hlen:n<=2 ^ 24)
  (hR:∀h' tk acc c',(∀b o,s.heap.get? b=some o->h'.get? b=some o)->h'.get? s.heap.objs.size=some { cls:=.type "list",dict:=none,data:=.seq acc c',slots:=#[] }->ItemsOf (λi v=>∃t,v=.int (a+i*c) t) acc n->R (.ok (.ret (.ref s.heap.objs.size))) { s with heap:=h',toks:=tk }):
  codeAny (model prog w) A (.builtin "proto.collect" ⟨[.ref r],[]⟩) R s:=by
 refine codeAny_builtin F.entry_proto_collect ?_;rw[Around.under_plainId F.plain_proto_collect _];show wpAny _ A.in1 (newList [] >>= λl=>again (.builtin "list.__iadd__" ⟨[l,.ref r],[]⟩)) _ _ s;refine X1 (Y0 ?_);refine X5 ⟨plainId_quiet F.plain_list_iadd _,codeAny_builtin F.entry_list_iadd ?_⟩;rw[Around.under_plainId F.plain_list_iadd _];show wpAny _ A.in1 (Builtin.List.listExtendWith (.ref s.heap.objs.size) (.ref r) (.ref s.heap.objs.size)) _ _ _;exact wpAny_extend_range (s:={ s with heap:=s.heap.push { cls:=.type "list",data:=.seq ([]:List Value).toArray } }) hh (X6 _ hr) hsmall hn hlen s.heap.objs.size (.ref s.heap.objs.size) 0 (Xl _ rfl) λh' tk acc' c' hk hS' hacc=>hR h' tk acc' c' (λb o e=>hk b o (Xw (Xh e)) (X6 _ e)) hS' hacc
theorem jwo{Q:List Value->Shared->Prop}{r:Addr}{a b c:Int}{t u v:Tok}{n:Nat}(hh:A.handled=none)(hr:IsRange s.heap r a b c t u v)(hsmall:Builtin.Range.small a b c=true)
  (hn:Builtin.Range.rangeSize a b c=n) (hlen:n<=2 ^ 24)
  (hQ:∀h' tk acc,(∀b o,s.heap.get? b=some o->h'.get? b=some o)->ItemsOf (λi v=>∃t,v=.int (a+i*c) t) acc n->Q acc.toList { s with heap:=h',toks:=tk }):
  wpAny (model prog w) A (collect (.ref r)) Q E s:=by
 unfold collect;refine X1 (wpAny_runValue (jxn hh hr hsmall hn hlen λh' tk acc' c' hk hS' hacc=>?_));show wpAny _ A (load s.heap.objs.size >>= _) _ _ _;refine X1 (wpAny_load hS' ?_);exact X5 (hQ h' tk acc' hk hacc)
theorem jw4(r:Addr)(a b c:Int)(n:Nat)(hsmall:Builtin.Range.small a b c=true)(hn:Builtin.Range.rangeSize a b c=n)(hlen:n<=2 ^ 24):
  Meets (Builtin.«tuple.__new__» ⟨[.type "tuple",.ref r],[]⟩)
   (λA R s=>A.handled=none/\(∃t u v,IsRange s.heap r a b c t u v)/\∀(h':Heap) (tk:Nat) (acc:Array Value),(∀b o,s.heap.get? b=some o->h'.get? b=some o)->ItemsOf (λi v=>∃t,v=.int (a+i*c) t) acc n ->
    R (.ok (.ret (.ref h'.objs.size))) { s with heap:=h'.push { cls:=.type "tuple",data:=.seq acc },toks:=tk }):=
 .of_wp λprog w A R s h=>by
  obtain⟨hh,⟨t,u,v,hr⟩,h⟩:=h;have hsub:=sub_tuple_self;have hinit:=init_tuple_lookup;have hmh:=madeHere_tuple;have hT:s.TypeIs (.ref r) "range":=⟨_,hr,rfl⟩;have hh1:A.in1.handled=none:=hh
  wp_walk using wpAny_typeOf hT,jwo hh1 hr hsmall hn hlen
  intro h' tk acc hk hacc;show wpAny _ _ (Builtin.Tuple.tupleExact acc.toList.toArray >>= λv=>ret v) _ _ _;unfold Builtin.Tuple.tupleExact;refine X1 (Y0 ?_ (show acc.toList.toArray.size<=sizeLine by simp only[Array.toArray_toList];rw[hacc.1,sizeLine_eq];omega));refine X5 ⟨_,rfl,?_⟩;have e:acc.toList.toArray=acc:=by simp
  rw[e];exact h h' tk acc hk hacc
theorem kj0{Q:Value->Shared->Prop}{r:Addr}{a b c:Int}{t u v:Tok}{n:Nat}(hh:A.handled=none)(hr:IsRange s.heap r a b c t u v)(hsmall:Builtin.Range.small a b c=true)(hn:Builtin.Range.rangeSize a b c=n)(hlen:n<=2 ^ 24)
  (h:∀(h':Heap) (tk:Nat) (acc:Array Value),(∀b o,s.heap.get? b=some o->h'.get? b=some o)->ItemsOf (λi v=>∃t,v=.int (a+i*c) t) acc n->Q (.ref h'.objs.size) { s with heap:=h'.push { cls:=.type "tuple",data:=.seq acc },toks:=tk }):
  wpAny (model prog w) A (call (.type "tuple") [.ref r]) Q E s:=by
 refine callType_new F.called_tuple (by decide) (F.typeCall_tuple_1 _) (F.newCall_tuple_1 _) (λobj=>F.args_object_init_2 obj _) F.entry_tuple_new
  (jw4 r a b c n hsmall hn hlen) ⟨hh,⟨t,u,v,hr⟩,λh' tk acc hk hacc=>⟨⟨_,Xl _ rfl,rfl⟩,?_⟩⟩
 exact h h' tk acc hk hacc
end
end PySem
namespace Q
open PySem PySem.Spec PyProof.Rows L2 L3
section
variable {X:Cx}{Z:Fx0}{pn:List Nat}{q:Bool}{a b:Ex}{e ea:Expr}{p pos:Pos}
theorem wv2{p2 pos2:Pos}(ha:QV X Z q a ea)(hmr:X.mg "range"=none)(hml:X.mg "tuple"=none)(hc:X.calm=true:=by rfl)(hgr:Gl X "range":=by rfl)(hgl:Gl X "tuple":=by rfl)
  (hst:starEach [ea] X.env=(false,eval ea X.env)::starEach [] X.env:=by rfl) (hpl:(backTo pos2 (starEach [] X.env)).any (·.1)=false:=by rfl)
  (hst2:starEach [.Call (.Name "range" p2) [ea] [] pos2] X.env=(false,eval (.Call (.Name "range" p2) [ea] [] pos2) X.env)::starEach [] X.env:=by rfl) (hpl2:(backTo pos (starEach [] X.env)).any (·.1)=false:=by rfl):
  QE X Z q (wqf a) (.Call (.Name "tuple" p) [.Call (.Name "range" p2) [ea] [] pos2] [] pos):=by
 have hr:PE X (.Call (.Name "range" p2) [ea] [] pos2) (fun σ H Q=>tV Z q a σ H λv H1=>∃j:Int,v=.int j/\∀pp,H1 pp=none->Q (.ref pp) (upd H1 pp (.rng 0 j))):=by
  intro pins s σ H Q I h;refine Call_ (jxg I hgr hmr boot_range (Xz (thn (jko ha jqe hst pos2 pins s σ H (λvs H1=>∃j:Int,vs=[.int j]/\∀pp,H1 pp=none->Q (.ref pp) (upd H1 pp (.rng 0 j))) I ?_) λus s1 ⟨vs,H1,I1,r1,j,e,q1⟩=>?_) hst hpl))
  ·obtain⟨E,L,r,m,w,hcc,xc,k⟩:=h;exact⟨E,L,r,m,w,hcc,xc,λE' s' z x L' H' e1 e2 m' w' ok fr sr st sm=>by
    obtain⟨j,ej,qj⟩:=k E' s' z x L' H' e1 e2 m' w' ok fr sr st sm;exact⟨j,by rw[ej],qj⟩⟩
  ·subst e;obtain⟨u,rfl,t,rfl⟩:=r1.one;refine call_range_1 ⟨.ref s1.heap.objs.size,_,I1.laid (o:=.rng 0 j) (λb o e=>X6 _ e) (X8 _) ⟨_,_,_,Xl _ rfl⟩,rfl,q1 _ I1.fresh⟩
 intro pins s σ H Q I ⟨E,L,r,m,w,hcc,xc,k⟩;refine Ys (jxg I hgl hml qjr ?_);refine Xz (thn (jko hr jqe hst2 pos pins s σ H (λvs H1=>∃pp j,vs=[.ref pp]/\H1 pp=some (.rng 0 j)/\jkf j=true/\j.toNat<=big/\∀l,H1 l=none->Q (.ref l) (upd H1 l (.tup ((List.range j.toNat).map λ(i:Nat)=>V.int (0+(i:Int)))))) I ?_) λus s1 ⟨vs,H1,I1,r1,pp,j,e,hp,h62,hbig,q1⟩=>?_) hst2 hpl2
 ·refine jvj m w (show bnd (a E) _=some r from hcc) xc λE1 s h1 x L1 H1 e1 e2 m1 w1 ok fr sr st sm=>?_
  cases hx:s.2 with
  | int j =>
   rw [hx]at h1;dsimp only at h1
   split at h1
   ·rename_i hj;cases oq9 h1;refine⟨j,jku ok (e2.trans hx),λpp hpp=>⟨pp,j,rfl,jjy,hj.1,hj.2,λl hl=>?_⟩⟩;have s1:jqp H1 (upd H1 pp (.rng 0 j)):=jjp hpp;have w2:World Z.K (upd H1 pp (.rng 0 j)) L1:=⟨λx hx=>RepO.kp (w1.ok x hx) (Kp.of_same s1),w1.nd,w1.ds⟩;have st2:Step H L (upd H1 pp (.rng 0 j)) L1:=st.trans ⟨λb ob z _=>s1 b ob z,λb z=>.inl z,λb z=>.inl z⟩;have ra:∀(n:Nat) (ns:List Nat) (Hx:Hp),RepA Z.K Hx true (ns.map λ(i:Nat)=>D.int (0+(i:Int))) (ns.map λ(i:Nat)=>V.int (0+(i:Int))) []:=by
     intro n ns Hx
     induction ns with
     | nil=>unfold RepA;exact⟨rfl,rfl⟩
     | cons i ns ih =>
      rw[List.map_cons,List.map_cons];unfold RepA;exact⟨_,_,[],[],rfl,rfl,jq1,ih⟩
    have o:=jz9 (K:=Z.K) (H:=upd H1 pp (.rng 0 j)) (fr:=[]) hl (ra 0 (List.range j.toNat) (upd H1 pp (.rng 0 j))) (λ_ z=>(nomatch z));obtain⟨w3,st3⟩:=jky w2 st2 o (λ_ z=>(nomatch z)) (λ_ z=>(nomatch z)) (λ_ z=>(nomatch z));exact k _ _ rfl ⟨.no,.tup (jj4 0 j),.ref l,[]⟩ L1 _ rfl rfl m1 (by simpa [jj4]using w3) (by simpa [jj4]using st3) λhq=>⟨jj7 (sm hq) (jj7 s1 o.same),λb hb=>nomatch hb⟩
   ·cases h1
  | _=>rw[hx]at h1;cases h1
 ·subst e;obtain⟨u,rfl,rx⟩:=r1.one;cases rx;obtain⟨t1,t2,t3,hg⟩:=(show ObjOk X.prog X.w H1 s1.heap pp (.rng 0 j)from I1.hok pp _ hp);obtain⟨j1,j2⟩:=jxw h62;have e2:Builtin.Range.rangeSize 0 j 1=((j.toNat:Nat):Int):=by rw[rangeSize_one];split<;>omega
  refine kj0 (n:=j.toNat) (I1.ok.hd hc) (show IsRange s1.heap pp 0 j 1 t1 t2 t3 from hg) (small_one (by omega) (by omega) j1 j2) e2 (by unfold big at hbig;omega) λh' tk acc' kp hit=>?_
  obtain⟨hs,hg2⟩:=hit;have hv:Vals ((List.range j.toNat).map λ(i:Nat)=>V.int (0+(i:Int))) acc'.toList:=kql (by simp[hs]) λi x u ex eu=>by
   rw[Yi]at eu;obtain⟨t,rfl⟩:=hg2 i u eu;rw[Xi]at ex;cases hr:(List.range j.toNat)[i]? with
   | none=>rw[hr]at ex;cases ex
   | some m =>
    rw[hr]at ex;have hm:m=i:=by
     obtain⟨_,h2⟩:=List.getElem?_eq_some_iff.mp hr
     simpa using h2.symm
    subst hm;cases oq9 ex;exact⟨t,by rw[Int.mul_one]⟩
  have I2:=I1.kept (t':=tk) kp;have I3:=I2.laid (t':=tk) (λb o e=>X6 _ e) (X8 _) (show ObjOk X.prog X.w _ _ _ (.tup ((List.range j.toNat).map λ(i:Nat)=>V.int (0+(i:Int))))from⟨by rw[X3,Ya];exact hbig,acc'.toList,hv,by simpa using IsTupD.new h' acc'⟩);exact⟨.ref h'.objs.size,_,I3,rfl,q1 _ (I2.hok.fresh (X8 _))⟩
theorem vqo{ux y:Str}{np hpos tpos yp:Pos}{UC:Addr}{j:Nat}{b0:Stmt}{suite:List Stmt}{cs:List Str}{h:Sm}(hN:X.N.Nodup)(top:qku X)(hU:X.mg ux=some (.ref UC))(hK:X.K=Z.K)(ca:kqj X.K Z.mg UC cs)(hj:X.N[j]?=some y)(hy:Loc X.env.scope y)(hb:QEX X Z q b e)
  (hs:∀x,QSs (tX X x) ⟨Z.K,Z.mg,λ_ _ _=>False⟩ pn h (b0::suite)) (hpj:j∉pn:=by decide) (hsw:swapsWith e (some (.Name y yp)) pos.line X.env=pure false:=by rfl) (hf:X.fn y=true\/X.env.scope.names.lookup y=some .local:=by first | exact .inl rfl | exact .inr rfl | assumption) (hg:Gl X ux:=by rfl) (hdb:(ux==("__debug__":Str))=false:=by decide):
  QS X Z pn (jz4 cs (jjk j b) h) (.Try [.Assign [.Name y yp] e pos] [.ExceptHandler (some (.Name ux np)) none (b0::suite) hpos] [] [] tpos):=
 jve (qv0 top hU (vqy hN hj hy hb hsw hf) hs hg hdb) λD σ H hr=>kvy hK ca (λEX E L r m w hB hx hk=>by
  have hB:ofE (b E) (λE x=>some (.nx (E.set j (some x))))=some r:=hB;rcases jw3 hB with⟨E1,s,h1,h2⟩| ⟨E1,c,h1,rfl⟩
  ·cases oq9 h2;refine⟨E,L,_,m,w,h1,(λ_ _ z=>by cases z),λE' s' z x L' H' e1 e2 m' w' st sm=>?_⟩;injection z with z1 z2;subst z1 z2;exact hk (λ_ _ z=>nomatch z) (σ.set j (some x.v)) (L'.set j (some x)) H' (Pn.refl.set hpj) (kq0 m' e1 e2) w'.set (st.trans Step.set)
  ·exact⟨E,L,_,m,w,h1,(λE' c' e C L' H' hm m' w' st=>by injection e with z1 z2;subst z1 z2;exact hx _ _ rfl C L' H' hm m' w' st),λE' s' z=>by cases z⟩) hr
end
theorem qvx{P:Program}{w:PySem.World}{K:PySem.W.Frag}{mg mb:Str->Option Value}{CX:CXT}{k:Nat}{fa a:Addr}{fd:FuncData}{x:Str}{sp:Sp}{s₁:Shared}{vs:List Value}{ns:List Int}
  (KX:K.In s₁.heap) (hns:s₁.heap.Ns mainGlobals mg) (hb:s₁.heap.Ns builtinsNs mb) (hbb:∀x:Str,x≠"__name__"->mb x=bootBuiltins x) (hlim:s₁.heap.NoLimit) (hg:s₁.gens=#[])
  (ha:s₁.heap.get? a=some { cls:=.type "list",data:=.seq vs.toArray }) (hi:IntsAre vs ns) (hl:ns.length<=sizeLine) (hr:Room k callerA)
  (F:∀base:Heap,K.In base->base.Ns mainGlobals mg->FnOk P w K mg base CX k fa fd [x] sp) (hbind:∀(s:Shared) (u:Value),BindsTo s fd ⟨[u],[]⟩ [(x,u)])
  (hsp:∀H:Hp,wwd H->LsR K H a (ns.map V.int)->sp [.ref a] H (λv _=>v=.bl true) λ_ _ _=>False)
  (hCX:∀H e s',CX [] H s₁ (λ_ _ _=>False) e s'->False):
  codeAny (model P w) callerA (.call (.ref fa) ⟨[.ref a],[]⟩) (λr s'=>r=.ok (.ret (.bool true))/\OldK s₁.heap s'.heap/\s'.os=s₁.os/\AllBare s'.gens) s₁:=by
 have rv:=kvx hi;have lenV:=hi.length;have core:∀H:Hp,wwd H->LsR K H a (ns.map V.int)->HOk P w H s₁.heap->(∀b,H b≠none->b=a)->(H a≠none->K.lookup a=none) ->
   codeAny (model P w) callerA (.call (.ref fa) ⟨[.ref a],[]⟩) (λr s'=>r=.ok (.ret (.bool true))/\OldK s₁.heap s'.heap/\s'.os=s₁.os/\AllBare s'.gens) s₁:=by
  intro H hO hS hok hA hK;have base_of:∀{b:Addr} {o:Obj},s₁.heap.get? b=some o->H b=none->(vj2 s₁.heap H).get? b=some o:=λe n=>vj1 e n
  have noA:∀{b:Addr} {o:Obj} {es:Array DictEntry} {ep:Nat},s₁.heap.get? b=some o->o.data=.dict es ep->H b=none:=fun {b o es ep} e d=>by
   cases q:H b with
   | none=>rfl
   | some u =>
    have e':b=a:=hA b (by rw[q];simp);subst e';rw[ha]at e;cases e;have d':Data.seq vs.toArray _=Data.dict es ep:=d;cases d'
  have nsK:∀{b:Addr} {m:Str->Option Value},s₁.heap.Ns b m->(vj2 s₁.heap H).Ns b m:=fun {b m} ⟨o,es,ep,e,d,r⟩=>⟨o,es,ep,base_of e (noA e d),d,r⟩
  have hKb:K.In (vj2 s₁.heap H):=λb o e=>base_of (KX b o e) (by
   cases q:H b with
   | none=>rfl
   | some u =>
    have e':b=a:=hA b (by rw[q];simp);subst e';rw[hK (by rw[q];simp)]at e;cases e)
  have hM:Mod K mg (vj2 s₁.heap H):=⟨hKb,nsK hns,⟨mb,nsK hb,hbb⟩,let ⟨mc,h1,h2⟩:=hlim;⟨mc,nsK h1,h2⟩⟩;have e0:Env0 P w K mg (vj2 s₁.heap H) callerA [] s₁ H:=⟨rfl,hM,λb o e=>vvp e,Nat.le_of_eq (qwa _ _),trivial,λb hb=>absurd (show b∈([]:List Addr)from hb) (by simp),hok,.of_eq hg⟩;refine codeAny_mono ((F _ hKb (nsK hns)).run callerA [] s₁ H ⟨[.ref a],[]⟩ [.ref a] [.ref a] _ _ hr e0 (hbind s₁ (.ref a)) (.cons rfl .nil) (hsp H hO hS)) λr s' h=>?_
  cases r with
  | error e=>exact(hCX H e s' h).elim
  | ok fl =>
   cases fl with
   | next=>exact False.elim h
   | brk=>exact False.elim h
   | cont=>exact False.elim h
   | ret u =>
    obtain⟨v,H',os,bare,un,hok',r',q⟩:=h;have q':v=.bl true:=q;subst q';obtain rfl:u=Value.bool true:=r';refine⟨rfl,OldK.of_keep λb o e=>?_,os,bare⟩;cases q:H b with
    | none=>exact un.keep b o e q (by intro z;exact absurd (show b∈([]:List Addr)from z) (by simp)) (by simp)
    | some u =>
     rcases hO b with z | ⟨ob,xs,z⟩
     ·rw[q]at z;cases z
     ·have z2:=un.frzs b ob _ z;obtain⟨e1,_⟩:=hok b _ z;obtain⟨e2,_⟩:=hok' b _ z2;rw[e]at e1;cases e1;exact e2
 cases hk:K.lookup a with
 | some o =>
  have e:=KX a o hk;rw[ha]at e;cases e;refine core (λ_=>none) (λ_=>.inl rfl) (.inr ⟨vs.toArray,_,hk,by rw[Xa,lenV];exact hl,by simpa using rv⟩) (λb u z=>by have z':(none:Option HO)=some u:=z;cases z') (λb z=>absurd rfl z) λz=>absurd rfl z
 | none =>
  refine core (λb=>if b=a then some (.frz { cls:=.type "list",data:=.seq vs.toArray } (.lst (ns.map V.int)))else none) (λb=>?_) (.inl (.inr ⟨{ cls:=.type "list",data:=.seq vs.toArray },Xf rfl⟩)) (λb u z=>?_) (λb z=>?_) λ_=>hk
  ·by_cases hb:b=a
   ·exact .inr ⟨_,_,Xf hb⟩
   ·exact .inl (Xj hb)
  ·by_cases hb:b=a
   ·have z':=(Xf hb).symm.trans z;cases z';subst hb;exact⟨ha,by rw[X3];exact hl,vs,_,rv,ha⟩
   ·have z':=(Xj hb).symm.trans z;cases z'
  ·by_cases hb:b=a
   ·exact hb
   ·exact absurd (Xj hb) z
@[elab_as_elim] theorem wwx {P:List Value->Prop}(us:List Value)(e:us.length=1)(h:∀a,P [a]):P us:=by
 cases us with
 | nil=>cases e
 | cons a us=>cases List.eq_nil_of_length_eq_zero (Nat.succ.inj e);exact h a
@[elab_as_elim] theorem www {P:List Value->Prop}(us:List Value)(e:us.length=2)(h:∀a b,P [a,b]):P us:=by
 cases us with
 | nil=>cases e
 | cons a us=>exact wwx (P:=λl=>P (a::l)) us (Nat.succ.inj e) λb=>h a b
@[elab_as_elim] theorem wwv {P:List Value->Prop}(us:List Value)(e:us.length=3)(h:∀a b c,P [a,b,c]):P us:=by
 cases us with
 | nil=>cases e
 | cons a us=>exact www (P:=λl=>P (a::l)) us (Nat.succ.inj e) λb c=>h a b c
@[elab_as_elim] theorem wwu {P:List Value->Prop}(us:List Value)(e:us.length=4)(h:∀a b c d,P [a,b,c,d]):P us:=by
 cases us with
 | nil=>cases e
 | cons a us=>exact wwv (P:=λl=>P (a::l)) us (Nat.succ.inj e) λb c d=>h a b c d
@[elab_as_elim] theorem wwt {P:List Value->Prop}(us:List Value)(e:us.length=5)(h:∀a b c d f,P [a,b,c,d,f]):P us:=by
 cases us with
 | nil=>cases e
 | cons a us=>exact wwu (P:=λl=>P (a::l)) us (Nat.succ.inj e) λb c d f=>h a b c d f
@[elab_as_elim] theorem len6 {P:List Value->Prop}(us:List Value)(e:us.length=6)(h:∀a b c d f g,P [a,b,c,d,f,g]):P us:=by
 cases us with
 | nil=>cases e
 | cons a us=>exact wwt (P:=λl=>P (a::l)) us (Nat.succ.inj e) λb c d f g=>h a b c d f g
theorem jxy{K:PySem.W.Frag}{H:Hp}{g:Bool}:∀(ns:List Int),RepA K H g (ns.map D.int) (ns.map V.int) []
 | []=>by unfold RepA;exact⟨rfl,rfl⟩
 | n::ns=>by
  rw[List.map_cons,List.map_cons];unfold RepA;exact⟨_,_,[],[],rfl,rfl,jq1,jxy ns⟩
theorem wjz{K:PySem.W.Frag}{mg:Str->Option Value}{f:Fn}{H:Hp}{a:Addr}{ns:List Int}(h:∃E o,f [(.no,.lst (ns.map D.int))]=some (.ok E (o,.bl true)))(hs:LsR K H a (ns.map V.int))(hO:wwd H):
  spF K mg 1 f [.ref a] H (λv _=>v=.bl true) λ_ _ _=>False:=by
 obtain⟨E,o,h⟩:=h;have key:∃as,RepL K H true (.lst (ns.map D.int)) (.ref a) as/\(∀b∈as,False):=by
  rcases hs with(hs | ⟨ob,hs⟩)| hs
  ·rcases hO a with z | ⟨_,_,z⟩<;>(rw[hs]at z;cases z)
  ·refine⟨[],?_,λb hb=>nomatch hb⟩;unfold RepL;exact⟨a,ns.map V.int,[],rfl,jxy ns,.inr ⟨rfl,.inl ⟨ob,hs⟩,rfl⟩⟩
  ·refine⟨[],?_,λb hb=>nomatch hb⟩;unfold RepL;exact⟨a,ns.map V.int,[],rfl,jxy ns,.inr ⟨rfl,.inr hs,rfl⟩⟩
 obtain⟨as,r,hn⟩:=key;refine⟨[⟨.no,.lst (ns.map D.int),.ref a,as⟩],_,rfl,rfl,?_,h,(λE' c z=>by cases z),λE' s z x H' e1 e2 w' st=>?_⟩
 ·exact⟨λx hx=>by rw[oq9 (List.mem_singleton.mp hx)];exact r,by simp[Sl.own],λb hb=>by simp[Sl.own]at hb⟩
 ·injection z with z1 z2;subst z2;exact qkd w'.head e2
section
open PySem.W PySem.Calls
theorem walkQ{l:OpenLaw}{n k:Nat}{q:Program}{jq0:List Str}{XP:(Str->Option Value)->Heap->Prop}{YP:PySem.World->Heap->Prop}{d:DefRec}{K:Params->Frag}{f:Fn}{x:Str}
  (hn:l.most=some n) (hn2:n<=sizeLine) (hdf:d.params.defaults=[]) (hr:Room k callerA)
  (hY:∀(w:PySem.World) (h:Heap),YP w h->(K w.params).In h)
  (F:∀(w:PySem.World) (mg:Str->Option Value) (fa:Addr) (h:Heap),(K w.params).In h->h.Ns mainGlobals mg->mg d.name=some (.ref fa) ->
   ∃fd:FuncData,(∀(s:Shared) (u:Value),BindsTo s fd ⟨[u],[]⟩ [(x,u)])/\∀base:Heap,(K w.params).In base->base.Ns mainGlobals mg->FnOk l.prog w (K w.params) mg base (CXE l.prog w) k fa fd [x] (spF (K w.params) mg 1 f))
  (hsp:∀(ns:List Int),ns.length<=n->(∀i∈ns,Builtin.Int.intBits i<=1048576)->∃E o,f [(.no,.lst (ns.map D.int))]=some (.ok E (o,.bl true))):
  WalkO q jq0 XP YP l.row.toRowW d [] (λf vs=>PySem.call f vs):=by
 intro w s0 s1 mg mb G Y fa o pm cd doc dV kV ho hd hcd hD hmg hg args vals as hpre hlay hrd hwl hlo;obtain rfl:dV=.none:=Dflts.none hD hdf;obtain rfl:kV=.none:=Dflts.noKw hD;obtain⟨a,vs,ns,rfl,rfl,hobj,hints,hlen⟩:=Att.script_of hn hpre hwl;have hbits:=kz5 hlay;have KX:=hY w _ Y;obtain⟨fd,hb,hF⟩:=F w mg fa _ KX G.T.g hmg;refine enter_call (codeAny_mono (qvx KX G.T.g G.T.b G.T.builtins G.T.nolimit hg hobj hints (Y2 hlen hn2) hr hF hb (λH hO hS=>wjz (hsp ns hlen hbits) hS hO) (λ_ _ _ ⟨_,_,_,_,_,_,_,_,_,_,_,_,_,_,_,z⟩=>z)) λr s' hq=>?_);obtain⟨rfl,h2,h3,h4⟩:=hq;exact⟨.inl ⟨.bool true,.bool true,[],rfl,λ_=>rfl,.bool true,Att.post_true l _,λ_=>⟨List.Pairwise.nil,λ_ hm=>(nomatch hm)⟩⟩,h2,h3,h4⟩
end
end Q
noncomputable section
namespace Q
open PySem PySem.Spec PyProof.Rows L2 L3
section
variable {P:Program}{w:PySem.World}{K:PySem.W.Frag}{mg:Str->Option Value}{base h:Heap}{x:Str}{st:Stmt}{ps:List Str}{k:Nat}{sp:Sp}
def Gf(K:PySem.W.Frag)(x:Str)(st:Stmt):Prop:=∃(f:Addr) (oc:Value) (od:Option Addr) (kV dc pm:Value) (an:Option Addr) (cd ct:Value) (sl:Array (Option Value)),PySem.W.nsIn K mainGlobals x=some (some (.ref f))/\K.lookup f=some ⟨oc,od,.func (PySem.W.fnOf x x (jw7 st) (jvc st) (jj9 st) .none kV dc pm an cd ct),sl⟩/\PySem.W.codeIn K cd x=true/\PySem.W.keepIn K (.ref f)=true
theorem Gf.mk{f:Addr}{oc:Value}{od:Option Addr}{kV dc pm:Value}{an:Option Addr}{cd ct:Value}{sl:Array (Option Value)}(a:PySem.W.nsIn K mainGlobals x=some (some (.ref f)))(l:K.lookup f=some ⟨oc,od,.func (PySem.W.fnOf x x (jw7 st) (jvc st) (jj9 st) .none kV dc pm an cd ct),sl⟩)(c:PySem.W.codeIn K cd x=true)(k:PySem.W.keepIn K (.ref f)=true):Gf K x st:=⟨f,oc,od,kV,dc,pm,an,cd,ct,sl,a,l,c,k⟩
theorem Gf.d(g:Gf K x st)(X:K.In h)(G:h.Ns mainGlobals mg)(ok:∀{f:Addr} {fd:FuncData},Fun K x x st f fd->FnOk P w K mg base (CXE P w) k f fd ps sp)
  (hb:∀(kV doc pm:Value) (an:Option Addr) (cdv ct:Value) (us:List Value),us.length=ps.length->bindArgs (PySem.W.fnOf x x (jw7 st) (jvc st) (jj9 st) .none kV doc pm an cdv ct) ⟨us,[]⟩=pure (ps.zip us):=by
   intro _ _ _ _ _ _ us hl
   first
   | exact wwx us hl λ_=>rfl
   | exact www us hl λ_ _=>rfl
   | exact wwv us hl λ_ _ _=>rfl
   | exact wwu us hl λ_ _ _ _=>rfl
   | exact wwt us hl λ_ _ _ _ _=>rfl
   | exact len6 us hl λ_ _ _ _ _ _=>rfl):jwh P w K mg base k x ps sp:=by
 obtain⟨f,oc,od,kV,dc,pm,an,cd,ct,sl,a,l,c,kp⟩:=g;exact⟨f,_,ok (qwg l c kp),(qwg l c kp).binds hb,kp,Yr X G a⟩
theorem Gf.law{fa:Addr}{y:Str}(g:Gf K "law" st)(X:K.In h)(G:h.Ns mainGlobals mg)(hfa:mg "law"=some (.ref fa))(ok:∀{base:Heap} {f:Addr} {fd:FuncData},Fun K "law" "law" st f fd->FnOk P w K mg base (CXE P w) k f fd [y] sp)
  (hb:∀(kV doc pm:Value) (an:Option Addr) (cdv ct:Value) (s:Shared) (v:Value),BindsTo s (PySem.W.fnOf "law" "law" (jw7 st) (jvc st) (jj9 st) .none kV doc pm an cdv ct) ⟨[v],[]⟩ [(y,v)]:=by
   intros
   exact .of_eq rfl):
  ∃fd:FuncData,(∀(s:Shared) (v:Value),BindsTo s fd ⟨[v],[]⟩ [(y,v)])/\∀base:Heap,K.In base->base.Ns mainGlobals mg->FnOk P w K mg base (CXE P w) k fa fd [y] sp:=by
 obtain⟨f,oc,od,kV,dc,pm,an,cd,ct,sl,a,l,c,kp⟩:=g;have e:=hfa.symm.trans (Yr X G a);cases e;exact⟨_,hb kV dc pm an cd ct,λbase _ _=>ok (qwg l c kp)⟩
end
end Q
namespace Q
open PySem L2
theorem mkS{N P:List Str}{sc:Scope}(h1:sc.kind=.function:=by rfl)(h2:sc.isCoroutine=false:=by rfl)(h3:sc.isGenerator=false:=by rfl)(h4:N.Nodup:=by decide +kernel)(h5:N.take P.length=P:=by rfl)(h6:∀x∈P,sc.names.lookup x=some .local\/sc.names.lookup x=some .cell:=by decide +kernel)(h7:∀y∈sc.names,y.2≠.free:=by decide +kernel):FnScope N P sc:=⟨h1,h2,h3,h4,h5,h6,h7⟩
end Q
noncomputable section
namespace Q
open PySem PySem.Spec PyProof.Rows L2 L3
section
variable {X:Cx}{Z:Fx0}{pn:List Nat}{q qa:Bool}{a b c:Ex}{e ea eb:Expr}{pos p:Pos}
theorem kI{z:Int}{j}:QE X Z true (cC (.int z)) (.Constant (.int z) j p):=q_C wj5 λ_=>jq1
theorem ki{z:Int}{j}:QV X Z true (vE (cC (.int z))) (.Constant (.int z) j p):=jjq kI
theorem kN{j}:QE X Z true (cC .non) (.Constant .none j p):=q_C wj2 λ_=>kxh
theorem kn{j}:QV X Z true (vE (cC .non)) (.Constant .none j p):=jjq kN
theorem kS{z:Str}{j}(h:z.length<=sizeLine:=by decide):QE X Z true (cC (.str z)) (.Constant (.str z) j p):=q_C qv9 λ_=>kjk h
theorem ks{z:Str}{j}(h:z.length<=sizeLine:=by decide):QV X Z true (vE (cC (.str z))) (.Constant (.str z) j p):=jjq (kS h)
theorem vv(i:Nat){x:Str}(hN:X.N[i]?=some x:=by rfl)(hv:Vis X.env.scope x:=by first | exact Or.inl rfl | exact Or.inr (Or.inl rfl)| exact Or.inr (Or.inr rfl))(hd:(x==("__debug__":Str))=false:=by decide)
  (hcd:(x==("__classdict__":Str))=false:=by decide):QV X Z true (vV i) (.Name x pos):=q_vV (pv i hN hv hd hcd)
theorem cv(i:Nat){x:Str}(hN:X.N[i]?=some x:=by rfl)(hv:Vis X.env.scope x:=by first | exact Or.inl rfl | exact Or.inr (Or.inl rfl)| exact Or.inr (Or.inr rfl))(hd:(x==("__debug__":Str))=false:=by decide)
  (hcd:(x==("__classdict__":Str))=false:=by decide):QE X Z true (cV i) (.Name x pos):=q_V (pv i hN hv hd hcd)
theorem kx(ha:QV X Z qa a ea)(hb:QV X Z true b eb)(hs:kz7 eb:=by exact λ_ _=>rfl)(hK:X.K=Z.K:=by rfl):QV X Z qa (jjb a b) (.Subscript ea eb pos):=q_ix ha hb hs hK
theorem qA{i:Nat}{y:Str}{pos':Pos}(hN:X.N.Nodup)(h:QE X Z q a ea)(hi:X.N[i]?=some y:=by rfl)(hx:Loc X.env.scope y:=by first | exact Or.inl rfl | exact Or.inr rfl)(hp:i∉pn:=by decide)(hs:swapsWith ea (some (.Name y pos')) pos.line X.env=pure false:=by rfl)(hf:X.fn y=true\/X.env.scope.names.lookup y=some .local:=by first | exact .inl rfl | exact .inr rfl | assumption):
  QS X Z pn (jjk i a) (.Assign [.Name y pos'] ea pos):=wv6 hN hi hx h hp hs hf
theorem gn{i:Nat}{x:Str}(hN:X.N.Nodup)(hi:X.N[i]?=some x:=by rfl)(hx:Loc X.env.scope x:=by first | exact Or.inl rfl | exact Or.inr rfl)(hf:X.fn x=true\/X.env.scope.names.lookup x=some .local:=by first | exact .inl rfl | exact .inr rfl | assumption):PG X (.Name x pos) (qki i):=jkh hN hi hx hf
theorem gN{i:Nat}{x:Str}(hN:X.N.Nodup)(hi:X.N[i]?=some x:=by rfl)(hx:Loc X.env.scope x:=by first | exact Or.inl rfl | exact Or.inr rfl)(hf:X.fn x=true\/X.env.scope.names.lookup x=some .local:=by first | exact .inl rfl | exact .inr rfl | assumption)(hp:i∉pn:=by decide):QG X Z pn (.n i) (.Name x pos):=kzy (jkh hN hi hx hf) hp
theorem qC{k m n:Nat}{x:Str}{ps:List Str}{f:Fn}{cs:List Ex}{es:List Expr}(D:jwh X.prog X.w X.K X.mg X.base k x ps (spF Z.K Z.mg n f))(hr:Room m X.A)(ha:QA X Z q cs (e::es))(g:qkr X Z.EX:=by exact jjl)(hle:k<=m:=by decide)(hn:cs.length=n:=by rfl)(hg:Gl X x:=by rfl)(hdb:(x==("__debug__":Str))=false:=by decide)
  (he:starEach (e::es) X.env=(false,eval e X.env)::starEach es X.env:=by rfl) (hpl:(backTo pos (starEach es X.env)).any (·.1)=false:=by rfl):
  QE X Z q (jjj f cs) (.Call (.Name x p) (e::es) [] pos):=vzn D (hr.mono hle) g ha hn hg hdb he hpl
theorem qF{tg iter:Expr}{ss:List Stmt}{it:Ev (List D)}{t:Tg}{B:Sm}(hi:QI X Z q tg it iter)(hg:QG X Z pn t tg)(hb:QSs X Z pn B ss)(hp:PassesOwn (model X.prog X.w) X.A X.env X.xe:=by exact wjb ⟨_,_,rfl,rfl⟩)(hc:X.calm=true:=by rfl)(hs:∀x,foldedSetIterable iter X.env x=pure x:=by intro _;rfl):QS X Z pn (jwi it t B) (.For tg iter ss [] pos):=wv5 hp hc hi hg hb hs
theorem oA(ha:QV X Z qa a ea)(hb:QV X Z true b eb)(hK:X.K=Z.K:=by rfl):QE X Z qa (cF2 jk7 a b) (.BinOp ea .Add eb pos):=vqq (wji hK) wq4 ha hb
theorem oX(ha:QV X Z qa a ea)(hb:QV X Z true b eb)(hK:X.K=Z.K:=by rfl):QE X Z qa (cF2 jjt a b) (.BinOp ea .Mult eb pos):=vqq (wjg hK) vx2 ha hb
theorem oM(ha:QV X Z qa a ea)(hb:QV X Z true b eb):QE X Z qa (cF2 (pu2 jv9) a b) (.BinOp ea .Mod eb pos):=vqq wjc wq1 ha hb
theorem qP{i:Nat}{x:Str}{apos cpos xp:Pos}(h:QE X Z q c e)(hN:X.N[i]?=some x:=by rfl)(hv:Vis X.env.scope x:=by first | exact Or.inl rfl | exact Or.inr (Or.inl rfl)| exact Or.inr (Or.inr rfl))(hd:(x==("__debug__":Str))=false:=by decide)
  (hcd:(x==("__classdict__":Str))=false:=by decide) (hbase:attributeBase (.Name x xp) "append" X.env (eval (.Name x xp) X.env)=eval (.Name x xp) X.env:=by rfl)
  (hfew:((backTo cpos (starEach [e] X.env)).all (λx=>!x.1)&&(backToKw cpos (keywordEach [] X.env)).all (λx=>x.1.isSome)
   && decide ([e].length+([]:List Keyword).length+(if([]:List Keyword).isEmpty then 0 else 1)<30))=true:=by rfl)
  (hline:(apos.endLine==cpos.line)=true:=by rfl) (hs:starEach [e] X.env=(false,eval e X.env)::starEach [] X.env:=by rfl) (hplain:(backTo cpos (starEach [] X.env)).any (·.1)=false:=by rfl) (hK:X.K=Z.K:=by rfl)
  (hsw:swapsWith (.Call (.Attribute (.Name x xp) "append" apos) [e] [] cpos) none pos.line X.env=pure false:=by rfl):
  QS X Z pn (jke jvn i c) (.Expr (.Call (.Attribute (.Name x xp) "append" apos) [e] [] cpos) pos):=wv7 (wj6 Z.K PySem.F.plainAttrs_list PySem.F.slot_list_append PySem.F.type_list_append qvm (pv i hN hv hd hcd) (jko h jqe hs) hbase hfew hline hs hplain hK) hsw
theorem qL(ha:QV X Z q a ea)(hm:X.mg "len"=none)(hK:X.K=Z.K:=by rfl)(hg:Gl X "len":=by rfl)(he:starEach [ea] X.env=(false,eval ea X.env)::starEach [] X.env:=by rfl)(hpl:(backTo pos (starEach [] X.env)).any (·.1)=false:=by rfl):QE X Z q (cF1 (pu1 jqz) a) (.Call (.Name "len" p) [ea] [] pos):=vju (hK▸vwq X.K) wq2 ha hm qxb hg (by decide) (by decide) he hpl
theorem qT(ha:QV X Z q a ea)(hm:X.mg "tuple"=none)(hK:X.K=Z.K:=by rfl)(hg:Gl X "tuple":=by rfl)(he:starEach [ea] X.env=(false,eval ea X.env)::starEach [] X.env:=by rfl)(hpl:(backTo pos (starEach [] X.env)).any (·.1)=false:=by rfl):QE X Z q (cF1 jqi a) (.Call (.Name "tuple" p) [ea] [] pos):=qxl (qx6 hK) vjk ha hm qjr hg (by decide) (by decide) he hpl
end
end Q
namespace Q
open PySem
def out(f:Fn)(xs:List Sd):Option (Sd ⊕ Str):=match f xs with
 | some (.ok _ y)=>some (.inl y)
 | some (.exc _ c)=>some (.inr c)
 | none=>none
theorem vka(n:Nat)(h:300<=n):(10:Nat) ^ 70<2 ^ n:=Xn (show(10:Nat) ^ 70<2 ^ 240 by decide) (Nat.pow_le_pow_right (by decide) (by omega))
theorem wjt:(10:Nat) ^ 70<2 ^ 4096:=vka 4096 (by decide)
theorem mul_l{o1 o2:Own}{a b:Int}(h1:-18446744073709551616<a)(h2:a<18446744073709551616):qwt (o1,.int a) (o2,.int b)=some (.dp,.int (a*b)):=by
 have:kva a b=true:=by
  have:qqf a=true:=by unfold qqf;rw[Xb (show -(2 ^ 64)<a by omega),Xb (show a<2 ^ 64 by omega)];rfl
  unfold kva;rw[this];rfl
 show(if kva a b=true then _ else _)=_;rw[Xf this]
theorem wvp{o1 o2:Own}{a b:Int}(h1:-(10 ^ 70)<a)(h2:a<10 ^ 70)(h3:-(10 ^ 70)<b)(h4:b<10 ^ 70):qwt (o1,.int a) (o2,.int b)=some (.dp,.int (a*b)):=by
 have lg:∀{c:Int},c.natAbs<10 ^ 70->c.natAbs.log2<2000000:=fun {c} h=>by
  rcases Nat.eq_zero_or_pos c.natAbs with h0 | hp
  ·rw[h0];decide
  ·exact Nat.lt_trans ((Nat.log2_lt (Nat.ne_of_gt hp)).mpr (Nat.lt_trans h wjt)) (by decide)
 have ha:a.natAbs.log2<2000000:=lg (by omega);have hb:b.natAbs.log2<2000000:=lg (by omega);have:kva a b=true:=by unfold kva;rw[Xb ha,Xb hb];simp
 show(if kva a b=true then _ else _)=_;rw[Xf this]
theorem add_i{o1 o2:Own}{a b:Int}:jk7 (o1,.int a) (o2,.int b)=some (.dp,.int (a+b)):=rfl
theorem sub_i{a b:Int}:fSub (.int a) (.int b)=some (.int (a - b)):=rfl
theorem div_i{a b:Int}(h:0<b)(h2:b<10 ^ 70):qkl (.int a) (.int b)=some (.int (a / b)):=by
 have hb:b.natAbs.log2<9000:=by
  exact(Nat.log2_lt (by omega)).mpr (Nat.lt_trans (show b.natAbs<10 ^ 70 by omega) (vka 9000 (by decide)))
 show(if 0<b/\b.natAbs.log2<9000 then some (a / b)else none).map _=_;rw[Xf ⟨h,hb⟩];rfl
theorem mod_i{a b:Int}(h:0<b):jv9 (.int a) (.int b)=some (.int (a % b)):=by
 show(if 0<b then some (a % b)else none).map _=_;rw[Xf h];rfl
theorem pow_i{a b:Int}(h1:0<=b)(h2:b<=1000)(h3:-1000000<a)(h4:a<1000000):vxc (.int a) (.int b)=some (.int (a ^ b.toNat)):=by
 show(if 0<=b/\b<=1000000/\a.natAbs<2 ^ 64 then some (a ^ b.toNat)else none).map _=_;rw[Xf ⟨h1,by omega,by omega⟩];rfl
theorem jvo{a b:Int}:fEq (.int a) (.int b)=some (.bl (a==b)):=rfl
theorem vj9{a b:Str}:fEq (.str a) (.str b)=some (.bl (a==b)):=rfl
theorem lt_ii{a b:Int}:fLt (.int a) (.int b)=some (.bl (decide (a<b))):=rfl
theorem gt_ii{a b:Int}:fGt (.int a) (.int b)=some (.bl (decide (b<a))):=rfl
theorem le_ii{a b:Int}:fLe (.int a) (.int b)=some (.bl (decide (a<=b))):=rfl
theorem ge_ii{a b:Int}:fGe (.int a) (.int b)=some (.bl (decide (b<=a))):=rfl
theorem qw3{xs:List D}{i:Int}{d:D}(h0:0<=i)(h:xs[i.toNat]?=some d):jva (.lst xs) (.int i)=some d:=by
 show((ixN xs.length i).bind λj=>xs[j]?)=some d;have hl:i.toNat<xs.length:=(List.getElem?_eq_some_iff.mp h).1;unfold ixN;rw[Xf h0,Xf (by omega)];exact h
theorem ix_t{xs:List D}{i:Int}{d:D}(h0:0<=i)(h:xs[i.toNat]?=some d):jva (.tup xs) (.int i)=some d:=by
 show((ixN xs.length i).bind λj=>xs[j]?)=some d;have hl:i.toNat<xs.length:=(List.getElem?_eq_some_iff.mp h).1;unfold ixN;rw[Xf h0,Xf (by omega)];exact h
theorem len_l{xs:List D}:jqz (.lst xs)=some (.int xs.length):=rfl
theorem len_t{xs:List D}:jqz (.tup xs)=some (.int xs.length):=rfl
theorem qw4(ns:List Int)(i:Int)(h0:0<=i)(h1:i<ns.length):jva (.lst (ns.map D.int)) (.int i)=some (.int (ns.getD i.toNat 0)):=by
 have:i.toNat<ns.length:=by omega
 refine qw3 h0 ?_;simp[this]
theorem wvr(xs:List D)(i:Int)(h0:0<=i)(h1:i<xs.length):jva (.lst xs) (.int i)=some (xs.getD i.toNat .non):=by
 have:i.toNat<xs.length:=by omega
 refine qw3 h0 ?_;simp[this]
theorem wk8(xs:List D)(i:Int)(h0:0<=i)(h1:i<xs.length):jva (.tup xs) (.int i)=some (xs.getD i.toNat .non):=by
 have:i.toNat<xs.length:=by omega
 refine ix_t h0 ?_;simp[this]
theorem jw6(xs:List D)(i:Int)(h0:0<=i)(h1:i<xs.length):xs.getD i.toNat .non∈xs:=by
 have:i.toNat<xs.length:=by omega
 rw[X2,X0 this];exact Xk this
theorem vkt{o1 o2:Own}{a b:List D}(h1:o1≠.dp)(h2:o2≠.dp)(hl:a.length+b.length<10000):jk7 (o1,.lst a) (o2,.lst b)=some (.rt,.lst (a++b)):=by
 show(if a.length+b.length<=big/\jq0 (o1,.lst a)/\jq0 (o2,.lst b)then _ else _)=_;rw[Xf ⟨by unfold big;omega,by cases o1<;>simp_all [jq0],by cases o2<;>simp_all [jq0]⟩]
theorem qk2{o:Own}{xs:List D}(h:o≠.dp):jqi (o,.lst xs)=some (.no,.tup xs):=by
 show(if jq0 (o,.lst xs)then _ else _)=_;rw[Xf (by cases o<;>simp_all [jq0])]
abbrev XP:=Str->Prop
theorem nd{α:Sort _}{a b:α}(h:a=b):a=b:=h
@[irreducible] noncomputable def Eo {α:Type} (m:Option (Res α)) (P:En->α->Prop) (X:XP):Prop:=match m with
 | some (.ok E a)=>P E a
 | some (.exc _ c)=>X c
 | none=>False
@[irreducible] noncomputable def Vo {α:Type} (m:Option α) (P:α->Prop):Prop:=match m with
 | some a=>P a
 | none=>False
@[irreducible] noncomputable def Oo (f:Fn) (xs:List Sd) (P:Sd->Prop) (X:XP):Prop:=match f xs with
 | some (.ok _ y)=>P y
 | some (.exc _ c)=>X c
 | none=>False
@[irreducible] noncomputable def Po (r:Option Fl) (N C:En->Prop) (R:Sd->Prop) (X:XP):Prop:=match r with
 | some (.nx E)=>N E
 | some (.ct E)=>C E
 | some (.rt _ x)=>R x
 | some (.xc _ c)=>X c
 | _=>False
abbrev noX:XP:=λ_=>False
section
variable {α β:Type}{P:En->α->Prop}{X:XP}{N C:En->Prop}{R:Sd->Prop}{E:En}
theorem kvl{a:α}:Eo (some (.ok E a)) P X=P E a:=nd (by with_unfolding_all rfl)
theorem qww{c:Str}:Eo (some (.exc E c):Option (Res α)) P X=X c:=nd (by with_unfolding_all rfl)
theorem qwu:Eo (none:Option (Res α)) P X=False:=nd (by with_unfolding_all rfl)
theorem jji{m:Option (Res β)}{f:En->β->Option (Res α)}:Eo (bnd m f) P X=Eo m (λE a=>Eo (f E a) P X) X:=by
 cases m with
 | none=>with_unfolding_all rfl
 | some r=>cases r<;>with_unfolding_all rfl
theorem vo_some{a:α}{P:α->Prop}:Vo (some a) P=P a:=nd (by with_unfolding_all rfl)
theorem vo_map{x:Option β}{f:β->α}{P:α->Prop}:Vo (x.map f) P=Vo x (λa=>P (f a)):=by cases x<;>with_unfolding_all rfl
theorem jwl{x:Option α}:Eo (val E x) P X=Vo x (P E):=by cases x<;>with_unfolding_all rfl
theorem vv6{E:En}:Po (some (.nx E)) N C R X=N E:=nd (by with_unfolding_all rfl)
theorem wvd{E:En}{x:Sd}:Po (some (.rt E x)) N C R X=R x:=nd (by with_unfolding_all rfl)
theorem kjo{m:Option (Res α)}{f:En->α->Option Fl}:Po (ofE m f) N C R X=Eo m (λE a=>Po (f E a) N C R X) X:=by
 cases m with
 | none=>with_unfolding_all rfl
 | some r=>cases r<;>with_unfolding_all rfl
theorem vjx{a b:Sm}:Po (jjc a b E) N C R X=Po (a E) (λE=>Po (b E) N C R X) C R X:=by
 unfold jjc Po;cases a E with
 | none=>with_unfolding_all rfl
 | some r=>cases r<;>with_unfolding_all rfl
theorem vzw{x:Option β}{f:β->Fl}:Po (x.map f) N C R X=Vo x (λa=>Po (some (f a)) N C R X):=by cases x<;>with_unfolding_all rfl
theorem Eo.mono{m:Option (Res α)}{P':En->α->Prop}(h:Eo m P X)(k:∀E a,P E a->P' E a):Eo m P' X:=by
 cases m with
 | none=>with_unfolding_all exact h
 | some r=>cases r with
  | ok E a=>with_unfolding_all exact k E a h
  | exc E c=>with_unfolding_all exact h
theorem Oo.mono{f:Fn}{xs:List Sd}{P P':Sd->Prop}(h:Oo f xs P X)(k:∀y,P y->P' y):Oo f xs P' X:=by
 unfold Oo at h ⊢;cases hf:f xs with
 | none=>rw[hf]at h;with_unfolding_all exact h
 | some r=>rw[hf]at h;cases r with
  | ok E a=>with_unfolding_all exact k a h
  | exc E c=>with_unfolding_all exact h
theorem Oo.out{f:Fn}{xs:List Sd}{P:Sd->Prop}(h:Oo f xs P noX):∃E y,f xs=some (.ok E y)/\P y:=by
 unfold Oo at h;cases hf:f xs with
 | none=>rw[hf]at h;with_unfolding_all exact(show False from h).elim
 | some r=>rw[hf]at h;cases r with
  | ok E a=>with_unfolding_all exact⟨E,a,rfl,h⟩
  | exc E c=>with_unfolding_all exact(show False from h).elim
theorem jq7{n:Nat}{b:Sm}{xs:List Sd}{P:Sd->Prop}(h:Po (b (xs.map some++List.replicate (n - xs.length) none)) (λ_=>P (.dp,.non)) (λ_=>False) P X):Oo (fn n b) xs P X:=by
 unfold Oo fn;unfold Po at h;cases hb:b (xs.map some++List.replicate (n - xs.length) none)with
 | none=>rw[hb]at h;with_unfolding_all exact h
 | some r=>rw[hb]at h;cases r<;>with_unfolding_all exact h
theorem vwi{f:Fn}{cs:List Ex}{P:En->Sd->Prop}:Eo (jjj f cs E) P X=Eo (jq4 cs E) (λE xs=>Oo f (letAll xs) (P E) X) X:=by
 unfold jjj;rw[jji]
 congr 1
 funext E xs;unfold Oo;cases f (letAll xs)with
 | none=>with_unfolding_all rfl
 | some r=>cases r<;>with_unfolding_all rfl
def wqh(d:D){α:Type}(a b:Option α):Option α:=match d with
 | .bl k=>if k=true then a else b
 | _=>none
theorem vws(a b:Ex):vjg a b E=bnd (a E) λE x=>wqh x.2 (b E) (some (.ok E (.dp,.bl false))):=by
 unfold vjg wqh
 congr 1
 funext E x;cases x.2 with
 | bl k=>cases k<;>with_unfolding_all rfl
 | _=>with_unfolding_all rfl
theorem wku(a b:Ex):cOr a b E=bnd (a E) λE x=>wqh x.2 (some (.ok E (.dp,.bl true))) (b E):=by
 unfold cOr wqh
 congr 1
 funext E x;cases x.2 with
 | bl k=>cases k<;>with_unfolding_all rfl
 | _=>with_unfolding_all rfl
theorem kxm{tg:Tg}{b:Sm}(I:En->List D->Prop)(hs:∀E d ds,I E (d::ds)->Vo (tg.put d E) λE1=>Po (b E1) (λE2=>I E2 ds) (λE2=>I E2 ds) R X)(h1:∀E,I E []->N E):∀ds E,I E ds->Po (qxn tg b ds E) N C R X
 | [],E,h=>by with_unfolding_all exact h1 E h
 | d::ds,E,h=>by
  have h2:=hs E d ds h;unfold qxn;cases hp:tg.put d E with
  | none=>rw[hp]at h2;with_unfolding_all exact(show False from h2).elim
  | some E1 =>
   rw[hp]at h2;have h2:Po (b E1) (λE2=>I E2 ds) (λE2=>I E2 ds) R X:=by with_unfolding_all exact h2
   dsimp only;cases hb:b E1 with
   | none=>rw[hb]at h2;with_unfolding_all exact(show False from h2).elim
   | some r =>
    rw[hb]at h2;cases r with
    | nx E2=>with_unfolding_all exact kxm I hs h1 ds E2 h2
    | ct E2=>with_unfolding_all exact kxm I hs h1 ds E2 h2
    | rt E2 x=>with_unfolding_all exact h2
    | xc E2 c=>with_unfolding_all exact h2
    | bk E2=>with_unfolding_all exact(show False from h2).elim
theorem jvf{it:Ev (List D)}{tg:Tg}{b:Sm}(I:En->List D->Prop)(h0:Eo (it E) I X)(hs:∀E d ds,I E (d::ds)->Vo (tg.put d E) λE1=>Po (b E1) (λE2=>I E2 ds) (λE2=>I E2 ds) R X)(h1:∀E,I E []->N E):Po (jwi it tg b E) N C R X:=by
 show Po (ofE (it E) λE ds=>qxn tg b ds E) N C R X;rw[kjo]
 with_unfolding_all exact h0.mono λE ds h=>kxm I hs h1 ds E h
theorem qzh{t:Ts}{b:Sm}(I:Nat->En->Prop)(hs:∀n E,I n E->Eo (t E) (λE1 k=>if k=true then Po (b E1) (λE2=>∃m,m<n/\I m E2) (λE2=>∃m,m<n/\I m E2) R X else N E1) X):∀n E,I n E->Po (sWhile t b E) N C R X:=by
 intro n
 induction n using Nat.strongRecOn with
 | _ n ih =>
  intro E h;have h2:=hs n E h;rw [sWhile];cases ht:t E with
  | none=>rw[ht]at h2;with_unfolding_all exact(show False from h2).elim
  | some r =>
   rw [ht]at h2;cases r with
   | exc E1 c=>with_unfolding_all exact h2
   | ok E1 k =>
    cases k with
    | false=>with_unfolding_all exact h2
    | true =>
     have h2:Po (b E1) (λE2=>∃m,m<n/\I m E2) (λE2=>∃m,m<n/\I m E2) R X:=by with_unfolding_all exact h2
     dsimp only;cases hb:b E1 with
     | none=>rw[hb]at h2;with_unfolding_all exact(show False from h2).elim
     | some r =>
      rw[hb]at h2;cases r with
      | nx E2=>exact(show ∃m,m<n/\I m E2 by with_unfolding_all exact h2).elim λm hh=>ih m hh.1 E2 hh.2
      | ct E2=>exact(show ∃m,m<n/\I m E2 by with_unfolding_all exact h2).elim λm hh=>ih m hh.1 E2 hh.2
      | rt E2 x=>with_unfolding_all exact h2
      | xc E2 c=>with_unfolding_all exact h2
      | bk E2=>with_unfolding_all exact(show False from h2).elim
theorem qwv{tg:Tg}{t:Ts}{c:Ex}{P:En->List Sd->Prop}(J:En->List D->List Sd->Prop)(hs:∀B d ds acc,J B (d::ds) acc->Vo (tg.put d B) λB1=>Eo (t B1) (λB2 k=>if k=true then Eo (c B2) (λB3 y=>J B3 ds (acc++[y])) X else J B2 ds acc) X)(h1:∀B acc,J B [] acc->P B acc):∀ds B acc,J B ds acc->Eo (lcL tg t c ds B acc) P X
 | [],B,acc,h=>by with_unfolding_all exact h1 B acc h
 | d::ds,B,acc,h=>by
  have h2:=hs B d ds acc h;unfold lcL;cases hp:tg.put d B with
  | none=>rw[hp]at h2;with_unfolding_all exact(show False from h2).elim
  | some B1 =>
   rw[hp]at h2;have h2:Eo (t B1) (λB2 k=>if k=true then Eo (c B2) (λB3 y=>J B3 ds (acc++[y])) X else J B2 ds acc) X:=by with_unfolding_all exact h2
   dsimp only;rw[jji];refine h2.mono λB2 k h3=>?_
   cases k with
   | false=>with_unfolding_all exact qwv J hs h1 ds B2 acc h3
   | true =>
    show Eo (bnd (c B2) _) P X;rw[jji]
    with_unfolding_all exact Eo.mono (P:=λB3 y=>J B3 ds (acc++[y])) h3 λB3 y h4=>qwv J hs h1 ds B3 _ h4
theorem qkm{o:Own}{k:Nat}{r:List Nat}{it:Ev (List D)}{tg:Tg}{t:Ts}{c:Ex}{P:En->Sd->Prop}(J:En->En->List D->List Sd->Prop)(h0:Eo (it E) (λE1 ds=>J E1 (vw0 k r E1) ds []) X)
  (hs:∀E1 B d ds acc,J E1 B (d::ds) acc->Vo (tg.put d B) λB1=>Eo (t B1) (λB2 k=>if k=true then Eo (c B2) (λB3 y=>J E1 B3 ds (acc++[y])) X else J E1 B2 ds acc) X) (h1:∀E1 B acc,J E1 B [] acc->Eo (mkL o (kjw k r B E1) acc) P X):Eo (cLC o k r it tg t c E) P X:=by
 unfold cLC;rw[jji];refine h0.mono λE1 ds hJ=>?_
 have:=qwv (P:=λB acc=>Eo (mkL o (kjw k r B E1) acc) P X) (J E1) (hs E1) (h1 E1) ds _ _ hJ;cases hl:lcL tg t c ds (vw0 k r E1) []with
 | none=>rw[hl]at this;with_unfolding_all exact(show False from this).elim
 | some q=>rw[hl]at this;cases q<;>with_unfolding_all exact this
end
theorem mulT_i{o1:Own}{a:Int}{y:Sd}:jjt (o1,.int a) y=qwt (o1,.int a) y:=by
 unfold jjt;with_unfolding_all rfl
theorem mulT_l{o1:Own}{a:List D}{y:Sd}:jjt (o1,.lst a) y=qwt (o1,.lst a) y:=by
 unfold jjt;with_unfolding_all rfl
def sl(q:Option (Option Sd)):Option Sd:=match q with
 | some (some x)=>some x
 | _=>none
theorem sl_some{x:Sd}:sl (some (some x))=some x:=nd (by with_unfolding_all rfl)
def wwb(d:D)(a b:Prop):Prop:=match d with
 | .bl k=>if k=true then a else b
 | _=>False
theorem andP_bl{k:Bool}{a b:Prop}:wwb (.bl k) a b=if k=true then a else b:=nd (by with_unfolding_all rfl)
def Wo{α:Type}(m:Option α)(E:En)(P:En->α->Prop):Prop:=Vo m (P E)
theorem wo_some{α:Type}{a:α}{E:En}{P:En->α->Prop}:Wo (some a) E P=P E a:=by unfold Wo;exact vo_some
theorem wo_map{α β:Type}{x:Option β}{f:β->α}{E:En}{P:En->α->Prop}:Wo (x.map f) E P=Wo x E (λE a=>P E (f a)):=by unfold Wo;exact vo_map
def Oe(f:Fn)(xs:List Sd)(E:En)(P:En->Sd->Prop)(X:XP):Prop:=Oo f xs (P E) X
def intP(d:D)(P:Int->Prop):Prop:=match d with
 | .int i=>P i
 | _=>False
def Ie(d:D)(E:En)(P:En->Int->Prop):Prop:=intP d (P E)
theorem ie_i{i:Int}{E:En}{P:En->Int->Prop}:Ie (.int i) E P=P E i:=nd (by with_unfolding_all rfl)
section
variable {P:En->Sd->Prop}{T:En->Bool->Prop}{X:XP}{N C:En->Prop}{R:Sd->Prop}{E:En}{e:Option Sd}{a b c:Ex}{t u:Ts}{i:Nat}
theorem w_seq{a b:Sm}:Po (jjc a b (e::E)) N C R X=Po (a (e::E)) (λE=>Po (b E) N C R X) C R X:=vjx
theorem w_asg:Po (jjk i c (e::E)) N C R X=Eo (c (e::E)) (λE x=>N (E.set i (some x))) X:=by unfold jjk;rw[kjo];with_unfolding_all rfl
theorem w_ret:Po (jkd c (e::E)) N C R X=Eo (c (e::E)) (λ_ x=>R x) X:=by unfold jkd;rw[kjo];with_unfolding_all rfl
theorem w_pass:Po (jjw (e::E)) N C R X=N (e::E):=nd (by with_unfolding_all rfl)
theorem w_if{a b:Sm}:Po (sIf t a b (e::E)) N C R X=Eo (t (e::E)) (λE k=>if k=true then Po (a E) N C R X else Po (b E) N C R X) X:=by
 unfold sIf;rw[kjo];congr 1;funext E k;cases k<;>with_unfolding_all rfl
theorem w_tup{is:List Nat}:Po (vx7 is c (e::E)) N C R X=Eo (c (e::E)) (λE x=>Vo (Tg.put (.t is) x.2 E) N) X:=by
 unfold vx7;rw[kjo];congr 1;funext E x;rw[vzw];with_unfolding_all rfl
theorem w_vV:Eo (vV i (e::E)) P X=Wo (sl (e::E)[i]?) (e::E) P:=by
 unfold vV Wo;cases(e::E)[i]? with
 | none=>with_unfolding_all rfl
 | some q=>cases q<;>with_unfolding_all rfl
theorem w_cV:Eo (cV i (e::E)) P X=Wo (sl (e::E)[i]?) (e::E) (λE x=>P (E.set i (some (.no,x.2))) (.no,x.2)):=by
 unfold cV Wo;cases(e::E)[i]? with
 | none=>with_unfolding_all rfl
 | some q=>cases q<;>with_unfolding_all rfl
theorem w_cMv:Eo (cMv i (e::E)) P X=Wo (sl (e::E)[i]?) (e::E) (λE x=>P (E.set i none) x):=by
 unfold cMv Wo;cases(e::E)[i]? with
 | none=>with_unfolding_all rfl
 | some q=>cases q<;>with_unfolding_all rfl
theorem w_cC{d:D}:Eo (cC d (e::E)) P X=P (e::E) (.dp,d):=nd (by with_unfolding_all rfl)
theorem w_vE:Eo (vE c (e::E)) P X=Eo (c (e::E)) (λE x=>P E (.no,x.2)) X:=by unfold vE;rw[jji];with_unfolding_all rfl
theorem w_cH:Eo (cH c (e::E)) P X=Eo (c (e::E)) (λE x=>if x.1=.no then P E (.no,x.2)else if x.2.pure=true then P E (.dp,x.2)else False) X:=by
 unfold cH;rw[jji]
 congr 1
 funext E x
 by_cases h:x.1=.no
 ·rw[Xf h,Xf h];with_unfolding_all rfl
 ·rw[Xj h,Xj h]
  by_cases h2:x.2.pure=true
  ·rw[Xf h2,Xf h2];with_unfolding_all rfl
  ·rw[Xj h2,Xj h2];with_unfolding_all rfl
theorem w_f1{f:Sd->Option Sd}:Eo (cF1 f a (e::E)) P X=Eo (a (e::E)) (λE x=>Wo (f x) E P) X:=by
 unfold cF1;rw[jji];congr 1;funext E x;exact jwl
theorem w_f2{f:Sd->Sd->Option Sd}:Eo (cF2 f a b (e::E)) P X=Eo (a (e::E)) (λE x=>Eo (b E) (λE y=>Wo (f x y) E P) X) X:=by
 unfold cF2;rw[jji];congr 1;funext E x;rw[jji];congr 1;funext E y;exact jwl
theorem w_ix:Eo (jjb a b (e::E)) P X=Eo (a (e::E)) (λE x=>Eo (b E) (λE y=>Wo (jva x.2 y.2) E (λE d=>P E (sub x.1,d))) X) X:=by
 unfold jjb;rw[jji];congr 1;funext E x;rw[jji];congr 1;funext E y;rw[jwl];exact vo_map
theorem w_tE:Eo (tE c (e::E)) T X=Eo (c (e::E)) (λE x=>Wo (truth x.2) E T) X:=by
 unfold tE;rw[jji];congr 1;funext E x;exact jwl
theorem w_tEQ:Eo (tEQ c (e::E)) T X=Eo (c (e::E)) (λE x=>Wo (truthQ x.2) E T) X:=by
 unfold tEQ;rw[jji];congr 1;funext E x;exact jwl
theorem w_tNot:Eo (tNot t (e::E)) T X=Eo (t (e::E)) (λE k=>T E (!k)) X:=by unfold tNot;rw[jji];with_unfolding_all rfl
theorem w_tAnd:Eo (tAnd t u (e::E)) T X=Eo (t (e::E)) (λE k=>if k=true then Eo (u E) T X else T E false) X:=by
 unfold tAnd;rw[jji];congr 1;funext E k;cases k<;>with_unfolding_all rfl
theorem w_tOr:Eo (tOr t u (e::E)) T X=Eo (t (e::E)) (λE k=>if k=true then T E true else Eo (u E) T X) X:=by
 unfold tOr;rw[jji];congr 1;funext E k;cases k<;>with_unfolding_all rfl
theorem w_tYes:Eo (tYes (e::E)) T X=T (e::E) true:=nd (by with_unfolding_all rfl)
theorem w_cIf:Eo (cIf t a b (e::E)) P X=Eo (t (e::E)) (λE k=>if k=true then Eo (a E) P X else Eo (b E) P X) X:=by
 unfold cIf;rw[jji];congr 1;funext E k;cases k<;>with_unfolding_all rfl
theorem w_cAnd:Eo (vjg a b (e::E)) P X=Eo (a (e::E)) (λE x=>wwb x.2 (Eo (b E) P X) (P E (.dp,.bl false))) X:=by
 rw[vws,jji];congr 1;funext E x;cases x.2 with
 | bl k=>cases k<;>with_unfolding_all rfl
 | _=>with_unfolding_all rfl
theorem w_cOr:Eo (cOr a b (e::E)) P X=Eo (a (e::E)) (λE x=>wwb x.2 (P E (.dp,.bl true)) (Eo (b E) P X)) X:=by
 rw[wku,jji];congr 1;funext E x;cases x.2 with
 | bl k=>cases k<;>with_unfolding_all rfl
 | _=>with_unfolding_all rfl
theorem w_call{f:Fn}{cs:List Ex}:Eo (jjj f cs (e::E)) P X=Eo (jq4 cs (e::E)) (λE xs=>Oe f (letAll xs) E P X) X:=by with_unfolding_all exact vwi
theorem w_partN{P:En->Option Int->Prop}:Eo (kz4 none (e::E)) P X=P (e::E) none:=nd (by with_unfolding_all rfl)
theorem w_partS{P:En->Option Int->Prop}:Eo (kz4 (some c) (e::E)) P X=Eo (c (e::E)) (λE x=>Ie x.2 E (λE i=>P E (some i))) X:=by
 show Eo (bnd (c (e::E)) _) P X=_;rw[jji];congr 1;funext E x;unfold Ie;cases x.2<;>with_unfolding_all rfl
theorem w_sl{lo hi:Option Ex}:Eo (cSl a lo hi (e::E)) P X=Eo (a (e::E)) (λE x=>Eo (kz4 lo E) (λE l=>Eo (kz4 hi E) (λE h=>Wo (fSl x l h) E P) X) X) X:=by
 unfold cSl;rw[jji];congr 1;funext E x;rw[jji];congr 1;funext E l;rw[jji];congr 1;funext E h;exact jwl
theorem w_idx:Eo (wkv a b (e::E)) P X=Eo (a (e::E)) (λE x=>if isSq x.2=true then Eo (b E) (λE y=>Wo (qjk x.2 y.2) E (λE d=>P E (.dp,d))) X else False) X:=by
 unfold wkv;rw[jji];congr 1;funext E x;cases isSq x.2 with
 | false=>with_unfolding_all rfl
 | true =>
  show Eo (bnd (b E) _) P X=_;rw[jji];rw[Xf rfl]
  congr 1;funext E y;rw[jwl];unfold pu2;exact vo_map
theorem w_itS{P:En->List D->Prop}:Eo (itS c (e::E)) P X=Eo (c (e::E)) (λE x=>Wo (seqOf x.2) E P) X:=by
 unfold itS;rw[jji]
 congr 1
 funext E x;exact jwl
theorem w_itEn{P:En->List D->Prop}:Eo (qzx c (e::E)) P X=Eo (c (e::E)) (λE x=>Wo (lstOf x.2) E (λE ds=>P E (jvp 0 ds))) X:=by
 unfold qzx;rw[jji]
 congr 1
 funext E x;rw[jwl];exact vo_map
end
theorem args_nil{e:Option Sd}{E:En}{P:En->List Sd->Prop}{X:XP}:Eo (jq4 [] (e::E)) P X=P (e::E) []:=nd (by with_unfolding_all rfl)
theorem args_cons{e:Option Sd}{E:En}{c:Ex}{cs:List Ex}{P:En->List Sd->Prop}{X:XP}:Eo (jq4 (c::cs) (e::E)) P X=Eo (c (e::E)) (λE x=>Eo (jq4 cs E) (λE xs=>P E (x::xs)) X) X:=by
 show Eo (bnd (c (e::E)) λE x=>bnd (jq4 cs E) λE xs=>some (.ok E (x::xs))) P X=_;rw[jji]
 congr 1
 funext E x;rw[jji]
 with_unfolding_all rfl
theorem eo_tup{e:Option Sd}{E:En}{cs:List Ex}{P:En->Sd->Prop}{X:XP}:Eo (jvh .no cs (e::E)) P X=Eo (jq4 cs (e::E)) (λE xs=>P E (.no,.tup (xs.map (·.2)))) X:=by
 unfold jvh;rw[jji]
 with_unfolding_all rfl
theorem eo_lst{e:Option Sd}{E:En}{cs:List Ex}{P:En->Sd->Prop}{X:XP}:Eo (jv0 .rt cs (e::E)) P X=Eo (jq4 cs (e::E)) (λE xs=>P E (.rt,.lst (xs.map (·.2)))) X:=by
 unfold jv0;rw[jji]
 with_unfolding_all rfl
theorem jwv{c:Ex}{E:En}{P:En->List D->Prop}{X:XP}(h:Eo (c E) (λE x=>∃n:Int,x.2=.int n/\n<=1000/\-1000<=n/\P E (jj4 0 n)) X):Eo (kkk c E) P X:=by
 unfold kkk;rw[jji];refine h.mono ?_;rintro E ⟨o,d⟩ ⟨n,rfl,h1,h2,h3⟩;have:jkf n=true:=by unfold jkf;rw[Xb (by omega),Xb (by omega)];with_unfolding_all rfl
 show Eo (if jkf n=true/\n.toNat<=big then _ else _) P X;rw[Xf ⟨this,by unfold big;omega⟩]
 with_unfolding_all exact h3
theorem vkr{i:Nat}{c:Ex}{E:En}{o:Own}{xs:List D}{N C:En->Prop}{R:Sd->Prop}{X:XP}(h0:E[i]?=some (some (o,.lst xs)))
  (h:Eo (c E) (λE1 x=>∃o ys,E1[i]?=some (some (o,.lst ys))/\o≠.no/\ys.length<10000/\N (E1.set i (some (if o=.dp/\jwe x then .dp else .rt,.lst (ys++[x.2]))))) X):Po (jke jvn i c E) N C R X:=by
 unfold jke;rw[h0,Xf (show qzy (some (some (o,.lst xs)))=true from rfl),kjo];refine h.mono ?_;rintro E1 x ⟨o,ys,h1,h2,h3,h4⟩;rw[h1];dsimp only;have hg:jvn ys x.2=some (ys++[x.2]):=by unfold jvn;rw[Xf (by unfold big;omega)]
 rw[Xj h2,hg]
 with_unfolding_all exact h4
theorem jwm{i:Nat}{c:Ex}{E:En}{xs:List D}{N C:En->Prop}{R:Sd->Prop}{X:XP}(h0:E[i]?=some (some (.rt,.lst xs)))
  (h:Eo (c E) (λE1 x=>∃ys,E1[i]?=some (some (.rt,.lst ys))/\ys.length<10000/\N (E1.set i (some (.rt,.lst (ys++[x.2]))))) X):Po (jke jvn i c E) N C R X :=
 vkr h0 (h.mono λE1 x ⟨ys,h1,h2,h3⟩=>⟨.rt,ys,h1,by decide,h2,by rw[Xj (by rintro ⟨z,_⟩;cases z)];with_unfolding_all exact h3⟩)
theorem rng_ok{n:Int}(h1:-1000<=n)(h2:n<=1000):(jkf n=true/\n.toNat<=big)=True:=by
 have:jkf n=true:=by unfold jkf;rw[Xb (by omega),Xb (by omega)];with_unfolding_all rfl
 with_unfolding_all exact eq_true ⟨this,by unfold big;omega⟩
theorem kz0{α:Type}{p:Prop}[Decidable p]{a:Option (Res α)}{P:En->α->Prop}{X:XP}:Eo (if p then a else none) P X=(p/\Eo a P X):=by
 by_cases h:p
 ·rw[Xf h];with_unfolding_all exact propext ⟨λz=>⟨h,z⟩,λz=>z.2⟩
 ·rw[Xj h];with_unfolding_all exact propext ⟨λz=>z.elim,λz=>h z.1⟩
theorem w_LR1{c:Ex}{e:Option Sd}{E:En}{P:En->Sd->Prop}{X:XP}:Eo (vkn c (e::E)) P X=Eo (c (e::E)) (λE x=>Ie x.2 E λE n=>(jkf n=true/\n.toNat<=big)/\P E (.rt,.lst (jj4 0 n))) X:=by
 unfold vkn;rw[jji];congr 1;funext E x;cases x.2 with
 | int n=>with_unfolding_all exact kz0
 | _=>with_unfolding_all rfl
theorem vxz{o:Own}{xs:List D}{lo hi:Option Int}(h:o≠.dp):fSl (o,.lst xs) lo hi=some (.rt,.lst (qxp xs lo hi)):=by
 show(if jq0 (o,.lst xs)then _ else _)=_;rw[Xf (by cases o<;>simp_all [jq0])]
theorem sub_no:sub .no=.no:=nd (by with_unfolding_all rfl)
theorem sub_rt:sub .rt=.no:=nd (by with_unfolding_all rfl)
theorem Oo.use{ι:Sort _}{f:Fn}{xs:List Sd}{g:ι->Sd}{S:ι->Prop}{E:En}{P:En->Sd->Prop}{X:XP}(h:Oo f xs (λy=>∃i,y=g i/\S i) X)(k:∀i,S i->P E (g i)):Oe f xs E P X:=h.mono λy ⟨i,e,s⟩=>e▸k i s
theorem Oo.use2{ι κ:Sort _}{f:Fn}{xs:List Sd}{g:ι->κ->Sd}{S:ι->κ->Prop}{E:En}{P:En->Sd->Prop}{X:XP}(h:Oo f xs (λy=>∃i j,y=g i j/\S i j) X)(k:∀i j,S i j->P E (g i j)):Oe f xs E P X:=h.mono λy ⟨i,j,e,s⟩=>e▸k i j s
theorem Oo.via{f:Fn}{xs:List Sd}{S:Sd->Prop}{E:En}{P:En->Sd->Prop}{X:XP}(h:Oo f xs S X)(k:∀y,S y->P E y):Oe f xs E P X:=h.mono k
theorem jql{E:En}{ys:List Sd}{P:En->Sd->Prop}{X:XP}:Eo (mkL .rt E ys) P X=P E (.rt,.lst (ys.map (·.2))):=nd (by with_unfolding_all rfl)
theorem w_zip{c d:Ex}{e:Option Sd}{E:En}{P:En->List D->Prop}{X:XP}:Eo (qw5 c d (e::E)) P X=Eo (c (e::E)) (λE x=>Eo (d E) (λE y=>Wo ((lstOf x.2).bind λxs=>(lstOf y.2).bind λys=>if xs.length<=big then some (kvu xs ys)else none) E P) X) X:=by
 unfold qw5;rw[jji];congr 1;funext E x;rw[jji];congr 1;funext E y;exact jwl
theorem w_rz{c:Str}{e:Option Sd}{E:En}{N C:En->Prop}{R:Sd->Prop}{X:XP}:Po (sRz c (e::E)) N C R X=X c:=nd (by with_unfolding_all rfl)
def Ox(f:Fn)(xs:List Sd)(E:En)(P:En->Sd->Prop)(Y:En->Str->Prop):Prop:=Oo f xs (P E) (Y E)
theorem Oo.ox{f:Fn}{xs:List Sd}{S:Sd->Prop}{W:XP}{E:En}{P:En->Sd->Prop}{Y:En->Str->Prop}(h:Oo f xs S W)(k:∀y,S y->P E y)(l:∀c,W c->Y E c):Ox f xs E P Y:=by
 unfold Ox Oo at *;cases hf:f xs with
 | none=>rw[hf]at h;with_unfolding_all exact h
 | some r=>rw[hf]at h;cases r with
  | ok E a=>with_unfolding_all exact k a h
  | exc E c=>with_unfolding_all exact l c h
theorem Oo.any{f:Fn}{xs:List Sd}{P:Sd->Prop}{X:XP}(h:Oo f xs P noX):Oo f xs P X:=by
 unfold Oo at *;cases hf:f xs with
 | none=>rw[hf]at h;with_unfolding_all exact h
 | some r=>rw[hf]at h;cases r with
  | ok E a=>with_unfolding_all exact h
  | exc E c=>with_unfolding_all exact(show False from h).elim
section
variable {c kc vc:Ex}{e:Option Sd}{E:En}{X:XP}{N C:En->Prop}{R:Sd->Prop}
theorem vxg{P:En->Sd->Prop}:Eo (qx8 kc vc (e::E)) P X=Eo (kc (e::E)) (λE k=>Eo (vc E) (λE v=>jqy k.2=true/\P E (.rt,.dct [(k.2,v.2)])) X) X:=by
 unfold qx8;rw[jji];congr 1;funext E k;rw[jji];congr 1;funext E v;rw[kz0,kvl]
end
theorem wjv{o:Own}{kvs:List (D×D)}(h:kvs.length<=10000)(hu:unm kvs=true):jxk (o,.dct kvs)=some (.rt,.lst (kvs.map (·.1))):=by
 unfold jxk;dsimp only;rw[Xf ⟨by unfold big;omega,hu⟩]
section
variable {a b c kc vc:Ex}{cs:List Ex}{e:Option Sd}{E:En}{X:XP}{N C:En->Prop}{R:Sd->Prop}{P:En->Sd->Prop}{i r n:Nat}{t:Ts}
theorem qvr{kvs:List (D×D)}(h:unm kvs=true):kwu (.dct kvs)=some (.int kvs.length):=Xf h
theorem vqg(h0:wqe E[i]?=true)(h:Eo (kc E) (λE1 k=>Eo (vc E1) (λE2 v=>∃kvs,E2[i]?=some (some (.rt,.dct kvs))/\(jqy k.2=true/\kvs.length<10000/\unm kvs=true/\v.2.pure=true/\D.pures (kvs.map (·.2))=true) /\
  (∀d,kwp kvs k.2=some d->P E2 (.dp,d))/\(kwp kvs k.2=none->P (E2.set i (some (.rt,.dct (kvs++[(k.2,v.2)])))) (.dp,v.2))) X) X):Eo (qkp i kc vc E) P X:=by
 unfold qkp;rw[Xf h0,jji];refine h.mono ?_;intro E1 k h1;rw[jji];refine h1.mono ?_;rintro E2 v ⟨kvs,e2,hc,h3,h4⟩;rw[e2];dsimp only;rw[Xf ⟨hc.1,by unfold big;omega,hc.2.2⟩];cases hg:kwp kvs k.2 with
 | none=>dsimp only;rw[kvl];exact h4 hg
 | some d=>dsimp only;rw[kvl];exact h3 d hg
def qk5(s:Option (Option Sd))(Q:Sd->Prop):Prop:=match s with
 | some (some x)=>Q x
 | _=>False
def Om(m:Option Fl)(n:Nat)(N:En->Prop)(P:Sd->Sd->Prop)(X:XP):Prop:=match m with
 | some (.nx E)=>N E
 | some (.rt E x)=>qk5 E[n]? (P x)
 | some (.xc _ c)=>X c
 | _=>False
def Oom(f:Fn)(xs:List Sd)(n:Nat)(P:Sd->Sd->Prop)(X:XP):Prop:=match f xs with
 | some (.ok E y)=>qk5 E[n]? (P y)
 | some (.exc _ c)=>X c
 | none=>False
theorem qvg{nn:Nat}{b:Sm}{xs:List Sd}{P:Sd->Sd->Prop}(h:Om (b (xs.map some++List.replicate (nn - xs.length) none)) n (λE=>qk5 E[n]? (P (.dp,.non))) P X):Oom (fn nn b) xs n P X:=by
 unfold Oom fn;cases hb:b (xs.map some++List.replicate (nn - xs.length) none)with
 | none=>rw[hb]at h;exact h.elim
 | some f =>
  rw[hb]at h;cases f with
  | nx E=>exact h
  | rt E x=>exact h
  | xc E c=>exact h
  | ct E=>exact h.elim
  | bk E=>exact h.elim
theorem kwd{a b:Sm}{P:Sd->Sd->Prop}(h:Om (a E) n (λE=>Om (b E) n N P X) P X):Om (jjc a b E) n N P X:=by
 unfold jjc;cases ha:a E with
 | none=>rw[ha]at h;exact h.elim
 | some f =>
  rw[ha]at h;cases f with
  | nx E=>exact h
  | rt E x=>exact h
  | xc E c=>exact h
  | ct E=>exact h.elim
  | bk E=>exact h.elim
theorem qvh{P:Sd->Sd->Prop}(h:Eo (c E) (λE x=>qk5 E[n]? (P x)) X):Om (jkd c E) n N P X:=by
 unfold jkd;cases hc:c E with
 | none=>rw[hc,qwu]at h;exact h.elim
 | some f =>
  rw[hc]at h;cases f with
  | ok E x=>rw[kvl]at h;exact h
  | exc E c=>rw[qww]at h;exact h
theorem wjj{a b:Sm}{P:Sd->Sd->Prop}(h:Eo (t E) (λE k=>if k=true then Om (a E) n N P X else Om (b E) n N P X) X):Om (sIf t a b E) n N P X:=by
 unfold sIf;cases hc:t E with
 | none=>rw[hc,qwu]at h;exact h.elim
 | some f =>
  rw[hc]at h;cases f with
  | ok E k =>
   rw[kvl]at h;cases k with
   | true=>rw[Xf rfl]at h;exact h
   | false=>rw[Xj (by decide)]at h;exact h
  | exc E c=>rw[qww]at h;exact h
theorem qzq{m:Option Fl}{P:Sd->Sd->Prop}(h:Po m N (λ_=>False) (λ_=>False) X):Om m n N P X:=by
 cases m with
 | none=>with_unfolding_all exact h
 | some f =>
  cases f with
  | nx E=>rw[vv6]at h;exact h
  | rt E x=>rw[wvd]at h;exact h.elim
  | xc E c=>with_unfolding_all exact h
  | ct E=>with_unfolding_all exact h
  | bk E=>with_unfolding_all exact h
theorem qjq{f:Fn}(h:Eo (jq4 cs E) (λE1 xs=>∃x,E1[i]?=some (some x)/\Oom f (letAll xs++[x]) xs.length (λy x'=>P (E1.set i (some x')) y) X) X):Eo (kkc f i cs E) P X:=by
 unfold kkc;rw [jji];refine h.mono ?_;rintro E1 xs ⟨x,e1,h1⟩;rw [e1];dsimp only;unfold Oom at h1;cases hf:f (letAll xs++[x])with
 | none=>rw[hf]at h1;exact h1.elim
 | some rr =>
  rw[hf]at h1;cases rr with
  | exc E' c=>dsimp only;rw[qww];exact h1
  | ok E' y =>
   dsimp only at h1 ⊢;unfold qk5 at h1;cases hs:E'[xs.length]? with
   | none=>rw[hs]at h1;exact h1.elim
   | some s =>
    rw[hs]at h1;cases s with
    | none=>exact h1.elim
    | some x'=>dsimp only at h1 ⊢;rw[kvl];exact h1
theorem Oom.mono{f:Fn}{xs:List Sd}{P Q:Sd->Sd->Prop}{X Y:XP}(h:Oom f xs n P X)(hp:∀y x,P y x->Q y x)(hx:∀c,X c->Y c):Oom f xs n Q Y:=by
 unfold Oom at h ⊢;cases hf:f xs with
 | none=>rw[hf]at h;exact h.elim
 | some rr =>
  rw[hf]at h;cases rr with
  | exc E' c=>exact hx c h
  | ok E' y =>
   dsimp only at h ⊢;unfold qk5 at h ⊢;cases hs:E'[n]? with
   | none=>rw[hs]at h;exact h.elim
   | some s =>
    rw[hs]at h;cases s with
    | none=>exact h.elim
    | some x'=>exact hp _ _ h
theorem vz3{ds:List D}(h0:E[i]?=some (some (.rt,.lst ds)))(h:N (E.set i (some (.rt,.lst ds.reverse)))):Po (vjp i E) N C R X:=by
 unfold vjp;rw[h0];dsimp only;rw[vv6];exact h
theorem vxf{cs:List Str}{f:Fn}{as:List Ex}{h:Sm}:Po (jz4 cs (qz6 (jxp f as)) h (e::E)) N C R X =
  Eo (jq4 as (e::E)) (λE xs=>Ox f (letAll xs) E (λE _=>N E) (λE c=>c∈cs/\Po (h E) N C R noX)) noX:=by
 unfold jz4 qz6 jxp;cases jq4 as (e::E)with
 | none=>with_unfolding_all rfl
 | some r =>
  cases r with
  | exc E1 c=>with_unfolding_all rfl
  | ok E1 xs =>
   rw [kvl];unfold Ox Oo;dsimp only;cases f (letAll xs)with
   | none=>with_unfolding_all rfl
   | some r =>
    cases r with
    | ok E2 y=>with_unfolding_all rfl
    | exc E2 c =>
     dsimp only[ofE]
     by_cases hc:c∈cs
     ·rw[Xf hc];cases h E1 with
      | none=>with_unfolding_all exact propext ⟨λz=>⟨hc,z⟩,λz=>z.2⟩
      | some r=>cases r<;>with_unfolding_all exact propext ⟨λz=>⟨hc,z⟩,λz=>z.2⟩
     ·rw[Xj hc]
      with_unfolding_all exact propext ⟨λz=>(show False from z).elim,λz=>absurd z.1 hc⟩
end
end Q
noncomputable section
namespace C
open PySem Q
def kjt:Fn:=fn 4
  (jjc (jjk 3 (cH (jjb (vV 0) (vE (cC (.int 1))))))
  (jjc (sIf (tE (cF2 (pu2 fEq) (vV 3) (vE (cC (.str "any"))))) (jkd (cC (.bl true))) jjw)
  (jjc (sIf (tE (cF2 (pu2 fEq) (vV 3) (vE (cC (.str "fresh"))))) (jkd (cF2 (pu2 jkt) (vV 2) (vV 1))) jjw)
  (jkd (cF2 (pu2 fEq) (jjb (vV 1) (vV 3)) (vV 2))))))
def jqh:Fn:=fn 3
  (jjc (sIf (tE (cF2 (f2First fIsNon) (vV 0) (vE (cC .non)))) (jkd (cC .non)) jjw)
  (jkd (cIf (tE (cF2 (pu2 fEq) (vV 0) (vE (cC (.str "new"))))) (cV 2) (cH (jjb (vV 1) (vV 0))))))
def jv7:Fn:=fn 3
  (jkd (cF1 jqi (vE (cLC .rt 1 [1,2] (itS (cH (jjb (vV 0) (vE (cC (.int 3)))))) (.n 0) tYes (jjj jqh [(cV 0),(cV 1),(cV 2)])))))
def m_first_standing:Fn:=fn 1
  (jkd (jvh .no [(cC (.int 0)),(cF2 jjt (vE (jvh .no [(cC .non)])) (jjb (jjb (jjb (vV 0) (vE (cC (.int 1)))) (vE (cC (.int 0)))) (vE (cC (.int 0)))))]))
def jkn:Fn:=fn 2
  (jkd (cH (jjb (jjb (jjb (vV 0) (vE (cC (.int 1)))) (jjb (vV 1) (vE (cC (.int 0))))) (vE (cC (.int 2))))))
def m_fitting:Fn:=fn 6
  (jjc (jjk 4 (cH (jjb (vV 1) (vE (cC (.int 1))))))
  (jjc (jjk 5 (jjj jkn [(cV 0),(cV 1)]))
  (jkd (cLC .rt 2 [2,4,3] (qzx (cV 5)) (.t [0,1]) (tAnd (tE (cF2 (pu2 fEq) (jjb (vV 1) (vE (cC (.int 0)))) (vV 2))) (tEQ (vE (jjj kjt [(cV 1),(cV 3),(cV 4)])))) (cV 0)))))
def m_behind:Fn:=fn 5
  (jjc (jjk 4 (cH (jjb (vE (jjj jkn [(cV 0),(cV 1)])) (vV 2))))
  (jkd (jvh .no [(cH (jjb (vV 4) (vE (cC (.int 2))))),(jjj jv7 [(cV 4),(cH (jjb (vV 1) (vE (cC (.int 1))))),(cV 3)])])))
def m__law_draw:Fn:=fn 4
  (jjc (jjk 2 (cF2 jjt (vE (cC (.int 1000))) (vE (cF2 (pu2 vxc) (vE (cC (.int 10))) (vE (cC (.int 64)))))))
  (jjc (jjk 3 (cF2 jk7 (vE (cF2 jjt (vE (cF2 jjt (vV 1) (vV 1))) (vV 1))) (vE (cC (.int 7)))))
  (jjc (sIf (tE (cF2 (pu2 fLt) (vV 1) (vE (cF1 (pu1 jqz) (vV 0))))) (jjk 3 (cH (jjb (vV 0) (vV 1)))) (sIf (tE (cF2 (pu2 fGt) (vE (cF1 (pu1 jqz) (vV 0))) (vE (cC (.int 0))))) (jjk 3 (cF2 jjt (vE (cF2 jk7 (vE (cF2 (pu2 jv9) (jjb (vV 0) (vE (cF2 (pu2 jv9) (vV 1) (vE (cF1 (pu1 jqz) (vV 0)))))) (vE (cC (.int 1000003))))) (vE (cC (.int 1))))) (vV 3))) jjw))
  (jkd (cF2 (pu2 jv9) (vE (cF2 jjt (vE (cF2 (pu2 jv9) (vV 3) (vV 2))) (vE (cF2 (pu2 vxc) (vE (cC (.int 7919))) (vE (cC (.int 15))))))) (vV 2))))))
def m__law_digits:Fn:=fn 4
  (jjc (jjk 2 (jv0 .rt []))
  (jjc (jwi (itS (cV 1)) (.n 3) (jjc (jke jvn 2 (cF2 (pu2 jv9) (vV 0) (vV 3)))
  (jjk 0 (cF2 (pu2 qkl) (vV 0) (vV 3)))))
  (jkd (cMv 2))))
def m__law_signs:Fn:=fn 11
  (jjc (jjk 2 (cC (.str "abcdefghijklmnopqrstuvwxyz")))
  (jjc (vx7 [3,4,5] (jjj m__law_digits [(cV 0),(jv0 .rt [(cC (.int 8)),(cC (.int 840)),(cC (.int 8))])]))
  (jjc (jjk 4 (cF2 (pu2 jv9) (vV 4) (vE (cF2 jk7 (vV 3) (vE (cC (.int 1)))))))
  (jjc (jjk 6 (jv0 .rt []))
  (jjc (jwi (kkk (vV 1)) (.n 7) (jjc (jjk 8 (cC (.str "")))
  (jjc (jwi (kkk (vE (cF2 jk7 (vV 3) (vE (cC (.int 1)))))) (.n 9) (jjc (jjk 10 (cF2 jk7 (vE (cF2 (pu2 qkl) (vV 0) (vE (cF2 jk7 (vE (cC (.int 53761))) (vE (cF2 jjt (vE (cF2 jjt (vE (cC (.int 26))) (vV 9))) (vV 9))))))) (vE (cF2 jjt (vE (cF2 jjt (vV 7) (vE (cF2 jk7 (vV 5) (vE (cC (.int 1))))))) (vE (cF1 (pu1 vki) (vE (cF2 (pu2 fEq) (vV 9) (vV 4)))))))))
  (jjk 8 (cF2 jk7 (vV 8) (jjb (vV 2) (vE (cF2 (pu2 jv9) (vV 10) (vE (cC (.int 26))))))))))
  (jke jvn 6 (cV 8)))))
  (jkd (cF1 jzd (vV 6))))))))
def m__law_copy:Fn:=fn 1
  (jkd (jvh .no [(cF1 jze (jjb (vV 0) (vE (cC (.int 0))))),(cLC .rt 1 [] (itS (cH (jjb (vV 0) (vE (cC (.int 1)))))) (.n 0) tYes (jvh .no [(cH (jjb (vV 0) (vE (cC (.int 0))))),(cH (jjb (vV 0) (vE (cC (.int 1))))),(cF1 jze (jjb (vV 0) (vE (cC (.int 2)))))]))]))
end C
local macro_rules
 | `(tactic| simp! only[$ts,*])=>`(tactic| simp(config:={ maxSteps:=1000000,failIfUnchanged:=false,implicitDefEqProofs:=true }) (disch:=omega) only[↓Q.w_seq,↓Q.w_asg,↓Q.w_ret,↓Q.w_pass,↓Q.w_if,↓Q.w_tup,↓Q.w_vV,↓Q.w_cV,↓Q.w_cMv,↓Q.w_cC,↓Q.w_vE,↓Q.w_cH,↓Q.w_f1,↓Q.w_f2,↓Q.w_ix,↓Q.w_tE,↓Q.w_tEQ,↓Q.w_tNot,↓Q.w_tAnd,↓Q.w_tOr,↓Q.w_tYes,↓Q.w_cIf,↓Q.w_cAnd,↓Q.w_cOr,↓Q.w_call,↓Q.w_partN,↓Q.w_partS,↓Q.w_sl,↓Q.w_idx,↓Q.w_itS,↓Q.w_itEn,↓Q.w_zip,↓Q.w_rz,↓Q.w_LR1,Q.rng_ok,true_and,↓Q.ie_i,Q.isSq,Q.sl_some,↓Q.andP_bl,↓Q.vo_some,↓Q.vo_map,↓Q.wo_some,↓Q.wo_map,↓Q.args_nil,↓Q.args_cons,↓Q.eo_tup,↓Q.eo_lst,Q.letAll,Q.pu2,Q.pu1,Q.f2First,Q.fIsNon,Q.fNotNon,Q.isNon,List.map_cons,List.map_nil,List.cons_append,List.nil_append,Xd,List.length_nil,X3,Nat.reduceAdd,Nat.reduceSub,List.replicate,List.set_cons_zero,List.set_cons_succ,List.getElem?_cons_zero,List.getElem?_cons_succ,Q.len_l,Q.len_t,Q.lt_ii,Q.gt_ii,Q.le_ii,Q.ge_ii,Q.add_i,Q.sub_i,Q.div_i,Q.mod_i,Q.pow_i,Q.mulT_i,Q.mulT_l,Q.mul_l,Option.map_some,Q.truth,Q.truthQ,Q.D.pure,↓reduceIte,if_true,if_false,ite_true,ite_false,Q.sub_no,Q.sub_rt,Bool.false_eq_true,reduceCtorEq,Bool.not_true,Bool.not_false,Q.Tg.put,Q.setAll,Q.seqOf,Q.lstOf,$ts,*])
namespace C
open Q PySem
abbrev most:Int:=1000*10 ^ 64
abbrev iL(ns:List Int):D:=.lst (ns.map D.int)
def Dr(dr:Fn):Prop:=∀(ns:List Int) (k:Int),0<=k->k<=1000->Oo dr [(.no,iL ns),(.no,.int k)] (λy=>∃i,y=(.dp,.int i)/\0<=i/\i<most) noX
theorem kz1(ns:List Int)(k:Int)(h0:0<=k)(h1:k<=1000):Oo m__law_draw [(.no,iL ns),(.no,.int k)] (λy=>∃i,y=(.dp,.int i)/\0<=i/\i<most) noX:=by
 have hkk:k*k<=1000*1000:=Int.mul_le_mul h1 h1 h0 (by decide);have hkk0:0<=k*k:=Int.mul_nonneg h0 h0;have hc:k*k*k<=1000*1000*1000:=Int.mul_le_mul hkk h1 h0 (by decide);have hc0:0<=k*k*k:=Int.mul_nonneg hkk0 h0;have hp:((7919:Int) ^ (Int.toNat 15))=7919 ^ 15:=rfl;have hm:(1000*(10:Int) ^ (Int.toNat 64))=most:=rfl;have hm0:(0:Int)<most:=by decide
 have hb:∀x:Int,qwt (.no,.int (x % most)) (.no,.int (7919 ^ 15))=some (.dp,.int (x % most*7919 ^ 15)):=λx=>by
  have:=Y5 x (show most≠0 by decide);have:=Xy x hm0;unfold most at *;exact wvp (by omega) (by omega) (by decide) (by decide)
 have fin:∀x:Int,∃i,((Own.dp,D.int (x % most)):Sd)=(.dp,.int i)/\0<=i/\i<most:=λx=>⟨_,rfl,Y5 _ (by decide),Xy _ hm0⟩
 unfold m__law_draw;refine jq7 ?_
 by_cases c1:k<ns.length
 ·have hi:=qw4 ns k h0 c1;simp! only[Xb c1,hi,hm,hp,mod_i hm0,hb];exact fin _
 ·by_cases c2:(0:Int)<ns.length
  ·have hq0:=Y5 k (show(ns.length:Int)≠0 by omega);have hq1:=Xy k c2;have hi:=qw4 ns (k % ns.length) hq0 hq1;simp! only[X9 c1,Xb c2,hi,hm,hp,mod_i hm0,mod_i c2,hb];exact fin _
  ·simp! only[X9 c1,X9 c2,hm,hp,mod_i hm0,hb];exact fin _
def Digs:List Int->List Int->Prop
 | [],[]=>True
 | b::bs,d::ds=>0<=d/\d<b/\Digs bs ds
 | _,_=>False
theorem kk8(x:Int):∀(bs:List Int) (hb:∀b∈bs,0<b/\b<1000000000000) (hl:bs.length<1000),Oo m__law_digits [(.no,.int x),(.no,iL bs)] (λy=>∃ds,y=(.rt,iL ds)/\Digs bs ds) noX:=by
 intro bs hb hl;unfold m__law_digits;refine jq7 ?_;simp! only[];refine jvf (λE jkp=>∃x o ys l d0 bs1 bs2,E=[some (o,.int x),some (.no,d0),some (.rt,iL ys),l]/\jkp=bs2.map D.int/\bs=bs1++bs2/\Digs bs1 ys/\ys.length=bs1.length) ?_ ?_ ?_
 ·simp! only[];exact⟨x,.no,[],none,_,[],bs,rfl,rfl,rfl,trivial,rfl⟩
 ·rintro E d ds ⟨x,o,ys,l,d0,bs1,bs2,rfl,hr,he,hd,hy⟩;cases bs2 with
  | nil=>cases hr
  | cons b bs2 =>
   rw[List.map_cons]at hr;injection hr with e1 e2;subst e1 e2;have hbb:=hb b (by rw[he];simp);simp! only[];refine vkr rfl ?_;simp! only[mod_i hbb.1];refine⟨.rt,_,rfl,by decide,?_,?_⟩
   ·rw[X3];have:=congrArg List.length he;rw[X7]at this;omega
   ·simp! only[div_i hbb.1];refine⟨_,_,ys++[x % b],_,_,bs1++[b],bs2,by simp[iL,jwe];exact⟨⟨rfl,rfl⟩,rfl,rfl⟩,rfl,by rw[he];simp,?_,by simp[hy]⟩;have h1:=Y5 x (show b≠0 by omega);have h2:=Xy x hbb.1;clear he hb
    induction bs1 generalizing ys with
    | nil=>cases ys with
     | nil=>exact⟨h1,h2,trivial⟩
     | cons y ys=>exact hd.elim
    | cons c bs1 ih=>cases ys with
     | nil=>exact hd.elim
     | cons y ys=>exact⟨hd.1,hd.2.1,ih ys hd.2.2 (by simpa using hy)⟩
 ·rintro E ⟨x,o,ys,l,d0,bs1,bs2,rfl,hr,he,hd,hy⟩;cases bs2 with
  | cons b bs2=>cases hr
  | nil =>
   rw[Xq]at he;subst he;simp! only[];exact⟨ys,rfl,hd⟩
def Each(G:D->Sd->Prop):List D->List Sd->Prop
 | [],[]=>True
 | d::ds,y::ys=>G d y/\Each G ds ys
 | _,_=>False
theorem Each.snoc{G:D->Sd->Prop}{d:D}{y:Sd}(h:G d y):∀{ds:List D} {ys:List Sd},Each G ds ys->Each G (ds++[d]) (ys++[y])
 | [],[],_=>⟨h,trivial⟩
 | _::_,_::_,r=>⟨r.1,Each.snoc h r.2⟩
theorem jvb{X:XP}{E:En}{o:Own}{r:List Nat}{it:Ev (List D)}{c:Ex}{P:En->Sd->Prop}(jkp:En)(G:D->Sd->Prop)(h0:Eo (it E) (λE1 ds=>r.map (at' E1)=jkp/\(∀d∈ds,Eo (c (some (.no,d)::jkp)) (λB y=>(∃q,B=q::jkp)/\G d y) X)/\∀ys,Each G ds ys->Eo (mkL o (back r jkp (clr r E1)) ys) P X) X):Eo (cLC o 1 r it (.n 0) tYes c E) P X:=by
 refine qkm (λE1 B ds2 acc=>∃ds ds1 q,ds=ds1++ds2/\B=q::jkp/\Each G ds1 acc/\(∀d∈ds,Eo (c (some (.no,d)::jkp)) (λB y=>(∃q,B=q::jkp)/\G d y) X)/\∀ys,Each G ds ys->Eo (mkL o (back r jkp (clr r E1)) ys) P X) ?_ ?_ ?_
 ·refine h0.mono λE1 ds ⟨h1,h2,h3⟩=>⟨ds,[],none,rfl,by rw[<-h1];rfl,trivial,h2,h3⟩
 ·rintro E1 B d ds2 acc ⟨ds,ds1,q,e,rfl,hE,h2,h3⟩;have hp:(Tg.n 0).put d (q::jkp)=some (some (.no,d)::jkp):=rfl;rw[hp,vo_some,show tYes (some (Own.no,d)::jkp)=some (.ok (some (Own.no,d)::jkp) true)from rfl,kvl,Xf rfl];refine(h2 d (by rw[e];simp)).mono ?_;rintro B y ⟨⟨q',rfl⟩,hG⟩;exact⟨ds,ds1++[d],q',by rw[e];simp,rfl,hE.snoc hG,h2,h3⟩
 ·rintro E1 B acc ⟨ds,ds1,q,e,rfl,hE,h2,h3⟩;rw[Xq]at e;subst e;exact h3 acc hE
theorem kwx{G:D->Sd->Prop}{S:Int->Prop}(hG:∀d y,G d y->∃i,y.2=.int i/\S i):∀{ds:List D} {ys:List Sd},Each G ds ys->∃ps:List Int,ys.map (·.2)=ps.map D.int/\ps.length=ds.length/\∀p∈ps,S p
 | [],[],_=>⟨[],rfl,rfl,λ_ h=>nomatch h⟩
 | d::ds,y::ys,r=>by
  obtain⟨i,e,s⟩:=hG d y r.1;obtain⟨ps,h1,h2,h3⟩:=kwx hG r.2;exact⟨i::ps,by simp[e,h1],by simp[h2],λp hp=>(List.mem_cons.mp hp).elim (λz=>z▸s) (h3 p)⟩
theorem qql{n:Int}:jj4 n n=[]:=by unfold jj4;rw[Int.sub_self];rfl
theorem kky{k n:Int}(h:k<n):jj4 k n=.int k::jj4 (k+1) n:=by
 unfold jj4;have:(n - k).toNat=(n - (k+1)).toNat+1:=by omega
 rw[this,List.range_succ_eq_map,List.map_cons,Y6]
 congr 1
 ·simp
 ·apply List.map_congr_left;intro i _;simp only[Function.comp]
  congr 1
  omega
theorem jw0{k n:Int}{d:D}{ds:List D}(hk:k<=n)(h:d::ds=jj4 k n):k<n/\d=.int k/\ds=jj4 (k+1) n:=by
 by_cases hl:k<n
 ·rw[kky hl]at h;injection h with h1 h2;exact⟨hl,h1,h2⟩
 ·have:k=n:=by omega
  subst this;rw[qql]at h;cases h
theorem jxa{k n:Int}(hk:k<=n)(h:[]=jj4 k n):k=n:=by
 by_cases hl:k<n
 ·rw[kky hl]at h;cases h
 ·omega
theorem jqu{k n:Int}{d:D}(h:d∈jj4 k n):∃i:Int,k<=i/\i<n/\d=.int i:=by
 unfold jj4 at h;obtain⟨j,hj,rfl⟩:=List.mem_map.mp h;have:=List.mem_range.mp hj;exact⟨k+j,by omega,by omega,rfl⟩
theorem kve{k n:Int}(h:k<=n):((jj4 k n).length:Int)=n - k:=by
 unfold jj4;rw[X3,Ya];omega
theorem wkz{o1 o2:Own}{a b:Str}(h:a.cps.size+b.cps.size<=10000):jk7 (o1,.str a) (o2,.str b)=some (.dp,.str (a++b)):=by
 show(if a.cps.size+b.cps.size<=big then _ else _)=_;rw[Xf (by unfold big;omega)]
theorem qz5(a b:Str):(a++b).cps.size=a.cps.size+b.cps.size:=by
 show(a.cps++b.cps).size=_;exact Array.size_append
theorem qq6:∀(ss:List Str),kkm (ss.map D.str)=some ss
 | []=>rfl
 | s::ss=>by rw[List.map_cons,kkm,qq6 ss];rfl
theorem qxy{o:Own}{ss:List Str}(h:ss.length<64):jzd (o,.lst (ss.map D.str))=some (.rt,.lst ((kjc ss).map D.str)):=by
 unfold jzd;dsimp only;rw[qq6];dsimp only;rw[Xf h]
theorem qjc(a:Str):∀r,(qzz a r).length=r.length+1
 | []=>rfl
 | b::r=>by unfold qzz;split<;>simp[qjc a r]
theorem kw0:∀r,(kjc r).length=r.length
 | []=>rfl
 | a::r=>by rw[kjc,qjc,kw0 r];rfl
theorem ww4{a b c:Int}{ds:List Int}(h:Digs [a,b,c] ds):∃x y z,ds=[x,y,z]/\0<=x/\x<a/\0<=y/\y<b/\0<=z/\z<c:=by
 match ds,h with
 | [x,y,z],⟨h1,h2,h3,h4,h5,h6,_⟩=>exact⟨x,y,z,rfl,h1,h2,h3,h4,h5,h6⟩
theorem Digs.get:∀{bs ds:List Int} (h:Digs bs ds) (i:Nat) (b:Int),bs[i]?=some b->∃d,ds[i]?=some d/\0<=d/\d<b
 | b::bs,d::ds,h,0,c,e=>by
  have e:b=c:=by simpa using e
  subst e;exact⟨d,rfl,h.1,h.2.1⟩
 | b::bs,d::ds,h,i+1,c,e=>by
  obtain⟨x,h1,h2⟩:=Digs.get h.2.2 i c (by simpa using e);exact⟨x,by simpa using h1,h2⟩
 | [],_,_,i,c,e=>by simp at e
theorem Digs.len:∀{bs ds:List Int} (h:Digs bs ds),ds.length=bs.length
 | [],[],_=>rfl
 | b::bs,d::ds,h=>by rw[Xd,Xd,Digs.len h.2.2]
abbrev sL(ss:List Str):D:=.lst (ss.map D.str)
theorem dg{bs hs:List Int}(h:Digs bs hs)(i:Int)(h0:0<=i)(h1:i<bs.length):∃v,jva (iL hs) (.int i)=some (.int v)/\0<=v/\v<bs.getD i.toNat 0:=by
 have hl:i.toNat<bs.length:=by omega
 obtain⟨d,e,d0,d1⟩:=h.get i.toNat bs[i.toNat] (X0 hl);refine⟨d,qw3 h0 (by rw[Xi,e];rfl),d0,?_⟩;rw[X2,X0 hl];exact d1
theorem ixI(ks:List Int)(S:Int->Prop)(hS:∀k∈ks,S k)(i:Int)(h0:0<=i)(h1:i<ks.length):∃v,jva (iL ks) (.int i)=some (.int v)/\S v/\ks[i.toNat]?=some v:=by
 have hl:i.toNat<ks.length:=by omega
 refine⟨ks[i.toNat],qw3 h0 (by rw[Xi,X0 hl];rfl),hS _ (Xk hl),X0 hl⟩
theorem fint(b:Bool):∃w:Int,vki (.bl b)=some (.int w)/\0<=w/\w<=1:=by
 cases b
 ·exact⟨0,rfl,by decide,by decide⟩
 ·exact⟨1,rfl,by decide,by decide⟩
def Gd(n:Int)(g:D):Prop:=g=.str "fresh"\/g=.str "any"\/∃i:Int,0<=i/\i<n/\g=.int i
def Fd(n:Int)(g:D):Prop:=g=.str "new"\/g=.non\/∃i:Int,0<=i/\i<n/\g=.int i
def St(own:Int)(d:D):Prop:=∃(z:Str) (g:D) (to:Int) (fs:List D),d=.tup [.str z,g,.int to,.tup fs]/\Gd own g/\(∀f∈fs,Fd own f)/\fs.length<=3
def Rm(d:D):Prop:=∃(kp:Int) (gd:Bool) (ss:List D),d=.tup [.int kp,.bl gd,.lst ss]/\0<=kp/\kp<=3/\(∀s∈ss,St kp s)/\ss.length<=14
def Rms(rs:List D):Prop:=1<=rs.length/\rs.length<=4/\∀r∈rs,Rm r
def Rmw(rs:List D):Prop:=1<=rs.length/\rs.length<=12/\∀r∈rs,Rm r
instance {rs:List D}:Coe (Rms rs) (Rmw rs):=⟨λh=>⟨h.1,by have:=h.2.1;omega,h.2.2⟩⟩
def Sx(sgs:List Str)(kps:List Int)(d:D):Prop:=∃(z:Str) (g:D) (to:Int) (fs:List D),d=.tup [.str z,g,.int to,.tup fs]/\z∈sgs/\0<=to/\to<kps.length/\(fs.length:Int)=kps.getD to.toNat 0
def Rx(sgs:List Str)(kps:List Int)(rs:List D):Prop:=rs.length=kps.length/\∀i:Nat,i<kps.length->∃(gd:Bool) (ss:List D),rs[i]?=some (.tup [.int (kps.getD i 0),.bl gd,.lst ss])/\∀s∈ss,Sx sgs kps s
theorem kjj{n:Int}{i:Nat}(h:(i:Int)<n):(jj4 0 n)[i]?=some (.int i):=by
 unfold jj4;rw[Xi,List.getElem?_range (by omega)];simp
def At(d:D):Prop:=d=.non\/∃i,d=.int i
theorem At.flat{d:D}{n:Nat}(h:At d):d.flat n=true:=by
 rcases h with rfl | ⟨i,rfl⟩<;>cases n<;>simp[D.flat]
theorem jqn{n:Nat}:∀{ks:List D},(∀k∈ks,k.flat n=true)->D.flats n ks=true
 | [],_=>by cases n<;>simp[D.flats]
 | k::ks,h=>by rw[D.flats,h k X4,jqn λe he=>h e (lc9 _ he)];rfl
theorem At.flats{n:Nat}{ks:List D}(h:∀k∈ks,At k):D.flats n ks=true:=jqn λk hk=>(h k hk).flat
mutual
theorem jxe:∀{n:Nat} (d:D),d.flat n=true->peq d d=true
 | n,.non,_=>by simp[peq]
 | n,.bl b,_=>by simp[peq]
 | n,.int b,_=>by simp[peq]
 | n,.str b,_=>by simp[peq]
 | 0,.tup xs,h=>by simp[D.flat]at h
 | 0,.lst xs,h=>by simp[D.flat]at h
 | n+1,.tup xs,h=>by rw[peq];exact peqs_refl xs (by simpa [D.flat]using h)
 | n+1,.lst xs,h=>by rw[peq];exact peqs_refl xs (by simpa [D.flat]using h)
 | n,.dct _,h=>by cases n<;>simp[D.flat]at h
 | n,.obj _ _,h=>by cases n<;>simp[D.flat]at h
theorem peqs_refl:∀{n:Nat} (ds:List D),D.flats n ds=true->peqs ds ds=true
 | _,[],_=>by simp[peqs]
 | n,d::ds,h=>by
  rw[D.flats,Bool.and_eq_true]at h;rw[peqs,jxe d h.1,peqs_refl ds h.2];rfl
end
theorem eq_self{d:D}(h:d.flat 40=true):fEq d d=some (.bl true):=by unfold fEq;rw[h,jxe d h];rfl
theorem vwh{a b:D}(ha:At a)(hb:At b):fEq a b=some (.bl (peq a b)):=by
 unfold fEq;rw[ha.flat,hb.flat];rfl
theorem wjp{a:D}{ks:List D}(ha:At a)(hb:∀k∈ks,At k):jkt a (.tup ks)=some (.bl (!ks.any λz=>peq z a)):=by
 show kwt a (.tup ks)=_;unfold kwt;have:fIn a (.tup ks)=some (.bl (ks.any λz=>peq z a)):=by
  show(if a.flat 30&&D.flats 30 ks then _ else _)=_;rw[ha.flat,At.flats hb];rfl
 rw[this];rfl
def kq6(ks:List D)(d g:D):Bool:=match g with
 | .int i=>peq (ks.getD i.toNat .non) d
 | .str s=>if s="fresh" then !ks.any λz=>peq z d else true
 | _=>true
theorem s1:((Str.ofString "fresh")==(Str.ofString "any"))=false:=by decide
theorem s3(a:Str):(a==a)=true:=by simp
theorem s4:¬(Str.ofString "any")=(Str.ofString "fresh"):=by decide
theorem ix0(c g r f:D):jva (.tup [c,g,r,f]) (.int 0)=some c:=rfl
theorem ix1(c g r f:D):jva (.tup [c,g,r,f]) (.int 1)=some g:=rfl
theorem ix2(c g r f:D):jva (.tup [c,g,r,f]) (.int 2)=some r:=rfl
theorem ix3(c g r f:D):jva (.tup [c,g,r,f]) (.int 3)=some f:=rfl
theorem p0(a b:D):jva (.tup [a,b]) (.int 0)=some a:=rfl
theorem p1(a b:D):jva (.tup [a,b]) (.int 1)=some b:=rfl
theorem t0(a b c:D):jva (.tup [a,b,c]) (.int 0)=some a:=rfl
theorem t1(a b c:D):jva (.tup [a,b,c]) (.int 1)=some b:=rfl
theorem t2(a b c:D):jva (.tup [a,b,c]) (.int 2)=some c:=rfl
theorem wx1(i:Int)(z:Str):fEq (.int i) (.str z)=some (.bl false):=by simp[fEq,D.flat,peq]
theorem vwg{ks:List D}{d g c r f:D}(hk:∀k∈ks,At k)(hd:At d)(hg:Gd ks.length g):Oo kjt [(.no,.tup [c,g,r,f]),(.no,.tup ks),(.no,d)] (λy=>∃_:Unit,y=(.dp,.bl (kq6 ks d g))/\True) noX:=by
 have hn:=wjp hd hk;unfold kjt;refine jq7 ?_;rcases hg with rfl | rfl | ⟨i,h0,h1,rfl⟩
 ·simp! only[ix1,vj9,s1,s3,hn];exact⟨(),by simp[kq6],trivial⟩
 ·simp! only[ix1,vj9,s3,s4,hn];exact⟨(),by simp[kq6,s4],trivial⟩
 ·simp! only[ix1,wx1,wk8 ks i h0 h1,vwh (hk _ (jw6 ks i h0 h1)) hd]
  first | trivial | exact⟨(),trivial⟩| exact⟨(),rfl,trivial⟩
def jwg(ks:List D)(d f:D):D:=match f with
 | .int i=>ks.getD i.toNat .non
 | .str _=>d
 | _=>.non
theorem vj3{ks:List D}{d f:D}(hk:∀k∈ks,At k)(hd:At d)(hf:Fd ks.length f):At (jwg ks d f):=by
 rcases hf with rfl | rfl | ⟨i,h0,h1,rfl⟩
 ·exact hd
 ·exact .inl rfl
 ·exact hk _ (jw6 ks i h0 h1)
theorem vwd{ks:List D}{d f:D}(hf:Fd ks.length f):Oo jqh [(.no,f),(.no,.tup ks),(.no,d)] (λy=>y.2=jwg ks d f) noX:=by
 unfold jqh;refine jq7 ?_;rcases hf with rfl | rfl | ⟨i,h0,h1,rfl⟩
 ·simp! only[vj9,s3];rfl
 ·simp! only[];rfl
 ·simp! only[wx1,wk8 ks i h0 h1];rfl
theorem jq8{G:D->Sd->Prop}{h:D->D}(hG:∀d y,G d y->y.2=h d):∀{ds:List D} {ys:List Sd},Each G ds ys->ys.map (·.2)=ds.map h
 | [],[],_=>rfl
 | d::ds,y::ys,r=>by rw[List.map_cons,List.map_cons,hG d y r.1,jq8 hG r.2]
theorem qwr{ks:List D}{d c g r:D}{fs:List D}(hf:∀f∈fs,Fd ks.length f):Oo jv7 [(.no,.tup [c,g,r,.tup fs]),(.no,.tup ks),(.no,d)] (λy=>∃_:Unit,y=(.no,.tup (fs.map (jwg ks d)))/\True) noX:=by
 unfold jv7;refine jq7 ?_;simp! only[];refine jvb [some (.no,.tup ks),some (.no,d)] (λf y=>y.2=jwg ks d f) ?_;simp! only[ix3];refine⟨rfl,λf h=>?_,λys hy=>?_⟩
 ·simp! only[];exact(vwd (hf f h)).via λy hy=>⟨⟨_,rfl⟩,hy⟩
 ·rw[jql,jq8 (h:=jwg ks d) (λd y h=>h) hy];simp only[back,clr,at',List.map_cons,List.map_nil,List.set_cons_zero,List.set_cons_succ];simp! only[qk2 (o:=.no) (xs:=fs.map (jwg ks d)) (by decide)]
  first | trivial | exact⟨(),trivial⟩| exact⟨(),rfl,trivial⟩
abbrev jwf(ss:List Str)(rs:List D):D:=.tup [sL ss,.lst rs]
def kks(z:Str)(ks:List D)(d s:D):Bool:=match s with
 | .tup [.str w,g,_,_]=>(w==z)&&kq6 ks d g
 | _=>false
def jkz(p:D->Bool):Nat->List D->List D
 | _,[]=>[]
 | k,s::r=>if p s=true then .int k::jkz p (k+1) r else jkz p (k+1) r
theorem kzi{ss:List Str}{rs ks st:List D}{kp:D}{gd:D}{room:Int}(h0:0<=room)(hr:rs[room.toNat]?=some (.tup [kp,gd,.lst st])):Oo jkn [(.no,jwf ss rs),(.no,.tup [.int room,.tup ks])] (λy=>∃_:Unit,y=(.no,.lst st)/\True) noX:=by
 have hi:jva (.lst rs) (.int room)=some (.tup [kp,gd,.lst st]):=qw3 h0 hr;unfold jkn;refine jq7 ?_;simp! only[p0,p1,t2,hi]
 first | trivial | exact⟨(),trivial⟩| exact⟨(),rfl,trivial⟩
theorem qkj{ss:List Str}{rs ks st:List D}{gd d:D}{room:Int}{z:Str}(h0:0<=room)(hr:rs[room.toNat]?=some (.tup [.int ks.length,gd,.lst st]))(hst:∀s∈st,St ks.length s)(hk:∀k∈ks,At k)(hd:At d):
  Oo m_fitting [(.no,jwf ss rs),(.no,.tup [.int room,.tup ks]),(.no,.str z),(.no,d)] (λy=>∃_:Unit,y=(.rt,.lst (jkz (kks z ks d) 0 st))/\True) noX:=by
 unfold m_fitting;refine jq7 ?_;simp! only[p1];refine(kzi h0 hr).use ?_;intro _ _;simp! only[];refine qkm (λE1 B ds acc=>∃k q0 q1,B=q0::q1::[some (.no,.str z),some (.no,.tup ks),some (.no,d)]/\ds=jvp k (st.drop k)/\acc.map (·.2)++jkz (kks z ks d) k (st.drop k)=jkz (kks z ks d) 0 st) ?_ ?_ ?_
 ·simp! only[];exact⟨0,none,none,rfl,rfl,rfl⟩
 ·rintro E1 B e ds acc ⟨k,q0,q1,rfl,hds,hacc⟩;cases hs:st.drop k with
  | nil=>rw[hs]at hds;cases hds
  | cons s r =>
   have hr':st.drop (k+1)=r:=by rw[<-List.drop_drop,hs];rfl
   rw[hs,jvp]at hds;injection hds with e1 e2;subst e1 e2;rw[hs,jkz]at hacc;obtain⟨w,g,to,fs,rfl,hg,hf,hl⟩:=hst s (List.mem_of_mem_drop (by rw[hs];exact X4));have hc:kks z ks d (.tup [.str w,g,.int to,.tup fs])=((w==z)&&kq6 ks d g):=rfl;simp! only[ix0,vj9];cases hw:(w==z)with
   | false =>
    rw[hc,hw,Bool.false_and,Xj (by decide)]at hacc;simp! only[];exact⟨k+1,_,_,rfl,by rw[hr'],by rw[hr'];exact hacc⟩
   | true =>
    simp! only[];refine(vwg hk hd hg).use ?_;intro _ _;simp! only[];rw[hc,hw,Bool.true_and]at hacc;cases hb:kq6 ks d g with
    | false =>
     rw[hb,Xj (by decide)]at hacc;simp! only[];exact⟨k+1,_,_,rfl,by rw[hr'],by rw[hr'];exact hacc⟩
    | true =>
     rw[hb,Xf rfl]at hacc;simp! only[];refine⟨k+1,_,_,rfl,by rw[hr'],?_⟩;rw[hr',Xs,Xr];exact hacc
 ·rintro E1 B acc ⟨k,q0,q1,rfl,hds,hacc⟩;cases hs:st.drop k with
  | cons s r=>rw[hs]at hds;cases hds
  | nil =>
   rw[hs,jkz,Xq]at hacc;rw[jql,hacc]
   first | trivial | exact⟨(),trivial⟩| exact⟨(),rfl,trivial⟩
def jqv(ks:List D)(d s:D):D:=match s with
 | .tup [_,_,to,.tup fs]=>.tup [to,.tup (fs.map (jwg ks d))]
 | _=>.non
theorem qxe{ss:List Str}{rs ks st:List D}{kp gd d:D}{room:Int}{k:Nat}(h0:0<=room)(hr:rs[room.toNat]?=some (.tup [kp,gd,.lst st]))(hst:∀s∈st,St ks.length s)(hk:k<st.length):
  Oo m_behind [(.no,jwf ss rs),(.no,.tup [.int room,.tup ks]),(.no,.int k),(.no,d)] (λy=>∃_:Unit,y=(.no,jqv ks d st[k])/\True) noX:=by
 obtain⟨w,g,to,fs,es,hg,hf,hl⟩:=hst st[k] (Xk hk);have hix:jva (.lst st) (.int k)=some (.tup [.str w,g,.int to,.tup fs]):=qw3 (by omega) (by rw[Yb,X0 hk,es]);unfold m_behind;refine jq7 ?_;simp! only[];refine(kzi h0 hr).use ?_;intro _ _;simp! only[hix,ix2,p1];refine(qwr hf).use ?_;intro _ _;simp! only[];rw[es]
 first | trivial | exact⟨(),trivial⟩| exact⟨(),rfl,trivial⟩
theorem kv6{α:Type}[DecidableEq α]:∀{l m:List α},l.Nodup->(∀x∈l,x∈m)->l.length<=m.length
 | [],_,_,_=>Y4 _
 | a::l,m,nd,h=>by
  rw[List.nodup_cons]at nd;have ha:=h a X4;have:=kv6 (l:=l) (m:=m.erase a) nd.2 λx hx=>(List.mem_erase_of_ne (by rintro rfl;exact nd.1 hx)).mpr (h x (lc9 _ hx))
  have hl:=List.length_erase_of_mem ha;have:0<m.length:=List.length_pos_of_mem ha;simp only[Xd];omega
theorem vwj{G:D->Sd->Prop}(hG:∀d y,G d y->y.2=d){ds:List D}{ys:List Sd}(h:Each G ds ys):ys.map (·.2)=ds:=by
 rw[jq8 (h:=id) hG h,List.map_id]
theorem kwm{o:Own}{xs:List D}(h:o≠.dp):jze (o,.lst xs)=some (.rt,.lst xs):=by
 show(if jq0 (o,.lst xs)then _ else _)=_;rw[Xf (by cases o<;>simp_all [jq0])]
theorem vwn{ss:List Str}{rs:List D}(hr:∀r∈rs,Rm r):Oo m__law_copy [(.no,jwf ss rs)] (λy=>∃_:Unit,y=(.no,jwf ss rs)/\True) noX:=by
 unfold m__law_copy;refine jq7 ?_;simp! only[p0,p1,kwm (o:=.no) (xs:=ss.map D.str) (by decide)];refine jvb [] (λd y=>y.2=d) ?_;simp! only[p1];refine⟨λd hd=>?_,λys hy=>?_⟩
 ·obtain⟨kp,gd,st,rfl,_⟩:=hr d hd;simp! only[t0,t1,t2,kwm (o:=.no) (xs:=st) (by decide)];exact⟨⟨_,rfl⟩,trivial⟩
 ·rw[jql,vwj (λd y h=>h) hy];simp only[back,clr];simp! only[]
  first | trivial | exact⟨(),trivial⟩| exact⟨(),rfl,trivial⟩
theorem wjr{o1 o2:Own}{a:D}{k:Int}(h1:o1≠.dp)(h0:0<=k)(hk:k<=1000):jjt (o1,.tup [a]) (o2,.int k)=some (.no,.tup (List.replicate k.toNat a)):=by
 show(if -(2 ^ 63)<=k/\k<2 ^ 63/\[a].length*k.toNat<=big/\jq0 (o1,.tup [a])then _ else _)=_;rw[Xf ⟨by omega,by omega,by unfold big;simp;omega,by cases o1<;>simp_all [jq0]⟩]
 congr 3
 induction k.toNat with
 | zero=>rfl
 | succ n ih=>rw[List.replicate_succ,Yl,ih,List.replicate_succ];rfl
theorem vj6{ss:List Str}{rs:List D}{kp:Int}{gd:D}{st:D}(hr:rs[0]?=some (.tup [.int kp,gd,st]))(h0:0<=kp)(h1:kp<=1000):Oo m_first_standing [(.no,jwf ss rs)] (λy=>∃_:Unit,y=(.no,.tup [.int 0,.tup (List.replicate kp.toNat .non)])/\True) noX:=by
 have hi:jva (.lst rs) (.int 0)=some (.tup [.int kp,gd,st]):=qw3 (by decide) hr;unfold m_first_standing;refine jq7 ?_;simp! only[p1,hi,t0,wjr (o1:=.no) (o2:=.no) (a:=.non) (k:=kp) (by decide) h0 h1]
 first | trivial | exact⟨(),trivial⟩| exact⟨(),rfl,trivial⟩
def wr(x:Int):Int:=if x<=0 then x else x - 10 ^ 60
theorem in_i{p:Int}{ks:List Int}:qkt (.int p) (iL ks)=some (.bl (ks.any λw=>w==p)):=by
 show(if(D.int p).flat 30&&D.flats 30 (ks.map D.int)then some (D.bl ((ks.map D.int).any λw=>peq w (.int p)))else none)=_;rw[show(D.int p).flat 30=true from rfl,jqn (ks:=ks.map D.int) (λk hk=>by obtain⟨w,_,rfl⟩:=List.mem_map.mp hk;rfl),List.any_map];rfl
theorem kvo{p:Int}{ks:List Int}:(ks.any λw=>w==p)=decide (p∈ks):=by
 rw[Bool.eq_iff_iff];simp
def vwu(own k:Int):Int:=own+(if k=own then 1 else 0)
def Cs(kps:List Int)(b:Int)(c:D):Prop:=c=.non\/∃(to:Int) (fs:List Int),c=.tup [.int to,.tup (fs.map D.int)]/\0<=to/\to<kps.length/\(∀f∈fs,0<=f/\f<b)/\fs.Nodup/\(fs.length:Int)=kps.getD to.toNat 0
def Pr(kps:List Int)(n:Nat)(own:Int)(d:D):Prop:=∃(gd:Bool) (st:List D),d=.tup [.int own,.bl gd,.lst st]/\st.length=n/\∀c∈st,∃cs:List D,c=.lst cs/\(cs.length:Int)=own+1/\∀k:Nat,k<cs.length->∃z,cs[k]?=some z/\Cs kps (vwu own k) z
def Prs(kps:List Int)(n:Nat)(rs:List D):Prop:=rs.length=kps.length/\∀i:Nat,i<kps.length->∃r,rs[i]?=some r/\Pr kps n (kps.getD i 0) r
theorem qws{α:Type}{p:α->Bool}:∀{l:List α},l.any p=true->l.findIdx? p=some (l.findIdx p)
 | [],h=>by cases h
 | a::l,h=>by
  rw[List.findIdx?_cons,List.findIdx_cons];cases hp:p a with
  | true=>simp
  | false =>
   rw[List.any_cons,hp,Bool.false_or]at h;rw[qws h];simp
theorem ww0{α:Type}{p:α->Bool}{l:List α}(h:l.any p=true):l.findIdx p<l.length:=by
 obtain⟨x,hx,hp⟩:=List.any_eq_true.mp h;exact List.findIdx_lt_length_of_exists ⟨x,hx,hp⟩
theorem wvz{α:Type}{p:α->Bool}{l:List α}(h:l.any p=false):l.findIdx p=l.length:=by
 rw[List.findIdx_eq_length];intro x hx;cases hp:p x with
 | false=>rfl
 | true=>rw[List.any_eq_true.mpr ⟨x,hx,hp⟩]at h;cases h
abbrev iT(ks:List Int):D:=.tup (ks.map D.int)
def wjq(ks:List Int)(p:Int)(f:Int):Int:=(ks++[p]).getD f.toNat 0
def ww6(ks:List Int)(p:Int)(c:D):D:=match c with
 | .tup [to,.tup fs]=>.tup [to,.tup (fs.map λf=>match f with | .int i=>.int (wjq ks p i)| _=>.non)]
 | _=>.non
def wkt(ss:List Str)(st:List D)(ks:List Int)(z:Str)(p:Int):D:=match st[ss.findIdx λw=>w==z]? with
 | some (.lst cs)=>cs.getD (ks.findIdx λw=>w==p) .non
 | _=>.non
def wqx(ss:List Str)(st:List D)(ks:List Int)(z:Str)(p:Int):D:=if(ss.any λw=>w==z)=true then ww6 ks p (wkt ss st ks z p)else .non
def Cas(kps:List Int)(n:Nat)(own:Int)(st:List D):Prop:=st.length=n/\∀c∈st,∃cs:List D,c=.lst cs/\(cs.length:Int)=own+1/\∀k:Nat,k<cs.length->∃z,cs[k]?=some z/\Cs kps (vwu own k) z
theorem vwt{own:Int}{k:Int}:vwu own k<=own+1:=by unfold vwu;split<;>omega
def Sok(kps:List Int)(s:D):Prop:=∃(room:Int) (ks:List D),s=.tup [.int room,.tup ks]/\0<=room/\room<kps.length/\(ks.length:Int)=kps.getD room.toNat 0/\∀k∈ks,At k
theorem kqr{sgs:List Str}{kps:List Int}{rs:List D}{s:D}(hR:Rmw rs)(hx:Rx sgs kps rs)(h:Sok kps s):∃(room:Int) (ks st:List D) (gd:D),s=.tup [.int room,.tup ks]/\0<=room/\rs[room.toNat]?=some (.tup [.int ks.length,gd,.lst st])/\(∀s∈st,St ks.length s)/\(∀k∈ks,At k)/\(∀s∈st,Sx sgs kps s)/\st.length<=14:=by
 obtain⟨room,ks,rfl,r0,r1,hl,hka⟩:=h;obtain⟨gd,st,e,hsx⟩:=hx.2 room.toNat (by omega);obtain⟨kp,gd',st',e',_,_,hst,hsl⟩:=hR.2.2 _ (Xp e);injection e' with e';injection e' with a1 a2;injection a1 with a1;injection a2 with b1 b2;injection b2 with c1 c2;injection c1 with c1;subst c1 a1;rw[<-hl]at e hst;exact⟨room,ks,st,.bl gd,rfl,r0,e,hst,hka,hsx,hsl⟩
theorem qk4{sgs:List Str}{kps:List Int}{ks st:List D}{p:Int}{k:Nat}(hst:∀s∈st,St ks.length s)(hka:∀k∈ks,At k)(hsx:∀s∈st,Sx sgs kps s)(hk:k<st.length):Sok kps (jqv ks (.int p) st[k]):=by
 obtain⟨z,g,to,fs,es,hg,hf,_⟩:=hst st[k] (Xk hk);obtain⟨z',g',to',fs',es',_,t0,t1,hfl⟩:=hsx st[k] (Xk hk);rw[es]at es';injection es' with es';injection es' with _ e2;injection e2 with _ e3;injection e3 with e4 e5;injection e5 with e6 _;injection e4 with e4;injection e6 with e6;subst e4 e6;rw[es];refine⟨to,fs.map (jwg ks (.int p)),rfl,t0,t1,by rw[X3];exact hfl,λd hd=>?_⟩;obtain⟨f,hf',rfl⟩:=List.mem_map.mp hd;exact vj3 hka (.inr ⟨p,rfl⟩) (hf f hf')
theorem kws{p:D->Bool}:∀{r:List D} {k:Nat} {d:D},d∈jkz p k r->∃j:Nat,d=.int j/\k<=j/\j<k+r.length
 | [],_,_,h=>by unfold jkz at h;cases h
 | s::r,k,d,h=>by
  unfold jkz at h
  split at h
  ·rcases List.mem_cons.mp h with rfl | h
   ·exact⟨k,rfl,X8 _,by simp⟩
   ·obtain⟨j,e,j0,j1⟩:=kws h;exact⟨j,e,by omega,by simp;omega⟩
  ·obtain⟨j,e,j0,j1⟩:=kws h;exact⟨j,e,by omega,by simp;omega⟩
theorem wkp{xs:List D}{c:Int}(h0:0<=c)(h1:c<=xs.length):qxp xs none (some c)=xs.take c.toNat:=by
 unfold qxp qqj;dsimp only;rw[Xj (by omega),List.drop_zero,show min c.toNat xs.length - 0=c.toNat by omega]
end C
noncomputable section
namespace C
open Q PySem
def Rd(kps:List Int)(ss:List Str)(rs:List D)(s:D)(w:Str×Int)(s':D):Prop:=(s=.non/\s'=.non)\/∃(room:Int) (ks:List Int) (st:List D) (kp gd:D),s=.tup [.int room,iT ks]/\0<=room/\rs[room.toNat]?=some (.tup [kp,gd,.lst st])/\Cas kps ss.length ks.length st/\ks.length<=3/\s'=wqx ss st ks w.1 w.2
abbrev st0:D:=.tup [.int 0,iT []]
def goodD(rs:List D)(s:D):Bool:=match s with
 | .tup [.int room,_]=>(match rs[room.toNat]? with
  | some (.tup [_,.bl b,_])=>b
  | _=>false)
 | _=>false
end C
noncomputable section
namespace C
open Q PySem
noncomputable section
def jzq(K:List D)(d:D):List D:=if d∈K then K else K++[d]
def jzy:D->List D
 | .tup [_,.tup ks]=>ks
 | _=>[]
def wq9(rs:List D):D->List D
 | .tup [.int r,_]=>(match rs.getD r.toNat .non with
  | .tup [_,_,.lst st]=>st
  | _=>[])
 | _=>[]
def wkg(rs:List D):D->Bool
 | .tup [.int r,_]=>(match rs.getD r.toNat .non with
  | .tup [_,.bl b,_]=>b
  | _=>false)
 | _=>false
def bh(ks st:List D)(p:Int):D->D
 | .int k=>jqv ks (.int p) (st.getD k.toNat .non)
 | _=>.non
def kv8(rs:List D)(w:Str×Int)(s:D):List D:=(jkz (kks w.1 (jzy s) (.int w.2)) 0 (wq9 rs s)).map (bh (jzy s) (wq9 rs s) w.2)
end
def SokV(kps:List Int)(V:List D)(s:D):Prop:=∃(room:Int) (ks:List D),s=.tup [.int room,.tup ks]/\0<=room/\room<kps.length/\(ks.length:Int)=kps.getD room.toNat 0/\(∀k∈ks,At k)/\∀k∈ks,k∈V
theorem SokV.ok{kps:List Int}{V:List D}{s:D}(h:SokV kps V s):Sok kps s:=by
 obtain⟨room,ks,e,r0,r1,hl,ha,_⟩:=h;exact⟨room,ks,e,r0,r1,hl,ha⟩
def Kin(kps:List Int)(V K:List D):Prop:=K.Nodup/\∀s∈K,SokV kps V s
theorem vwb{kps:List Int}{V K:List D}{d:D}(h:Kin kps V K)(hd:SokV kps V d):Kin kps V (jzq K d):=by
 unfold jzq
 by_cases z:d∈K
 ·rw[Xf z];exact h
 ·rw[Xj z];refine⟨List.nodup_append.mpr ⟨h.1,List.nodup_cons.mpr ⟨Xm,Xv⟩,λa ha b hb e=>?_⟩,λs hs=>?_⟩
  ·rw[List.mem_singleton.mp hb]at e;exact z (e▸ha)
  ·rcases List.mem_append.mp hs with q | q
   ·exact h.2 s q
   ·rw[List.mem_singleton.mp q];exact hd
def tps(V:List D):Nat->List (List D)
 | 0=>[[]]
 | n+1=>V.flatMap λv=>(tps V n).map (v :: ·)
theorem kxc{V:List D}:∀{ks:List D},(∀k∈ks,k∈V)->ks∈tps V ks.length
 | [],_=>List.mem_singleton.mpr rfl
 | k::ks,h=>List.mem_flatMap.mpr ⟨k,h k X4,List.mem_map.mpr ⟨ks,kxc λe he=>h e (lc9 _ he),rfl⟩⟩
theorem kvi{α β:Type}{f:α->List β}{c:Nat}:∀{l:List α},(∀a∈l,(f a).length<=c)->(l.flatMap f).length<=l.length*c
 | [],_=>Y4 _
 | a::l,h=>by
  rw[Yu,X7,Xd,Nat.succ_mul];have:=kvi (l:=l) λb hb=>h b (lc9 _ hb)
  have:=h a X4;omega
theorem jx4{V:List D}(hV:V.length<=6):∀n,(tps V n).length<=6 ^ n
 | 0=>X8 _
 | n+1=>by
  have h1:=kvi (l:=V) (f:=λv=>(tps V n).map (v :: ·)) (c:=6 ^ n) λa _=>by rw[X3];exact jx4 hV n
  have h2:=Nat.mul_le_mul_right (6 ^ n) hV;have h3:6 ^ (n+1)=6*6 ^ n:=by rw[Nat.pow_succ,Nat.mul_comm]
  show(V.flatMap λv=>(tps V n).map (v :: ·)).length<=_;omega
theorem vkc{kps:List Int}{V K:List D}(h:Kin kps V K)(hk:kps.length<=4)(hk3:∀k∈kps,k<=3)(hV:V.length<=6):K.length<=1036:=by
 have h1:=kv6 (l:=K) (m:=(List.range 4).flatMap λ(r:Nat)=>(tps V 0++(tps V 1++(tps V 2++tps V 3))).map λks=>D.tup [.int (r:Int),.tup ks]) h.1 λs hs=>by
  obtain⟨room,ks,e,r0,r1,hl,ha,hv⟩:=h.2 s hs;have h3:ks.length<=3:=by
   have:=hk3 (kps.getD room.toNat 0) (by rw[X2,X0 (by omega)];exact Xk _);omega
  have hm:=kxc hv;refine List.mem_flatMap.mpr ⟨room.toNat,List.mem_range.mpr (by omega),List.mem_map.mpr ⟨ks,?_,by rw[e,Int.toNat_of_nonneg r0]⟩⟩;rw[List.mem_append,List.mem_append,List.mem_append];have:ks.length=0\/ks.length=1\/ks.length=2\/ks.length=3:=by omega
  rcases this with z | z | z | z<;>rw[z]at hm
  ·exact .inl hm
  ·exact .inr (.inl hm)
  ·exact .inr (.inr (.inl hm))
  ·exact .inr (.inr (.inr hm))
 have h2:=kvi (l:=List.range 4) (f:=λ(r:Nat)=>(tps V 0++(tps V 1++(tps V 2++tps V 3))).map λks=>D.tup [.int (r:Int),.tup ks]) (c:=259) λa _=>by
  rw[X3,X7,X7,X7];have a0:=jx4 hV 0;have a1:=jx4 hV 1;have a2:=jx4 hV 2;have a3:=jx4 hV 3;have:(6:Nat) ^ 0=1/\(6:Nat) ^ 1=6/\(6:Nat) ^ 2=36/\(6:Nat) ^ 3=216:=⟨rfl,rfl,rfl,rfl⟩;omega
 rw[Ya]at h2;exact Y2 h1 h2
theorem kxx{kps:List Int}{V K:List D}(h:Kin kps V K)(hk:kps.length<=12)(hk3:∀k∈kps,k<=3)(hV:V.length<=6):K.length<=3108:=by
 have h1:=kv6 (l:=K) (m:=(List.range 12).flatMap λ(r:Nat)=>(tps V 0++(tps V 1++(tps V 2++tps V 3))).map λks=>D.tup [.int (r:Int),.tup ks]) h.1 λs hs=>by
  obtain⟨room,ks,e,r0,r1,hl,ha,hv⟩:=h.2 s hs;have h3:ks.length<=3:=by
   have:=hk3 (kps.getD room.toNat 0) (by rw[X2,X0 (by omega)];exact Xk _);omega
  have hm:=kxc hv;refine List.mem_flatMap.mpr ⟨room.toNat,List.mem_range.mpr (by omega),List.mem_map.mpr ⟨ks,?_,by rw[e,Int.toNat_of_nonneg r0]⟩⟩;rw[List.mem_append,List.mem_append,List.mem_append];have:ks.length=0\/ks.length=1\/ks.length=2\/ks.length=3:=by omega
  rcases this with z | z | z | z<;>rw[z]at hm
  ·exact .inl hm
  ·exact .inr (.inl hm)
  ·exact .inr (.inr (.inl hm))
  ·exact .inr (.inr (.inr hm))
 have h2:=kvi (l:=List.range 12) (f:=λ(r:Nat)=>(tps V 0++(tps V 1++(tps V 2++tps V 3))).map λks=>D.tup [.int (r:Int),.tup ks]) (c:=259) λa _=>by
  rw[X3,X7,X7,X7];have a0:=jx4 hV 0;have a1:=jx4 hV 1;have a2:=jx4 hV 2;have a3:=jx4 hV 3;have:(6:Nat) ^ 0=1/\(6:Nat) ^ 1=6/\(6:Nat) ^ 2=36/\(6:Nat) ^ 3=216:=⟨rfl,rfl,rfl,rfl⟩;omega
 rw[Ya]at h2;exact Y2 h1 h2
theorem qxx{rs ks st:List D}{room:Int}{kp gd:D}(hr:rs[room.toNat]?=some (.tup [kp,gd,.lst st])):wq9 rs (.tup [.int room,.tup ks])=st:=by
 unfold wq9;dsimp only;rw[X2,hr];rfl
theorem jqx{room:D}{ks:List D}:jzy (.tup [room,.tup ks])=ks:=rfl
theorem vjh{ks st:List D}{p:Int}{k:Nat}(h:k<st.length):bh ks st p (.int k)=jqv ks (.int p) st[k]:=by
 unfold bh;dsimp only;rw[Yb,X2,X0 h];rfl
theorem vwe{ks V:List D}{d f:D}(hk:∀k∈ks,k∈V)(hd:d∈V)(hn:D.non∈V)(hf:Fd ks.length f):jwg ks d f∈V:=by
 rcases hf with rfl | rfl | ⟨i,h0,h1,rfl⟩
 ·exact hd
 ·exact hn
 ·exact hk _ (jw6 ks i h0 h1)
theorem kjd{sgs:List Str}{kps:List Int}{ks st V:List D}{p:Int}{k:Nat}(hst:∀s∈st,St ks.length s)(hka:∀k∈ks,At k)(hV:∀k∈ks,k∈V)(hn:D.non∈V)(hp:D.int p∈V)(hsx:∀s∈st,Sx sgs kps s)(hk:k<st.length):SokV kps V (jqv ks (.int p) st[k]):=by
 obtain⟨room,ks',e,r0,r1,hl,ha⟩:=qk4 (p:=p) hst hka hsx hk;refine⟨room,ks',e,r0,r1,hl,ha,λd hd=>?_⟩;obtain⟨z,g,to,fs,es,hg,hf,_⟩:=hst st[k] (Xk hk);rw[es]at e;have e:D.tup [.int to,.tup (fs.map (jwg ks (.int p)))]=.tup [.int room,.tup ks']:=e;injection e with e;injection e with _ e;injection e with e _;injection e with e;subst e;obtain⟨f,hf',rfl⟩:=List.mem_map.mp hd;exact vwe hV hp hn (hf f hf')
theorem qj5{sgs:List Str}{kps:List Int}{rs V:List D}{w:Str×Int}{s:D}(hR:Rmw rs)(hx:Rx sgs kps rs)(hn:D.non∈V)(hp:D.int w.2∈V)(h:SokV kps V s):∀d∈kv8 rs w s,SokV kps V d:=by
 intro d hd;obtain⟨room',ks',e',_,_,_,_,hV⟩:=id h;obtain⟨room,ks,st,gd,rfl,r0,er,hst,hka,hsx,hsl⟩:=kqr hR hx h.ok;injection e' with e';injection e' with _ e';injection e' with e' _;injection e' with e';subst e';unfold kv8 at hd;rw[qxx er,jqx]at hd;obtain⟨c,hc,rfl⟩:=List.mem_map.mp hd;obtain⟨j,rfl,_,hj⟩:=kws hc;rw[vjh (by omega)];exact kjd hst hka hV hn hp hsx (by omega)
theorem qw1{kps:List Int}{s:D}(h:Sok kps s):jqy s=true:=by
 obtain⟨room,ks,rfl,_,_,_,ha⟩:=h;have:∀{l:List D},(∀k∈l,At k)->keyDs 4 l=true:=by
  intro l
  induction l with
  | nil=>intro _;rfl
  | cons a l ih =>
   intro h;have h1:jq5 4 a=true:=by rcases h a X4 with rfl | ⟨i,rfl⟩<;>rfl
   show(jq5 4 a&&keyDs 4 l)=true;rw[h1,ih λk hk=>h k (lc9 _ hk)];rfl
 show((true&&(keyDs 4 ks&&true))&&true)=true;rw[this ha];rfl
theorem vw1{kps : List Int}{V : List D}: ∀{kvs : List (D × D)}, Kin kps V (kvs.map (·.1)) -> unm kvs = true
  | [], _ => rfl
  | (k, _)::r, h => by
    obtain⟨_, _, e, _⟩:= h.2 k (by simp);subst e;rfl
theorem kvj{ss:List Str}{kps:List Int}{rs V:List D}{kp:Int}{gd st0:D}(hR:Rmw rs)(hx:Rx ss kps rs)(hn:D.non∈V)(hr0:rs[0]?=some (.tup [.int kp,gd,st0]))(hk0:0<=kp):Kin kps V [.tup [.int 0,.tup (List.replicate kp.toNat .non)]]:=by
 have h1:=hR.1;have h2:=hx.1;obtain⟨gd',st',e,_⟩:=hx.2 0 (by omega);rw[hr0]at e;injection e with e;injection e with e;injection e with e _;injection e with e;refine⟨List.nodup_cons.mpr ⟨Xm,Xv⟩,λs hs=>?_⟩;rw[List.mem_singleton.mp hs];refine⟨0,_,rfl,by decide,by omega,?_,λk hk=>.inl (List.eq_of_mem_replicate hk),λk hk=>by rw[List.eq_of_mem_replicate hk];exact hn⟩;rw[Yd,show(0:Int).toNat=0 from rfl,<-e];omega
noncomputable section
def rnD(r:Int->Int):D->D
 | .int i=>.int (r i)
 | d=>d
end
abbrev nmV(N:List Int):List D:=D.non::N.map D.int
def Inj(r:Int->Int)(N:List Int):Prop:=∀a∈N,∀b∈N,r a=r b->a=b
section
variable {r:Int->Int}{N:List Int}
theorem wwz{d:D}(h:d∈nmV N):d=.non\/∃i∈N,d=.int i:=by
 rcases List.mem_cons.mp h with h | h
 ·exact .inl h
 ·obtain⟨i,hi,e⟩:=List.mem_map.mp h;exact .inr ⟨i,hi,e.symm⟩
end
end C
noncomputable section
namespace B
open Q PySem C
abbrev Sn:=Option (Int×List Int)
def nms:Sn->List Int
 | none=>[]
 | some p=>p.2
def rmO:Sn->Int
 | none=>-1
 | some p=>p.1
def wqv(t:List Int):Nat->List Int->List (Int×Int)
 | _,[]=>[]
 | k,n::o=>if(t.any λw=>w==n)=true then((k:Int),((t.findIdx λw=>w==n:Nat):Int))::wqv t (k+1) o else wqv t (k+1) o
abbrev prs(l:List (Int×Int)):List D:=l.map λp=>.tup [.int p.1,.int p.2]
def qzo(a b:Sn):D:=.tup [.int (rmO a),.int (rmO b),.tup (prs (wqv (nms b) 0 (nms a)))]
end B
noncomputable section
namespace B
open PySem Q
def kvd:Fn:=fn 5
  (jjc (jjk 2 (jv0 .rt []))
  (jjc (sIf (tE (cF2 (pu2 fEq) (vE (cF2 (pu2 jv9) (vV 0) (vE (cC (.int 2))))) (vE (cC (.int 1))))) (jjc (jjk 0 (cF2 (pu2 qkl) (vV 0) (vE (cC (.int 2)))))
  (jjc (jwi (kkk (vV 1)) (.n 3) (jjc (jke jvn 2 (cF2 (pu2 jv9) (vV 0) (vE (cC (.int 2147483647)))))
  (jjk 0 (cF2 (pu2 qkl) (vV 0) (vE (cC (.int 2147483647)))))))
  (jkd (cMv 2)))) jjw)
  (jjc (jjk 4 (cF2 jk7 (vE (cF2 (pu2 jv9) (vE (cF2 (pu2 qkl) (vV 0) (vE (cC (.int 2))))) (vE (cC (.int 2147483647))))) (vE (cC (.int 48271)))))
  (jjc (jwi (kkk (vE (cF2 jk7 (vV 1) (vE (cC (.int 1)))))) (.n 3) (jjc (jjk 4 (cF2 (pu2 jv9) (vE (cF2 jk7 (vE (cF2 jk7 (vE (cF2 jjt (vV 4) (vV 4))) (vE (cF2 jjt (vE (cC (.int 48271))) (vV 4))))) (vV 3))) (vE (cC (.int 2147483647)))))
  (jke jvn 2 (cF2 (pu2 jv9) (vE (cF2 jk7 (vE (cF2 jjt (vV 4) (vE (cC (.int 40692))))) (vE (cF2 jjt (vE (cC (.int 7))) (vV 3))))) (vE (cC (.int 2147483399)))))))
  (jkd (cSl (vV 2) (some (vE (cC (.int 1)))) none))))))
def m__law_signs:Fn:=fn 7
  (jjc (jjk 1 (cC (.str "abcdefghijklmnopqrstuvwxyz")))
  (jjc (jjk 2 (jjj kvd [(cV 0),(cC (.int 9))]))
  (jjc (jjk 3 (ww7 "" (vE (cLC .rt 1 [1] (itS (cSl (vV 2) none (some (vE (cF2 jk7 (vE (cC (.int 1))) (vE (cF2 (pu2 jv9) (vV 0) (vE (cC (.int 8)))))))))) (.n 0) tYes (cH (jjb (vV 1) (vE (cF2 (pu2 jv9) (vV 0) (vE (cC (.int 26)))))))))))
  (jjc (jjk 4 (cF2 (pu2 jv9) (vE (cF2 (pu2 qkl) (vV 0) (vE (cC (.int 8))))) (vE (cF1 (pu1 jqz) (vV 3)))))
  (jjc (jjk 5 (jv0 .rt []))
  (jjc (jwi (kkk (jjb (vE (jv0 .rt [(cC (.int 1)),(cC (.int 2)),(cC (.int 1)),(cC (.int 2)),(cC (.int 2)),(cC (.int 1)),(cC (.int 2)),(cC (.int 3))])) (vE (cF2 (pu2 jv9) (vE (cF2 (pu2 qkl) (vV 0) (vE (cC (.int 64))))) (vE (cC (.int 8))))))) (.n 6) (jke jvn 5 (cF2 jk7 (vE (cF2 jk7 (vE (cSl (vV 3) none (some (vV 4)))) (jjb (vV 1) (vE (cF2 jk7 (vE (cF2 (pu2 jv9) (jjb (vV 2) (vE (cC (.int 8)))) (vE (cC (.int 24))))) (vV 6)))))) (vE (cSl (vV 3) (some (vE (cF2 jk7 (vV 4) (vE (cC (.int 1)))))) none)))))
  (jkd (cMv 5))))))))
def jk8:Fn:=fn 6
  (jjc (jjk 3 (vkn (vV 2)))
  (jjc (jjk 4 (jv0 .rt []))
  (jjc (jwi (kkk (vV 1)) (.n 5) (jjc (jke jvn 4 (cPop 3 (vE (cF2 (pu2 jv9) (vV 0) (vE (cF1 (pu1 jqz) (vV 3)))))))
  (jjk 0 (cF2 jk7 (vE (cF2 (pu2 qkl) (vV 0) (vE (cC (.int 7))))) (vE (cF2 jjt (vE (cC (.int 5))) (vV 5)))))))
  (jkd (cF1 jqi (vV 4))))))
end B
namespace B
open Q PySem C
def St(n:Int)(xs:List Int):Prop:=(xs.length:Int)=n/\∀x∈xs,0<=x/\x<2147483647
def nmV(k:Nat):Int:=(k:Int)*k - (10 ^ 60 - 1)
def jwg(S:Sn)(c:Int):D:=if c∈nms S then .int ((nms S).findIdx λw=>w==c:Nat)else .non
end B
noncomputable section
noncomputable section
namespace F
open Q PySem C
def jjo:Fn:=fn 3
  (jjc (jjk 1 (jv0 .rt []))
  (jjc (jwi (itS (cV 0)) (.n 2) (sIf (tAnd (tE (cF2 (f2First fNotNon) (vV 2) (vE (cC .non)))) (tE (cF2 (pu2 jkt) (vV 2) (vV 1)))) (jke jvn 1 (cV 2)) jjw))
  (jkd (cMv 1))))
def jk0:Fn:=fn 2
  (jkd (cF1 jqi (vE (cLC .rt 1 [0] (itS (cV 1)) (.n 0) tYes (cIf (tE (cF2 (f2First fIsNon) (vV 0) (vE (cC .non)))) (cC .non) (wkv (vV 1) (vV 0)))))))
def jju:Fn:=fn 4
  (jjc (sIf (tE (cF2 (f2First fIsNon) (vV 0) (vE (cC .non)))) (jkd (cC .non)) jjw)
  (jjc (jjk 2 (jjj jjo [(cH (jjb (vV 0) (vE (cC (.int 1)))))]))
  (jjc (jjk 3 (jvh .no [(cH (jjb (vV 0) (vE (cC (.int 0))))),(jjj jk0 [(cV 2),(cH (jjb (vV 0) (vE (cC (.int 1)))))])]))
  (jkd (jvh .no [(qkp 1 (vV 3) (vE (cF1 (pu1 kwu) (vV 1)))),(cF1 jqi (vV 2))])))))
def jka(rz:Sm):Fn:=fn 5
  (jjc (jjk 4 (jjj C.m_fitting [(cV 0),(cV 1),(cV 2),(cV 3)]))
  (jjc (sIf (tE (cF2 (pu2 fGt) (vE (cF1 (pu1 jqz) (vV 4))) (vE (cC (.int 1))))) rz jjw)
  (jkd (cIf (tEQ (vV 4)) (jjj C.m_behind [(cV 0),(cV 1),(cH (jjb (vV 4) (vE (cC (.int 0))))),(cV 3)]) (cC .non)))))
def jk9(rz:Sm):Fn:=fn 5
  (jjc (jjk 4 (vkn (vE (cF2 jk7 (vE (cF1 (pu1 jqz) (vE (jjj jjo [(cH (jjb (vV 1) (vE (cC (.int 1)))))])))) (vE (cC (.int 1)))))))
  (jkd (cLC .rt 1 [0,1,2,3] (itS (cV 4)) (.n 0) tYes (kkc jju 4 [(jjj (jka rz) [(cV 1),(cV 2),(cV 3),(cV 0)])]))))
def m_plain_of(rz:Sm):Fn:=fn 5
  (jjc (jjk 1 (qx8 (jjj C.m_first_standing [(cV 0)]) (cC (.int 0))))
  (jjc (jjk 2 (jv0 .rt []))
  (jjc (sWhile (tE (cF2 (pu2 fLt) (vE (cF1 (pu1 jqz) (vV 2))) (vE (cF1 (pu1 kwu) (vV 1))))) (jjc (jjk 3 (cH (jjb (vE (cF1 jxk (vV 1))) (vE (cF1 (pu1 jqz) (vV 2))))))
  (jjc (jjk 4 (cLC .rt 1 [0,3,1] (itS (cH (jjb (vV 0) (vE (cC (.int 0)))))) (.n 0) tYes (kkc (jk9 rz) 3 [(cV 1),(cV 2),(cV 0)])))
  (jke jvn 2 (jvh .no [(cF1 (pu1 jqz) (vE (jjj jjo [(cH (jjb (vV 3) (vE (cC (.int 1)))))]))),(cH (jjb (jjb (jjb (vV 0) (vE (cC (.int 1)))) (jjb (vV 3) (vE (cC (.int 0))))) (vE (cC (.int 1))))),(cV 4)])))))
  (jkd (jvh .no [(jvh .no [(cF1 jze (jjb (vV 0) (vE (cC (.int 0))))),(cV 2)]),(cF1 jxk (vV 1))])))))
def insI(acc:List Int):D->List Int
 | .int i=>if i∈acc then acc else acc++[i]
 | _=>acc
def jk5(ks:List D):List Int:=ks.foldl insI []
theorem vw9(acc:List Int)(d:D):(insI acc d).length<=acc.length+1:=by
 unfold insI
 split
 ·split<;>simp
 ·omega
theorem qjg:∀(ks:List D) (acc:List Int),(ks.foldl insI acc).length<=acc.length+ks.length
 | [],_=>by simp
 | k::ks,acc=>by
  rw[Yh,Xd];have:=qjg ks (insI acc k);have:=vw9 acc k;omega
theorem jqt(ks:List D):(jk5 ks).length<=ks.length:=by
 have:=qjg ks [];rw[List.length_nil,Nat.zero_add]at this;exact this
theorem vw7{acc:List Int}{d:D}{i:Int}(h:i∈acc):i∈insI acc d:=by
 unfold insI
 split
 ·split
  ·exact h
  ·exact ll9 _ h
 ·exact h
theorem qje:∀{ks:List D} {acc:List Int} {i:Int},i∈acc->i∈ks.foldl insI acc
 | [],_,_,h=>h
 | k::ks,acc,i,h=>qje (ks:=ks) (vw7 h)
theorem qwl:∀{ks:List D} {acc:List Int} {i:Int},D.int i∈ks->i∈ks.foldl insI acc
 | k::ks,acc,i,h=>by
  rw[Yh];rcases List.mem_cons.mp h with rfl | h
  ·refine qje ?_;unfold insI;dsimp only
   split
   ·assumption
   ·simp
  ·exact qwl h
theorem qj4{ks:List D}{i:Int}(h:D.int i∈ks):i∈jk5 ks:=qwl h
theorem qw7{acc:List Int}(h:acc.Nodup)(d:D):(insI acc d).Nodup:=by
 unfold insI
 split
 ·split
  ·exact h
  ·rename_i i hi;rw[Xe];exact⟨h,by simp,λa ha b hb e=>by rw[List.mem_singleton.mp hb]at e;exact hi (e▸ha)⟩
 ·exact h
theorem vk9{p:Int}{ks:List Int}:jkt (.int p) (iL ks)=some (.bl (!decide (p∈ks))):=by
 have h:=in_i (p:=p) (ks:=ks);rw[kvo]at h;have h:fIn (.int p) (iL ks)=some (.bl (decide (p∈ks))):=h;show(fIn (.int p) (iL ks)).bind _=_;rw[h];rfl
theorem kv9{ks:List D}(hk:∀k∈ks,At k)(hl:ks.length<=100):Oo jjo [(.no,.tup ks)] (λy=>∃_:Unit,y=(.rt,iL (jk5 ks))/\True) noX:=by
 unfold jjo;refine jq7 ?_;simp! only[];refine jvf (λE jkp=>∃(k1:List D) (l2:Option Sd),E=[some (.no,.tup ks),some (.rt,iL (jk5 k1)),l2]/\ks=k1++jkp) ?_ ?_ ?_
 ·simp! only[];exact⟨[],_,rfl,rfl⟩
 ·rintro E d ds ⟨k1,l2,rfl,he⟩;have hlen:=congrArg List.length he;rw [X7,Xd]at hlen;have hb:=jqt k1;have hsn:jk5 (k1++[d])=insI (jk5 k1) d:=by unfold jk5;rw[List.foldl_append];rfl
  rcases hk d (by rw[he];simp)with rfl | ⟨i,rfl⟩
  ·simp! only[];exact⟨k1++[.non],_,by rw[hsn];rfl,by rw[he];simp⟩
  ·by_cases hm:i∈jk5 k1
   ·have hq:=vk9 (p:=i) (ks:=jk5 k1);rw[Xb hm]at hq;simp! only[hq];exact⟨k1++[.int i],_,by rw[hsn];unfold insI;dsimp only;rw[Xf hm],by rw[he];simp⟩
   ·have hq:=vk9 (p:=i) (ks:=jk5 k1);rw[X9 hm]at hq;simp! only[hq];refine jwm rfl ?_;simp! only[];have e4:(jk5 k1).map D.int++[D.int i]=(jk5 (k1++[.int i])).map D.int:=by
     rw[hsn,show insI (jk5 k1) (.int i)=jk5 k1++[i]from Xj hm,Xs];rfl
    exact⟨_,rfl,by simp;omega,k1++[.int i],_,by rw[e4],by rw[he];simp⟩
 ·rintro E ⟨k1,l2,rfl,he⟩;rw[Xq]at he;subst he;simp! only[]
  first | trivial | exact⟨(),trivial⟩| exact⟨(),rfl,trivial⟩
def plc(ns:List Int):D->D
 | .int i=>.int (ns.findIdx λw=>w==i:Nat)
 | d=>d
def pr(ks:List D):List D:=ks.map (plc (jk5 ks))
theorem wkd{p:Int}{ks:List Int}(h:(ks.any λw=>w==p)=true):qjk (iL ks) (.int p)=some (.int (ks.findIdx λw=>w==p:Nat)):=by
 show(if(D.int p).flat 30&&D.flats 30 (ks.map D.int)then((ks.map D.int).findIdx? λw=>peq w (.int p)).map λ(j:Nat)=>D.int (j:Int)else none)=_;rw[show(D.int p).flat 30=true from rfl,jqn (ks:=ks.map D.int) (λk hk=>by obtain⟨w,_,rfl⟩:=List.mem_map.mp hk;rfl),List.findIdx?_map];have:ks.findIdx? ((λw=>peq w (.int p))∘D.int)=ks.findIdx? λw=>w==p:=rfl
 rw[this,qws h];rfl
theorem qv5{ks:List D}(hk:∀k∈ks,At k):Oo jk0 [(.no,iL (jk5 ks)),(.no,.tup ks)] (λy=>∃_:Unit,y=(.no,.tup (pr ks))/\True) noX:=by
 unfold jk0;refine jq7 ?_;simp! only[];refine jvb [some (.no,iL (jk5 ks))] (λd y=>y.2=plc (jk5 ks) d) ?_;simp! only[];refine⟨rfl,λd hd=>?_,λys hy=>?_⟩
 ·rcases hk d hd with rfl | ⟨i,rfl⟩
  ·simp! only[];exact⟨⟨_,rfl⟩,rfl⟩
  ·have hm:((jk5 ks).any λw=>w==i)=true:=by rw[kvo];exact Xb (qj4 hd)
   simp! only[wkd hm];exact⟨⟨_,rfl⟩,rfl⟩
 ·rw[jql,jq8 (h:=plc (jk5 ks)) (λd y h=>h) hy];simp only[back,clr,at',List.map_cons,List.map_nil,List.set_cons_zero,List.set_cons_succ];simp! only[qk2 (o:=.no) (xs:=ks.map (plc (jk5 ks))) (by decide)]
  first | trivial | exact⟨(),trivial⟩| exact⟨(),rfl,trivial⟩
def kkl:Nat->List D->List (D×D)
 | _,[]=>[]
 | n,d::K=>(d,.int n)::kkl (n+1) K
def jxt(K:List D):List (D×D):=kkl 0 K
theorem qkx:∀(a b:List D) (n:Nat),kkl n (a++b)=kkl n a++kkl (n+a.length) b
 | [],b,n=>by simp[kkl]
 | d::a,b,n=>by
  rw[List.cons_append,kkl,kkl,qkx a b (n+1),List.cons_append,Xd]
  congr 3
  omega
theorem kxb:∀(K:List D) (n:Nat),(kkl n K).length=K.length
 | [],_=>rfl
 | d::K,n=>by rw[kkl,Xd,kxb K,Xd]
theorem kqk:∀(K:List D) (n:Nat),(kkl n K).map (·.1)=K
 | [],_=>rfl
 | d::K,n=>by rw[kkl,List.map_cons,kqk K]
theorem kz8:∀(K:List D) (n:Nat),D.pures ((kkl n K).map (·.2))=true
 | [],_=>rfl
 | d::K,n=>by
  rw[kkl,List.map_cons];show(D.pure (.int n)&&D.pures ((kkl (n+1) K).map (·.2)))=true;rw[kz8 K];rfl
theorem qkw:∀(K:List D) (n:Nat) (p:D),kwp (kkl n K) p=if p∈K then some (.int (n+K.idxOf p:Nat))else none
 | [],_,p=>by simp[kkl,kwp]
 | d::K,n,p=>by
  by_cases h:d=p
  ·subst h;unfold kwp;rw[kkl,List.find?_cons_of_pos (by simp),Xf X4];simp
  ·have ih:=qkw K (n+1) p;have e:kwp (kkl n (d::K)) p=kwp (kkl (n+1) K) p:=by
    unfold kwp;rw[kkl,List.find?_cons_of_neg (by simpa using h)]
   rw[e,ih]
   by_cases hm:p∈K
   ·rw[Xf hm,Xf (lc9 _ hm),List.idxOf_cons,show(d==p)=false by simpa using h]
    congr 2
    simp;omega
   ·rw[Xj hm,Xj (λz=>by rcases List.mem_cons.mp z with z | z;exact h z.symm;exact hm z)]
theorem qky(K:List D)(p:D):jxt (K++[p])=jxt K++[(p,.int K.length)]:=by
 unfold jxt;rw[qkx,Nat.zero_add];rfl
theorem vwc(K:List D)(p:D):((jzq K p).idxOf p:Int)=if p∈K then(K.idxOf p:Int)else K.length:=by
 unfold jzq
 by_cases h:p∈K
 ·rw[Xf h,Xf h]
 ·rw[Xj h,Xj h,List.idxOf_append,Xj h];simp
def jkw(K:List D)(s:D):List D×D:=match s with
 | .tup [room,.tup ks]=>(jzq K (.tup [room,.tup (pr ks)]),.tup [.int ((jzq K (.tup [room,.tup (pr ks)])).idxOf (.tup [room,.tup (pr ks)]):Nat),iT (jk5 ks)])
 | _=>(K,.non)
theorem vwo{ks K:List D}{room:Int}(hk:∀k∈ks,At k)(hl:ks.length<=6)(hK:K.length<9000)(hkey:jqy (.tup [.int room,.tup (pr ks)])=true)(hu:unm (jxt K)=true):
  Oom jju [(.no,.tup [.int room,.tup ks]),(.rt,.dct (jxt K))] 1 (λy x'=>y=(.no,(jkw K (.tup [.int room,.tup ks])).2)/\x'=(.rt,.dct (jxt (jkw K (.tup [.int room,.tup ks])).1))) noX:=by
 unfold jju;refine qvg ?_;refine kwd (wjj ?_);simp! only[];refine qzq ?_;simp! only[];refine kwd (qzq ?_);simp! only[p1];refine(kv9 hk (by omega)).use ?_;intro _ _;simp! only[];refine kwd (qzq ?_);simp! only[p0,p1];refine(qv5 hk).use ?_;intro _ _;simp! only[];refine qvh ?_;simp! only[];refine vqg hu ?_;simp! only[qvr hu];have hz:=qkw K 0 (.tup [.int room,.tup (pr ks)]);have hzl:(jxt K).length=K.length:=kxb K 0;refine⟨jxt K,rfl,⟨hkey,by rw[hzl];omega,hu,kz8 _ _⟩,λd hd=>?_,λhn=>?_⟩
 ·have hm:(D.tup [.int room,.tup (pr ks)])∈K:=by
   by_cases hm:(D.tup [.int room,.tup (pr ks)])∈K
   ·exact hm
   ·rw[Xj hm]at hz;unfold jxt at hd;rw[hz]at hd;cases hd
  rw[Xf hm,Nat.zero_add]at hz;unfold jxt at hd;rw[hz]at hd;cases oq9 hd;have e1:jzq K (.tup [.int room,.tup (pr ks)])=K:=by unfold jzq;rw[Xf hm]
  simp! only[qk2 (o:=.no) (xs:=(jk5 ks).map D.int) (by decide)];show _/\_;unfold jkw;dsimp only;rw[e1];exact⟨rfl,rfl⟩
 ·have hm:(D.tup [.int room,.tup (pr ks)])∉K:=λhm=>by
   rw[Xf hm]at hz;unfold jxt at hn;rw[hz]at hn;cases hn
  have e1:jzq K (.tup [.int room,.tup (pr ks)])=K++[.tup [.int room,.tup (pr ks)]]:=by unfold jzq;rw[Xj hm]
  have e2:=vwc K (.tup [.int room,.tup (pr ks)]);rw[Xj hm]at e2;simp! only[qk2 (o:=.no) (xs:=(jk5 ks).map D.int) (by decide),hzl];show _/\_;unfold jkw;dsimp only;rw[e2,e1,qky];exact⟨rfl,rfl⟩
theorem qx2{K:List D}:Oom jju [(.no,.non),(.rt,.dct (jxt K))] 1 (λy x'=>y.2=.non/\x'=(.rt,.dct (jxt K))) noX:=by
 unfold jju;refine qvg ?_;refine kwd (wjj ?_);simp! only[];refine qvh ?_;simp! only[]
 first | rfl | exact⟨rfl,rfl⟩
end F
noncomputable section
namespace F
open Q PySem C
def obD(rs:List D)(s:D)(z:Str)(p:Int):Option D:=match kv8 rs (z,p) s with
 | []=>some .non
 | [d]=>some d
 | _=>none
def wqi(rz:Sm):Prop:=∀(e:Option Sd) (E:En) (N C:En->Prop) (R:Sd->Prop) (X:XP),X "NotSingle"->Po (rz (e::E)) N C R X
theorem vvm{rz:Sm}{ss:List Str}{rs V:List D}{kps:List Int}{s:D}{z:Str}{p:Int}{X:XP}(hR:Rmw rs)(hx:Rx ss kps rs)(hs:SokV kps V s)(hz:obD rs s z p=none->wqi rz/\X "NotSingle"):
  Oo (jka rz) [(.no,jwf ss rs),(.no,s),(.no,.str z),(.no,.int p)] (λy=>obD rs s z p=some y.2) X:=by
 obtain⟨room,ks,st,gd,rfl,r0,er,hst,hka,hsx,hsl⟩:=kqr hR hx hs.ok;have hat:At (.int p):=.inr ⟨p,rfl⟩;have hnx:kv8 rs (z,p) (.tup [.int room,.tup ks])=(jkz (kks z ks (.int p)) 0 st).map (bh ks st p):=by unfold kv8;rw[qxx er,jqx]
 unfold jka;refine jq7 ?_;simp! only[];refine(qkj r0 er hst hka hat).any.use ?_;intro _ _;unfold obD at hz ⊢;rw [hnx]at hz ⊢;cases hf:jkz (kks z ks (.int p)) 0 st with
 | nil =>
  have hgt:fGt (.int (([]:List D).length:Nat)) (.int 1)=some (.bl false):=rfl;simp! only[hgt]
  first | rfl | trivial
 | cons c r =>
  rw[hf]at hz;obtain⟨j,rfl,_,hj⟩:=kws (show c∈jkz (kks z ks (.int p)) 0 st by rw[hf];exact X4);have hj:j<st.length:=by omega
  cases r with
  | nil =>
   have hx0:jva (.lst [.int j]) (.int 0)=some (.int j):=rfl;have hgt:fGt (.int (([.int j]:List D).length:Nat)) (.int 1)=some (.bl false):=rfl;simp! only[hgt,hx0];rw[Xj (by decide),Xf (by rfl)];refine(qxe r0 er hst hj).any.use ?_;intro _ _;rw[vjh hj]
  | cons c2 r2 =>
   have hgt:fGt (.int ((.int j::c2::r2:List D).length:Nat)) (.int 1)=some (.bl true):=by
    show some (D.bl (decide ((1:Int)<((.int j::c2::r2:List D).length:Nat))))=_;rw[Xb (by simp;omega)]
   simp! only[hgt];rw[Xf (Xb (by omega))];obtain⟨h1,h2⟩:=hz rfl;exact h1 _ _ _ _ _ _ h2
def V4:List D:=[.non,.int 0,.int 1,.int 2,.int 3]
theorem qzr{ss:List Str}{rs:List D}{kps:List Int}{s d:D}{z:Str}{p:Int}(hR:Rmw rs)(hx:Rx ss kps rs)(hs:SokV kps V4 s)(hp:D.int p∈V4)(h:obD rs s z p=some d):d=.non\/SokV kps V4 d:=by
 have hn:=qj5 (w:=(z,p)) hR hx (by simp[V4]) hp hs;unfold obD at h
 split at h
 ·cases h;exact .inl rfl
 ·rename_i d' e;cases h;exact .inr (hn d (by rw[e];exact List.mem_singleton.mpr rfl))
 ·cases h
theorem jwy{ns:List Int}{i:Int}(h:i∈ns):(ns.findIdx λw=>w==i)<ns.length:=ww0 (by rw[kvo];exact Xb h)
theorem wvc{ks:List D}(hk:∀k∈ks,At k)(hl:ks.length<=3):(∀d∈pr ks,At d)/\∀d∈pr ks,d∈V4:=by
 have key:∀d∈pr ks,d=.non\/∃i:Nat,d=.int i/\i<3:=λd hd=>by
  unfold pr at hd;obtain⟨k,hk',rfl⟩:=List.mem_map.mp hd;rcases hk k hk' with rfl | ⟨i,rfl⟩
  ·exact .inl rfl
  ·have:=jwy (qj4 hk');have:=jqt ks;exact .inr ⟨_,rfl,by omega⟩
 refine⟨λd hd=>?_,λd hd=>?_⟩
 ·rcases key d hd with rfl | ⟨i,rfl,_⟩
  ·exact .inl rfl
  ·exact .inr ⟨_,rfl⟩
 ·rcases key d hd with rfl | ⟨i,rfl,hi⟩
  ·simp[V4]
  ·have:i=0\/i=1\/i=2:=by omega
   rcases this with rfl | rfl | rfl<;>simp[V4]
theorem wk2{kps:List Int}{room:Int}(h3:∀k∈kps,k<=3)(r0:0<=room)(r1:room<kps.length):kps.getD room.toNat 0<=3:=by
 have:room.toNat<kps.length:=by omega
 refine h3 _ ?_;rw[X2,X0 this];exact Xk _
theorem jqd{kps:List Int}{room:Int}{ks:List D}(h3:∀k∈kps,k<=3)(h:SokV kps V4 (.tup [.int room,.tup ks])):SokV kps V4 (.tup [.int room,.tup (pr ks)])/\ks.length<=3:=by
 obtain⟨room',ks',e,r0,r1,hl,ha,hV⟩:=h;injection e with e;injection e with e1 e;injection e with e2 _;injection e1 with e1;injection e2 with e2;subst e1 e2;have:=wk2 h3 r0 r1;have hl3:ks.length<=3:=by omega
 obtain⟨q1,q2⟩:=wvc ha hl3;exact⟨⟨room,pr ks,rfl,r0,r1,by unfold pr;rw[X3];exact hl,q1,q2⟩,hl3⟩
theorem kj8{kps:List Int}{K:List D}{d:D}(h3:∀k∈kps,k<=3)(hK:Kin kps V4 K)(hd:d=.non\/SokV kps V4 d):Kin kps V4 (jkw K d).1:=by
 rcases hd with rfl | hd
 ·exact hK
 ·obtain⟨room,ks,rfl,_⟩:=id hd;exact vwb hK (jqd h3 hd).1
theorem qj9{kps:List Int}{K:List D}(hK:Kin kps V4 K):unm (jxt K)=true:=vw1 (kps:=kps) (V:=V4) (by unfold jxt;rw[kqk];exact hK)
def jk2(rs:List D)(s:D)(z:Str):List D->List D->Option (List D×List D)
 | [],K=>some (K,[])
 | .int p::ps,K=>match obD rs s z p with
  | none=>none
  | some d=>(jk2 rs s z ps (jkw K d).1).map λr=>(r.1,(jkw K d).2::r.2)
 | _::_,_=>none
theorem kqw{kps:List Int}{K:List D}{d:D}(hk4:kps.length<=12)(h3:∀k∈kps,k<=3)(hK:Kin kps V4 K)(hd:d=.non\/SokV kps V4 d):
  Oom jju [(.no,d),(.rt,.dct (jxt K))] 1 (λy x'=>y.2=(jkw K d).2/\x'=(.rt,.dct (jxt (jkw K d).1))) noX:=by
 rcases hd with rfl | hd
 ·exact qx2
 ·obtain⟨room,ks,rfl,r0,r1,hl,ha,hV⟩:=id hd;obtain⟨q1,q2⟩:=jqd h3 hd;have:=kxx hK hk4 h3 (by decide);exact(vwo ha (by omega) (by omega) (qw1 q1.ok) (qj9 hK)).mono (λy x h=>⟨by rw[h.1],h.2⟩) λc h=>h.elim
theorem vjd{rz:Sm}{ss:List Str}{rs K:List D}{kps:List Int}{s:D}{z:Str}{X:XP}(hR:Rmw rs)(hx:Rx ss kps rs)(h3:∀k∈kps,k<=3)(hs:SokV kps V4 s)(hK:Kin kps V4 K)
  (hz:jk2 rs s z (jj4 0 ((jk5 (jzy s)).length+1)) K=none->wqi rz/\X "NotSingle"):
  Oom (jk9 rz) [(.no,jwf ss rs),(.no,s),(.no,.str z),(.rt,.dct (jxt K))] 3 (λy x'=>∃K' cs,jk2 rs s z (jj4 0 ((jk5 (jzy s)).length+1)) K=some (K',cs)/\y=(.rt,.lst cs)/\x'=(.rt,.dct (jxt K'))/\Kin kps V4 K') X:=by
 have hk4:kps.length<=12:=by have:=hx.1;have:=hR.2.1;omega
 obtain⟨room,ks,rfl,r0,r1,hl,ha,hV⟩:=id hs;have hl3:=(jqd h3 hs).2;rw[jqx]at hz ⊢;have hnl:=jqt ks;have hpv:∀d∈jj4 0 (((jk5 ks).length:Int)+1),∃p:Int,d=.int p/\d∈V4:=λd hd=>by
  unfold jj4 at hd;obtain⟨i,hi,rfl⟩:=List.mem_map.mp hd;have hi:=List.mem_range.mp hi;refine⟨_,rfl,?_⟩;have:i=0\/i=1\/i=2\/i=3:=by omega
  rcases this with rfl | rfl | rfl | rfl<;>simp[V4]
 generalize hps:jj4 0 (((jk5 ks).length:Int)+1)=ps at hz hpv;unfold jk9;refine qvg ?_;refine kwd (qzq ?_);simp! only[p1];refine(kv9 ha (by omega)).any.use ?_;intro _ _;simp! only[];refine qvh ?_;rw[hps];refine qkm (λE1 B ds acc=>E1=[some (.no,jwf ss rs),some (.no,.tup [.int room,.tup ks]),some (.no,.str z),some (.rt,.dct (jxt K)),some (.no,.lst ps)]/\∃q K1,B=[q,some (.no,jwf ss rs),some (.no,.tup [.int room,.tup ks]),some (.no,.str z),some (.rt,.dct (jxt K1))]/\Kin kps V4 K1/\(∀d∈ds,∃p:Int,d=.int p/\d∈V4)/\jk2 rs (.tup [.int room,.tup ks]) z ps K=(jk2 rs (.tup [.int room,.tup ks]) z ds K1).map λr=>(r.1,acc.map (·.2)++r.2)) ?_ ?_ ?_
 ·simp! only[];exact⟨none,K,rfl,hK,hpv,by simp⟩
 ·rintro E1 B d ds acc ⟨rfl,q,K1,rfl,hK1,hds,hc⟩;obtain⟨p,rfl,hpV⟩:=hds d X4;simp! only[];refine qjq ?_;simp! only[];refine(vvm hR hx hs (λhn=>hz (by rw[hc,jk2,hn];rfl))).via ?_;intro y hy;simp! only[];have hd:=qzr hR hx hs hpV hy;refine⟨_,rfl,(kqw hk4 h3 hK1 hd).mono (λy' x' h=>?_) λc h=>h.elim⟩;obtain⟨h1,rfl⟩:=h;refine⟨_,(jkw K1 y.2).1,rfl,kj8 h3 hK1 hd,λd hd=>hds d (lc9 _ hd),?_⟩;rw[hc,jk2,hy];simp[Option.map_map,Function.comp_def,h1]
 ·rintro E1 B acc ⟨rfl,q,K1,rfl,hK1,_,hc⟩;rw[jql];simp only[kjw,back,clr,at',List.drop,List.map_cons,List.map_nil,List.set_cons_zero,List.set_cons_succ];exact⟨K1,acc.map (·.2),by rw[hc];simp[jk2],rfl,rfl,hK1⟩
end F
noncomputable section
namespace F
open Q PySem C
def kqf(rs:List D)(s:D)(z:Str)(K:List D):Option (List D×List D):=jk2 rs s z (jj4 0 ((jk5 (jzy s)).length+1)) K
def jk1(rs:List D)(s:D):List Str->List D->Option (List D×List D)
 | [],K=>some (K,[])
 | z::zs,K=>match kqf rs s z K with
  | none=>none
  | some r=>(jk1 rs s zs r.1).map λq=>(q.1,.lst r.2::q.2)
def goodD(rs:List D)(s:D):D:=match s with
 | .tup [.int room,_]=>(match rs[room.toNat]? with
  | some (.tup [_,g,_])=>g
  | _=>.non)
 | _=>.non
def jx9(rs:List D)(s:D)(st:List D):D:=.tup [.int (jk5 (jzy s)).length,goodD rs s,.lst st]
def kja(ss:List Str)(rs K rooms:List D):Option (List D×List D):=(jk1 rs (K.getD rooms.length .non) ss K).map λr=>(r.1,rooms++[jx9 rs (K.getD rooms.length .non) r.2])
inductive Run (ss:List Str)(rs:List D):List D->List D->Option (List D×List D)->Prop
 | stop {K rooms:List D}:¬rooms.length<K.length->Run ss rs K rooms (some (K,rooms))
 | fail {K rooms:List D}:rooms.length<K.length->kja ss rs K rooms=none->Run ss rs K rooms none
 | go {K rooms K' rooms':List D} {r:Option (List D×List D)}:rooms.length<K.length->kja ss rs K rooms=some (K',rooms')->Run ss rs K' rooms' r->Run ss rs K rooms r
theorem Run.det{ss:List Str}{rs K rooms:List D}{r r':Option (List D×List D)}(h:Run ss rs K rooms r):Run ss rs K rooms r'->r=r':=by
 induction h with
 | stop h =>
  intro h';cases h' with
  | stop=>rfl
  | fail h1=>exact absurd h1 h
  | go h1=>exact absurd h1 h
 | fail h e =>
  intro h';cases h' with
  | stop h1=>exact absurd h h1
  | fail=>rfl
  | go _ e'=>rw[e]at e';cases e'
 | go h e _ ih =>
  intro h';cases h' with
  | stop h1=>exact absurd h h1
  | fail _ e'=>rw[e]at e';cases e'
  | go _ e' h2 =>
   rw[e]at e';cases e';exact ih h2
theorem qko{K:List D}{d:D}:K.length<=(jkw K d).1.length:=by
 unfold jkw
 split
 ·unfold jzq;split<;>simp
 ·exact X8 _
theorem jwz{rs:List D}{s:D}{z:Str}:∀{ps K:List D} {r:List D×List D},jk2 rs s z ps K=some r->K.length<=r.1.length
 | [],K,r,h=>by rw[jk2]at h;cases h;exact X8 _
 | .int p::ps,K,r,h=>by
  rw[jk2]at h
  split at h
  ·cases h
  ·rename_i d _;obtain⟨q,hq,rfl⟩:=Option.map_eq_some_iff.mp h;have h1:=jwz hq;have:=qko (K:=K) (d:=d);exact Y2 this h1
 | .non::_,_,_,h=>by cases h
 | .bl _::_,_,_,h=>by cases h
 | .str _::_,_,_,h=>by cases h
 | .tup _::_,_,_,h=>by cases h
 | .lst _::_,_,_,h=>by cases h
 | .dct _::_,_,_,h=>by cases h
 | .obj _ _::_,_,_,h=>by cases h
theorem kje{rs:List D}{s:D}:∀{zs:List Str} {K:List D} {r:List D×List D},jk1 rs s zs K=some r->K.length<=r.1.length
 | [],K,r,h=>by rw[jk1]at h;cases h;exact X8 _
 | z::zs,K,r,h=>by
  rw[jk1]at h
  split at h
  ·cases h
  ·rename_i q hq;obtain⟨q2,hq2,rfl⟩:=Option.map_eq_some_iff.mp h;have h1:=jwz hq;have h2:=kje hq2;exact Y2 h1 h2
theorem qwc{rs ks st:List D}{room:Int}{kp gd:D}(hr:rs[room.toNat]?=some (.tup [kp,gd,.lst st])):goodD rs (.tup [.int room,.tup ks])=gd:=by
 unfold goodD;dsimp only;rw[hr]
theorem jzp{rz:Sm}{ss:List Str}{rs:List D}{kps:List Int}{kp:Int}{gd st0:D}{X:XP}(hR:Rmw rs)(hx:Rx ss kps rs)(h3:∀k∈kps,k<=3)(hr0:rs[0]?=some (.tup [.int kp,gd,st0]))(hk0:0<=kp)(hk3:kp<=3)
  (hX:Run ss rs [.tup [.int 0,.tup (List.replicate kp.toNat .non)]] [] none->wqi rz/\X "NotSingle"):
  Oo (m_plain_of rz) [(.no,jwf ss rs)] (λy=>∃K rooms,y=(.no,.tup [jwf ss rooms,.lst K])/\Run ss rs [.tup [.int 0,.tup (List.replicate kp.toNat .non)]] [] (some (K,rooms))) X:=by
 have k4:kps.length<=12:=by have:=hx.1;have:=hR.2.1;omega
 have hin:Kin kps V4 [.tup [.int 0,.tup (List.replicate kp.toNat .non)]]:=kvj hR hx (by simp[V4]) hr0 hk0;generalize hs0:(D.tup [.int 0,.tup (List.replicate kp.toNat .non)])=s0 at *;unfold m_plain_of;refine jq7 ?_;simp! only[↓vxg];refine(vj6 (gd:=gd) (st:=st0) hr0 hk0 (by omega)).any.use ?_;intro _ _;simp! only[];rw [hs0];refine⟨qw1 (hin.2 s0 X4).ok,?_⟩;refine qzh (λn E=>∃(K rooms:List D) (l3 l4:Option Sd),E=[some (.no,jwf ss rs),some (.rt,.dct (jxt K)),some (.rt,.lst rooms),l3,l4]/\Kin kps V4 K/\rooms.length<=K.length/\n=4000 - rooms.length/\∀r,Run ss rs K rooms r->Run ss rs [s0] [] r) ?_ 4000 _ ⟨[s0],[],_,_,rfl,hin,Y4 _,rfl,λr h=>h⟩;rintro n E ⟨K,rooms,l3,l4,rfl,hK,hle,rfl,hrun⟩;have hkl:=kxx hK k4 h3 (by decide);have hzl:(jxt K).length=K.length:=kxb K 0;have hu:=qj9 hK;have hlist:∀o,jxk (o,.dct (jxt K))=some (.rt,.lst K):=λo=>by
  rw [wjv (by rw[hzl];omega) hu];unfold jxt;rw [kqk]
 by_cases hlt:rooms.length<K.length
 ·have hd:decide ((rooms.length:Int)<(K.length:Int))=true:=Xb (by omega);have hix:jva (.lst K) (.int rooms.length)=some (K.getD rooms.length .non):=qw3 (by omega) (by rw[Yb,X0 hlt,X2,X0 hlt];rfl);have hs:SokV kps V4 (K.getD rooms.length .non):=hK.2 _ (by rw[X2,X0 hlt];exact Xk _);have hstep:kja ss rs K rooms=(jk1 rs (K.getD rooms.length .non) ss K).map λr=>(r.1,rooms++[jx9 rs (K.getD rooms.length .non) r.2]):=rfl
  generalize K.getD rooms.length .non=s at hix hs hstep;have hfail:jk1 rs s ss K=none->wqi rz/\X "NotSingle":=λe=>hX (hrun _ (.fail hlt (by rw[hstep,e];rfl)))
  simp! only[qvr hu,hzl,hd,hlist,hix];refine qkm (λE1 B ds acc=>E1=[some (.no,jwf ss rs),some (.rt,.dct (jxt K)),some (.rt,.lst rooms),some (.no,s),l4]/\∃(q:Option Sd) (K1:List D) (zs:List Str),B=[q,some (.no,jwf ss rs),some (.no,s),some (.rt,.dct (jxt K1))]/\ds=zs.map D.str/\Kin kps V4 K1/\K.length<=K1.length/\jk1 rs s ss K=(jk1 rs s zs K1).map λr=>(r.1,acc.map (·.2)++r.2)) ?_ ?_ ?_
  ·simp! only[p0];exact⟨none,K,ss,rfl,rfl,hK,X8 _,by simp⟩
  ·rintro E1 B d ds acc ⟨rfl,q,K1,zs,rfl,hds,hK1,hg,hc⟩;cases zs with
   | nil=>cases hds
   | cons z zs =>
    rw[List.map_cons]at hds;injection hds with e1 e2;subst e1 e2;simp! only[];refine qjq ?_;simp! only[];refine⟨_,rfl,(vjd hR hx h3 hs hK1 (λhn=>hfail (by rw[hc,jk1,show kqf rs s z K1=none from hn];rfl))).mono (λy x' h=>?_) λc h=>h⟩;obtain⟨K2,cs,hcs,rfl,rfl,hK2⟩:=h;refine⟨_,K2,zs,rfl,rfl,hK2,Y2 hg (jwz hcs),?_⟩;rw[hc,jk1,show kqf rs s z K1=some (K2,cs)from hcs];simp[Option.map_map,Function.comp_def]
  ·rintro E1 B acc ⟨rfl,q,K1,zs,rfl,hds,hK1,hg,hc⟩;cases zs with
   | cons=>cases hds
   | nil =>
    rw[jql];simp only[kjw,back,clr,at',List.drop,List.map_cons,List.map_nil,List.set_cons_zero,List.set_cons_succ];obtain⟨room,ks,st,gd',rfl,r0,er,hst,hka,hsx,hsl⟩:=kqr hR hx hs.ok;have hl3:=(jqd h3 hs).2;have hir:jva (.lst rs) (.int room)=some (.tup [.int ks.length,gd',.lst st]):=qw3 r0 er;refine jwm rfl ?_;simp! only[p0,p1];refine(kv9 hka (by omega)).any.use ?_;intro _ _;simp! only[p0,p1,t1,hir];have hkl1:=kxx hK1 k4 h3 (by decide);refine⟨_,rfl,by omega,_,?_,K1,_,_,_,rfl,hK1,?_,rfl,λr h=>hrun r (.go hlt ?_ h)⟩
    ·simp;omega
    ·simp;omega
    ·rw[hstep,hc];simp[jk1,jx9,qwc er,jzy]
 ·have hd:decide ((rooms.length:Int)<(K.length:Int))=false:=X9 (by omega);simp! only[qvr hu,hzl,hd,hlist,p0,kwm (o:=.no) (xs:=ss.map D.str) (by decide)];exact⟨K,rooms,rfl,hrun _ (.stop hlt)⟩
end F
noncomputable section
namespace F
open Q PySem C
theorem qv8{a b:D}(ha:At a)(hb:At b):peq a b=decide (a=b):=by
 rcases ha with rfl | ⟨i,rfl⟩<;>rcases hb with rfl | ⟨j,rfl⟩
 ·simp[peq]
 ·simp[peq]
 ·simp[peq]
 ·show(i==j)=_
  by_cases h:i=j
  ·subst h;simp
  ·rw[X9 (λz=>h (by injection z))];simpa using h
theorem vvr{K:List D}{p:D}:p∈jzq K p:=by
 unfold jzq
 split
 ·assumption
 ·simp
end F
noncomputable section
namespace F
open Q PySem C
structure Tx (n m:Nat)(d:D):Prop where
 fl:d.flat m=true
 sh:(D.dat d).showable=true
 ln:(D.dat d).shown.length<=n
theorem Tx.mono{n n' m:Nat}{d:D}(h:Tx n m d)(hn:n<=n'):Tx n' m d:=⟨h.fl,h.sh,by have:=h.ln;omega⟩
theorem txs{n m:Nat}:∀{ds:List D},(∀d∈ds,Tx n m d)->D.flats m ds=true/\PyData.showableAll (D.dats ds)=true/\piled (PyData.shownAll (D.dats ds))<=ds.length*(n+2)/\(PyData.shownAll (D.dats ds)).length=ds.length
 | [],_=>⟨rfl,rfl,by simp[D.dats,PyData.shownAll,piled],rfl⟩
 | d::ds,h=>by
  obtain⟨h1,h2,h3,h4⟩:=txs (ds:=ds) λd hd=>h d (lc9 _ hd)
  have hd:=h d X4;refine⟨?_,?_,?_,?_⟩
  ·show(D.flat m d&&D.flats m ds)=true;rw[hd.fl,h1];rfl
  ·show((D.dat d).showable&&PyData.showableAll (D.dats ds))=true;rw[hd.sh,h2];rfl
  ·show piled ((D.dat d).shown::PyData.shownAll (D.dats ds))<=_;rw[piled_cons,Xd,Nat.succ_mul];have:=hd.ln;omega
  ·show((D.dat d).shown::PyData.shownAll (D.dats ds)).length=_;rw[Xd,h4,Xd]
theorem qwh:∀(ts:List Str) (k:Nat) (acc:Str),(textFrom k acc ts).length<=acc.length+piled ts
 | [],_,acc=>by show acc.length<=acc.length+0;omega
 | t::ts,k,acc=>by
  have h:=qwh ts (k+1) (acc++(if k>0 then ", " else "":String)++t);rw[Str.length_append,Str.length_append]at h;have e:(((if k>0 then ", " else "":String):Str)).length<=2:=by split<;>decide +kernel
  rw[piled_cons];show(textFrom (k+1) (acc++(if k>0 then ", " else "":String)++t) ts).length<=_;omega
theorem kzc{n m c:Nat}{ds:List D}(h:∀d∈ds,Tx n m d)(hc:ds.length<=c):Tx (2+c*(n+2)) (m+1) (.lst ds):=by
 obtain⟨h1,h2,h3,h4⟩:=txs h;refine⟨h1,h2,?_⟩;show(textFrom 0 "[" (PyData.shownAll (D.dats ds))++("]":Str)).length<=_;rw[Str.length_append];have:=qwh (PyData.shownAll (D.dats ds)) 0 "[";have e1:("[":Str).length=1:=by decide +kernel
 have e2:("]":Str).length=1:=by decide +kernel
 have:ds.length*(n+2)<=c*(n+2):=Nat.mul_le_mul_right _ hc;omega
theorem kza{n m c:Nat}{ds:List D}(h:∀d∈ds,Tx n m d)(hc:ds.length<=c):Tx (3+c*(n+2)) (m+1) (.tup ds):=by
 obtain⟨h1,h2,h3,h4⟩:=txs h;refine⟨h1,h2,?_⟩;generalize hts:PyData.shownAll (D.dats ds)=ts at h3 h4;show(tupleText (PyData.shownAll (D.dats ds))).length<=_;rw[hts];unfold tupleText;rw[Str.length_append,Str.length_append];have e1:("(":Str).length=1:=by decide +kernel
 have e2:(((if ts.length==1 then ",)" else ")":String):Str)).length<=2:=by split<;>decide +kernel
 have e3:(Str.join ", " ts).length<=piled ts:=by
  cases ts with
  | nil=>exact Nat.le_of_eq rfl
  | cons a r =>
   have:=join_length_add (a::r) (by simp);omega
 have:ds.length*(n+2)<=c*(n+2):=Nat.mul_le_mul_right _ hc;omega
theorem qq1{i:Int}{m:Nat}(h0:0<=i)(h1:i<2048):Tx 10 m (.int i):=by
 obtain⟨n,rfl⟩:=Int.eq_ofNat_of_zero_le h0;have hn:n<2048:=by omega
 have key:∀k:Fin 2048,(PyData.int (k.val:Int)).showable=true/\(PyData.int (k.val:Int)).shown.length<=10:=by decide +kernel
 have:=key ⟨n,hn⟩;exact⟨by cases m<;>rfl,this.1,this.2⟩
theorem tx_bl{b:Bool}{m:Nat}:Tx 10 m (.bl b):=⟨by cases m<;>rfl,rfl,by cases b<;>decide +kernel⟩
def ltr:List Nat:=("abcdefghijklmnopqrstuvwxyz":Str).cps.toList
def Sg(z:Str):Prop:=z.cps.size<=8/\∀c∈z.cps.toList,c∈ltr
theorem vvt:∀c∈ltr,(Builtin.Str.reprChar 39 c).length=1/\(Builtin.Str.reprChar 34 c).length=1:=by decide +kernel
theorem qjf{q:Nat}:∀{l:List Nat} {n:Nat},(∀c∈l,(Builtin.Str.reprChar q c).length=1)->l.foldl (λn c=>n+(Builtin.Str.reprChar q c).length) n=n+l.length
 | [],n,_=>rfl
 | c::l,n,h=>by
  rw[Yh,qjf λc hc=>h c (lc9 _ hc),h c X4,Xd];omega
theorem vxj{z:Str}{m:Nat}(h:Sg z):Tx 10 m (.str z):=by
 refine⟨by cases m<;>rfl,rfl,?_⟩;show(reprText z).length<=10;rw[<-reprLen_eq,<-Array.foldl_toList];have hq:∀c∈z.cps.toList,(Builtin.Str.reprChar (reprQuote z) c).length=1:=λc hc=>by
  have:=vvt c (h.2 c hc);unfold reprQuote
  split
  ·exact this.2
  ·exact this.1
 rw[qjf hq];have:=h.1;rw[Y7];omega
theorem vxh{i:Int}(h:D.int i∈V4):0<=i/\i<2048:=by
 simp[V4]at h;omega
theorem qwi:∀{ks:List D} {acc:List Int} {i:Int},i∈ks.foldl insI acc->i∈acc\/D.int i∈ks
 | [],_,_,h=>.inl h
 | k :: ks,acc,i,h=>by
  rw [Yh]at h;rcases qwi h with z | z
  ·unfold insI at z
   split at z
   ·split at z
    ·exact .inl z
    ·rcases List.mem_append.mp z with y | y
     ·exact .inl y
     ·rw[List.mem_singleton.mp y];exact .inr X4
   ·exact .inl z
  ·exact .inr (lc9 _ z)
theorem vk7{ks:List D}{i:Int}(h:i∈jk5 ks):D.int i∈ks:=by
 rcases qwi h with z | z
 ·cases z
 ·exact z
theorem wqm{ns:List Int}{m:Nat}(h:∀i∈ns,0<=i/\i<2048)(hl:ns.length<=3):Tx 39 (m+1) (iT ns):=kza (n:=10) (c:=3) (λd hd=>by
 obtain⟨i,hi,rfl⟩:=List.mem_map.mp hd;exact qq1 (h i hi).1 (h i hi).2) (by simpa using hl)
theorem vq5{kps:List Int}{K:List D}{d:D}{m:Nat}(hk4:kps.length<=4)(h3:∀k∈kps,k<=3)(hK:Kin kps V4 K)(hd:d=.non\/SokV kps V4 d):Tx 85 (m+2) (jkw K d).2:=by
 rcases hd with rfl | hd
 ·refine⟨rfl,rfl,?_⟩;show(PyData.none).shown.length<=85;decide +kernel
 ·have hin:=kj8 h3 hK (.inr hd);obtain⟨room,ks,rfl,r0,r1,hl,ha,hV⟩:=id hd;have hl3:=(jqd h3 hd).2;have hlen:=vkc hin hk4 h3 (by decide);have hix:(jzq K (.tup [.int room,.tup (pr ks)])).idxOf (.tup [.int room,.tup (pr ks)])<(jzq K (.tup [.int room,.tup (pr ks)])).length:=List.idxOf_lt_length_of_mem vvr;have hlen:(jzq K (.tup [.int room,.tup (pr ks)])).length<=1036:=hlen;have hnl:=jqt ks;show Tx 85 (m+2) (.tup [.int _,iT (jk5 ks)]);refine kza (n:=39) (c:=2) (λd hd=>?_) (by simp);simp only[Xu,Xm,or_false]at hd;rcases hd with rfl | rfl
  ·exact(qq1 (by omega) (by omega)).mono (by omega)
  ·exact wqm (λi hi=>vxh (hV _ (vk7 hi))) (by omega)
theorem kzd{ss:List Str}{rs:List D}{kps:List Int}{s:D}{z:Str}{m:Nat}(hR:Rms rs)(hx:Rx ss kps rs)(hk4:kps.length<=4)(h3:∀k∈kps,k<=3)(hs:SokV kps V4 s):∀{ps K:List D} {r:List D×List D},(∀d∈ps,d∈V4)->Kin kps V4 K->jk2 rs s z ps K=some r->Kin kps V4 r.1/\r.2.length=ps.length/\∀c∈r.2,Tx 85 (m+2) c
 | [],K,r,_,hK,h=>by rw[jk2]at h;cases h;exact⟨hK,rfl,λc hc=>nomatch hc⟩
 | .int p::ps,K,r,hp,hK,h=>by
  rw[jk2]at h
  split at h
  ·cases h
  ·rename_i d hob;obtain⟨q,hq,rfl⟩:=Option.map_eq_some_iff.mp h;have hd:=qzr hR hx hs (hp _ X4) hob;obtain⟨a1,a2,a3⟩:=kzd (m:=m) hR hx hk4 h3 hs (λd hd=>hp d (lc9 _ hd)) (kj8 h3 hK hd) hq;refine⟨a1,by simp[a2],λc hc=>?_⟩;rcases List.mem_cons.mp hc with rfl | hc
   ·exact vq5 hk4 h3 hK hd
   ·exact a3 c hc
 | .non::_,_,_,_,_,h=>by cases h
 | .bl _::_,_,_,_,_,h=>by cases h
 | .str _::_,_,_,_,_,h=>by cases h
 | .tup _::_,_,_,_,_,h=>by cases h
 | .lst _::_,_,_,_,_,h=>by cases h
 | .dct _::_,_,_,_,_,h=>by cases h
 | .obj _ _::_,_,_,_,_,h=>by cases h
theorem kzb{ss:List Str}{rs:List D}{kps:List Int}{s:D}{m:Nat}(hR:Rms rs)(hx:Rx ss kps rs)(hk4:kps.length<=4)(h3:∀k∈kps,k<=3)(hs:SokV kps V4 s):∀{zs:List Str} {K:List D} {r:List D×List D},Kin kps V4 K->jk1 rs s zs K=some r->Kin kps V4 r.1/\r.2.length=zs.length/\∀c∈r.2,Tx 350 (m+3) c
 | [],K,r,hK,h=>by rw[jk1]at h;cases h;exact⟨hK,rfl,λc hc=>nomatch hc⟩
 | z::zs,K,r,hK,h=>by
  rw[jk1]at h
  split at h
  ·cases h
  ·rename_i q hq;obtain⟨q2,hq2,rfl⟩:=Option.map_eq_some_iff.mp h;have hkl:(jk5 (jzy s)).length<=3:=by
    obtain⟨room,ks,rfl,_⟩:=id hs;have:=(jqd h3 hs).2;have:=jqt ks;rw[jqx];omega
   have hpv:∀d∈jj4 0 (((jk5 (jzy s)).length:Int)+1),d∈V4:=λd hd=>by
    unfold jj4 at hd;obtain⟨i,hi,rfl⟩:=List.mem_map.mp hd;have hi:=List.mem_range.mp hi;have:i=0\/i=1\/i=2\/i=3:=by omega
    rcases this with rfl | rfl | rfl | rfl<;>simp[V4]
   obtain⟨a1,a2,a3⟩:=kzd (m:=m) hR hx hk4 h3 hs hpv hK hq;obtain⟨b1,b2,b3⟩:=kzb (m:=m) hR hx hk4 h3 hs a1 hq2;refine⟨b1,by simp[b2],λc hc=>?_⟩;rcases List.mem_cons.mp hc with rfl | hc
   ·refine kzc (n:=85) (c:=4) a3 ?_;rw[a2];unfold jj4;rw[X3,Ya];omega
   ·exact b3 c hc
theorem vq3{ss:List Str}{rs:List D}{kps:List Int}{s:D}{st:List D}{m:Nat}(hx:Rx ss kps rs)(h3:∀k∈kps,k<=3)(hs:SokV kps V4 s)(hl:st.length<=3)(hst:∀c∈st,Tx 350 (m+3) c):Tx 3183 (m+5) (jx9 rs s st):=by
 obtain⟨room,ks,rfl,r0,r1,hkl,ha,hV⟩:=id hs;have hl3:=(jqd h3 hs).2;have hnl:=jqt ks;obtain⟨gd,ss',er,_⟩:=hx.2 room.toNat (by omega);have hg:goodD rs (.tup [.int room,.tup ks])=.bl gd:=qwc er;unfold jx9;rw[hg,jqx];refine kza (n:=1058) (c:=3) (λd hd=>?_) (by simp);simp only[Xu,Xm,or_false]at hd;rcases hd with rfl | rfl | rfl
 ·exact(qq1 (by omega) (by omega)).mono (by omega)
 ·exact tx_bl.mono (by omega)
 ·exact kzc (n:=350) (c:=3) hst hl
theorem vxk{ss:List Str}{rs:List D}{kps:List Int}{m:Nat}(hs3:ss.length<=3)(hR:Rms rs)(hx:Rx ss kps rs)(hk4:kps.length<=4)(h3:∀k∈kps,k<=3){K rooms:List D}{r:Option (List D×List D)}(h:Run ss rs K rooms r):
  Kin kps V4 K->rooms.length<=K.length->(∀d∈rooms,Tx 3183 (m+5) d)->∀q,r=some q->Kin kps V4 q.1/\q.2.length<=q.1.length/\∀d∈q.2,Tx 3183 (m+5) d:=by
 induction h with
 | stop h=>intro hK hl ht q e;cases e;exact⟨hK,hl,ht⟩
 | fail=>intro _ _ _ q e;cases e
 | @go K rooms K' rooms' r hlt e _ ih =>
  intro hK hl ht q eq;unfold kja at e;obtain⟨p,hp,e2⟩:=Option.map_eq_some_iff.mp e;have hs:SokV kps V4 (K.getD rooms.length .non):=hK.2 _ (by rw[X2,X0 hlt];exact Xk _);obtain⟨a1,a2,a3⟩:=kzb (m:=m) hR hx hk4 h3 hs hK hp;have hg:=kje hp;cases e2;refine ih a1 (by simp;omega) (λd hd=>?_) q eq;rcases List.mem_append.mp hd with z | z
  ·exact ht d z
  ·rw[List.mem_singleton.mp z];exact vq3 hx h3 hs (by omega) a3
end F
noncomputable section
namespace F
open Q PySem C
section
variable {rs:List D}{ss:List Str}{I:D->Prop}
def vjl(rs:List D)(ss:List Str)(I:D->Prop):Prop:=∀s,I s->∀z∈ss,∀p:Int,D.int p∈jj4 0 ((jk5 (jzy s)).length+1)->∃d,obD rs s z p=some d/\(d=.non\/∃room ks,d=.tup [room,.tup ks]/\I (.tup [room,.tup (pr ks)]))
theorem vwa{K:List D}{p:D}(hK:∀k∈K,I k)(hp:I p):∀k∈jzq K p,I k:=λk hk=>by
 unfold jzq at hk
 split at hk
 ·exact hK k hk
 ·rcases List.mem_append.mp hk with z | z
  ·exact hK k z
  ·rw[List.mem_singleton.mp z];exact hp
theorem kqe(hI:vjl rs ss I){s:D}{z:Str}(hs:I s)(hz:z∈ss):∀{ps K:List D},(∀d∈ps,∃p:Int,d=.int p/\d∈jj4 0 ((jk5 (jzy s)).length+1))->(∀k∈K,I k)->∃r,jk2 rs s z ps K=some r/\∀k∈r.1,I k
 | [],K,_,hK=>⟨(K,[]),rfl,hK⟩
 | d::ps,K,hp,hK=>by
  obtain⟨p,rfl,hpr⟩:=hp d X4;obtain⟨d,hd,hdi⟩:=hI s hs z hz p hpr;have hK2:∀k∈(jkw K d).1,I k:=by
   rcases hdi with rfl | ⟨room,ks,rfl,hi⟩
   ·exact hK
   ·exact vwa hK hi
  obtain⟨r,hr,hk⟩:=kqe hI hs hz (λd hd=>hp d (lc9 _ hd)) hK2;exact⟨(r.1,(jkw K d).2::r.2),by rw[jk2,hd];dsimp only;rw[hr];rfl,hk⟩
theorem jxx(hI:vjl rs ss I){s:D}(hs:I s):∀{zs:List Str} {K:List D},(∀z∈zs,z∈ss)->(∀k∈K,I k)->∃r,jk1 rs s zs K=some r/\∀k∈r.1,I k
 | [],K,_,hK=>⟨(K,[]),rfl,hK⟩
 | z::zs,K,hz,hK=>by
  obtain⟨r,hr,hk⟩:=kqe hI hs (hz z X4) (ps:=jj4 0 ((jk5 (jzy s)).length+1)) (λd hd=>by
   obtain⟨i,_,_,rfl⟩:=jqu hd;exact⟨i,rfl,hd⟩) hK
  obtain⟨q,hq,hk2⟩:=jxx hI hs (zs:=zs) (λz h=>hz z (lc9 _ h)) hk;exact⟨(q.1,.lst r.2::q.2),by rw[jk1,show kqf rs s z K=some r from hr];dsimp only;rw[hq];rfl,hk2⟩
theorem qz8(hI:vjl rs ss I){K rooms:List D}{r:Option (List D×List D)}(h:Run ss rs K rooms r):(∀k∈K,I k)->∃q,r=some q/\∀k∈q.1,I k:=by
 induction h with
 | stop h=>intro hK;exact⟨_,rfl,hK⟩
 | @fail K rooms hlt e =>
  intro hK;have hs:=hK (K.getD rooms.length .non) (by rw[X2,X0 hlt];exact Xk _);obtain⟨r,hr,_⟩:=jxx hI hs (λz h=>h) hK;unfold kja at e;rw[hr]at e;cases e
 | @go K rooms K' rooms' r hlt e _ ih =>
  intro hK;have hs:=hK (K.getD rooms.length .non) (by rw[X2,X0 hlt];exact Xk _);obtain⟨r,hr,hk⟩:=jxx hI hs (λz h=>h) hK;unfold kja at e;rw[hr]at e;cases e;exact ih hk
end
end F
noncomputable section
namespace F
open Q PySem C
theorem kxn{i:Int}{d:D}(h:At d):peq d (.int i)=decide (d=.int i):=qv8 h (.inr ⟨i,rfl⟩)
theorem kk5{ks:List D}{p i:Int}(hk:∀k∈ks,At k)(h0:0<=i)(h1:i<ks.length)(hf:kq6 ks (.int p) (.str "fresh")=true)(hi:kq6 ks (.int p) (.int i)=true):False:=by
 have hf:(!ks.any λz=>peq z (.int p))=true:=by
  unfold kq6 at hf;dsimp only at hf
  rwa [Xf rfl]at hf
 have hi:peq (ks.getD i.toNat .non) (.int p)=true:=hi;rw[Bool.not_eq_true']at hf;have hm:=jw6 ks i h0 h1;rw[List.any_eq_false]at hf;exact hf _ hm hi
theorem qxr{ks:List D}{p i j:Int}(hk:∀k∈ks,At k)(h0:0<=i)(h1:i<ks.length)(h2:0<=j)(h3:j<ks.length)(hi:kq6 ks (.int p) (.int i)=true)(hj:kq6 ks (.int p) (.int j)=true):ks.getD i.toNat .non=.int p/\ks.getD j.toNat .non=.int p:=by
 have hi:peq (ks.getD i.toNat .non) (.int p)=true:=hi;have hj:peq (ks.getD j.toNat .non) (.int p)=true:=hj;rw[kxn (hk _ (jw6 ks i h0 h1))]at hi;rw[kxn (hk _ (jw6 ks j h2 h3))]at hj;exact⟨Ym hi,Ym hj⟩
def vx6(ks:List D):Prop:=∀i j:Nat,∀p:Int,ks[i]?=some (.int p)->ks[j]?=some (.int p)->i=j
theorem vvn{ks:List D}(h:vx6 ks):vx6 (pr ks):=λi j p hi hj=>by
 unfold pr at hi hj;rw[Xi]at hi hj;obtain⟨a,ha,ea⟩:=Option.map_eq_some_iff.mp hi;obtain⟨b,hb,eb⟩:=Option.map_eq_some_iff.mp hj;have key:∀{d:D} {q:Int},d∈ks->plc (jk5 ks) d=.int q->∃x:Int,d=.int x/\x∈jk5 ks/\((jk5 ks).findIdx (λw=>w==x):Int)=q:=fun {d q} hd e=>by
  unfold plc at e
  split at e
  ·rename_i x;injection e with e;exact⟨x,rfl,qj4 hd,e⟩
  ·rename_i hne;exact absurd e (hne q)
 obtain⟨x,rfl,hx,ex⟩:=key (Xp ha) ea;obtain⟨y,rfl,hy,ey⟩:=key (Xp hb) eb;have e:(jk5 ks).findIdx (λw=>w==x)=(jk5 ks).findIdx (λw=>w==y):=by omega
 have gx:=jwy hx;have gy:=jwy hy;have h1:(jk5 ks)[(jk5 ks).findIdx (λw=>w==x)]'gx=x:=by simpa using List.findIdx_getElem (p:=λw=>w==x) (w:=gx)
 have h2:(jk5 ks)[(jk5 ks).findIdx (λw=>w==y)]'gy=y:=by simpa using List.findIdx_getElem (p:=λw=>w==y) (w:=gy)
 have hxy:x=y:=by
  rw[<-h1,<-h2]
  congr 1
 subst hxy;exact h i j x ha hb
def FA(g:D)(fs:List D):Prop:=(∀(i j:Nat) (f:D),f≠.non->fs[i]?=some f->fs[j]?=some f->i=j)/\(D.str "new"∈fs->g≠.str "any"/\g∉fs)
theorem kxp{ks fs:List D}{p:Int}{g:D}(hk:∀k∈ks,At k)(ho:vx6 ks)(hg:Gd ks.length g)(hfit:kq6 ks (.int p) g=true)(hf:∀f∈fs,Fd ks.length f)(ha:FA g fs):vx6 (fs.map (jwg ks (.int p))):=λi j q hi hj=>by
 rw[Xi]at hi hj;obtain⟨a,h1,ea⟩:=Option.map_eq_some_iff.mp hi;obtain⟨b,h2,eb⟩:=Option.map_eq_some_iff.mp hj;have at_:∀{n:Int},0<=n->n<ks.length->∀{x:D},ks.getD n.toNat .non=x->ks[n.toNat]?=some x:=fun {n} n0 n1 {x} e=>by
  have:n.toNat<ks.length:=by omega
  rw[X0 this,<-e,X2,X0 this];rfl
 have mix:∀{n:Int},0<=n->n<ks.length->D.str "new"∈fs->D.int n∈fs->ks.getD n.toNat .non=.int p->False:=fun {n} n0 n1 hn hm e=>by
  obtain⟨c1,c2⟩:=ha.2 hn;rcases hg with rfl | rfl | ⟨c,c0,c3,rfl⟩
  ·exact kk5 hk n0 n1 hfit (by show peq (ks.getD n.toNat .non) (.int p)=true;rw[e];simp[peq])
  ·exact c1 rfl
  ·have hc:peq (ks.getD c.toNat .non) (.int p)=true:=hfit;rw[kxn (hk _ (jw6 ks c c0 c3))]at hc;have:=ho _ _ p (at_ c0 c3 (Ym hc)) (at_ n0 n1 e);have:c=n:=by omega
   subst this;exact c2 hm
 have hfa:=hf a (Xp h1);have hfb:=hf b (Xp h2);rcases hfa with rfl | rfl | ⟨x,x0,x1,rfl⟩
 ·have ea:D.int p=.int q:=ea;injection ea with ea;subst ea;rcases hfb with rfl | rfl | ⟨y,y0,y1,rfl⟩
  ·exact ha.1 i j (.str "new") (λz=>nomatch z) h1 h2
  ·cases(show D.non=.int p from eb)
  ·exact(mix y0 y1 (Xp h1) (Xp h2) eb).elim
 ·cases(show D.non=.int q from ea)
 ·rcases hfb with rfl | rfl | ⟨y,y0,y1,rfl⟩
  ·have eb:D.int p=.int q:=eb;injection eb with eb;subst eb;exact(mix x0 x1 (Xp h2) (Xp h1) ea).elim
  ·cases(show D.non=.int q from eb)
  ·have:=ho _ _ q (at_ x0 x1 ea) (at_ y0 y1 eb);have:x=y:=by omega
   subst this;exact ha.1 i j (.int x) (λz=>nomatch z) h1 h2
end F
noncomputable section
namespace F
open Q PySem C
theorem qwp{p:D->Bool}:∀{st:List D} {k:Nat} {c:D},c∈jkz p k st->∃(j:Nat) (a:D),st[j]?=some a/\p a=true
 | [],_,_,h=>by cases h
 | d::st,k,c,h=>by
  unfold jkz at h
  split at h
  ·rename_i hp;exact⟨0,d,rfl,hp⟩
  ·obtain⟨j,a,h1,h2⟩:=qwp h;exact⟨j+1,a,by simpa using h1,h2⟩
theorem qwo{p:D->Bool}:∀{st:List D} {k:Nat} {c1 c2:D} {r:List D},jkz p k st=c1::c2::r->∃(i j:Nat) (a b:D),i<j/\st[i]?=some a/\st[j]?=some b/\p a=true/\p b=true
 | [],_,_,_,_,h=>by cases h
 | d::st,k,c1,c2,r,h=>by
  unfold jkz at h
  split at h
  ·rename_i hp;injection h with _ h;obtain⟨j,b,h1,h2⟩:=qwp (show c2∈jkz p (k+1) st by rw[h];exact X4);exact⟨0,j+1,d,b,by omega,rfl,by simpa using h1,hp,h2⟩
  ·obtain⟨i,j,a,b,h1,h2,h3,h4⟩:=qwo h;exact⟨i+1,j+1,a,b,by omega,by simpa using h2,by simpa using h3,h4⟩
theorem vkf{p:D->Bool}:∀{st:List D} {k j:Nat},D.int j∈jkz p k st->k<=j/\∃a,st[j - k]?=some a/\p a=true
 | [],_,_,h=>by cases h
 | d::st,k,j,h=>by
  have jkp:D.int j∈jkz p (k+1) st->k<=j/\∃a,(d::st)[j - k]?=some a/\p a=true:=λh=>by
   obtain⟨h1,a,h2,h3⟩:=vkf h;exact⟨by omega,a,by rw[show j - k=(j - (k+1))+1 by omega,List.getElem?_cons_succ];exact h2,h3⟩
  unfold jkz at h
  split at h
  ·rename_i hp;rcases List.mem_cons.mp h with e | h
   ·injection e with e;have:j=k:=by omega
    subst this;exact⟨X8 _,d,by simp,hp⟩
   ·exact jkp h
  ·exact jkp h
def Cpt(ap:Bool)(g g':D):Prop:=(g=.str "fresh"/\∃i,g'=.int i)\/(g'=.str "fresh"/\∃i,g=.int i)\/(ap=true/\∃i j:Int,g=.int i/\g'=.int j/\i≠j)
def wq5(ap:Bool)(st:List D):Prop:=(∀(i j:Nat) (z:Str) (g g' t t' f f':D),i<j->st[i]?=some (.tup [.str z,g,t,f])->st[j]?=some (.tup [.str z,g',t',f'])->Cpt ap g g')/\(ap=true->∀(z:Str) (g t:D) (fs:List D),D.tup [.str z,g,t,.tup fs]∈st->FA g fs)
def Sgl(ap:Bool)(rs:List D):Prop:=∀(k g:D) (st:List D),D.tup [k,g,.lst st]∈rs->wq5 ap st
theorem wkq{ap:Bool}{ks:List D}{p:Int}{g g':D}(hk:∀k∈ks,At k)(ho:ap=true->vx6 ks)(hg:Gd ks.length g)(hg':Gd ks.length g')(h:Cpt ap g g')(h1:kq6 ks (.int p) g=true)(h2:kq6 ks (.int p) g'=true):False:=by
 have rng:∀{i:Int},Gd ks.length (.int i)->0<=i/\i<ks.length:=fun {i} h=>by
  rcases h with h | h | ⟨j,a,b,e⟩
  ·cases h
  ·cases h
  ·injection e with e;subst e;exact⟨a,b⟩
 rcases h with⟨rfl,i,rfl⟩| ⟨rfl,i,rfl⟩| ⟨ha,i,j,rfl,rfl,hne⟩
 ·exact kk5 hk (rng hg').1 (rng hg').2 h1 h2
 ·exact kk5 hk (rng hg).1 (rng hg).2 h2 h1
 ·obtain⟨a0,a1⟩:=rng hg;obtain⟨b0,b1⟩:=rng hg';obtain⟨e1,e2⟩:=qxr hk a0 a1 b0 b1 h1 h2;have at_:∀{n:Int},0<=n->n<ks.length->∀{x:D},ks.getD n.toNat .non=x->ks[n.toNat]?=some x:=fun {n} n0 n1 {x} e=>by
   have:n.toNat<ks.length:=by omega
   rw[X0 this,<-e,X2,X0 this];rfl
  have:=ho ha _ _ p (at_ a0 a1 e1) (at_ b0 b1 e2);omega
theorem qzw{ap:Bool}{ss:List Str}{rs:List D}{kps:List Int}(hR:Rms rs)(hx:Rx ss kps rs)(h3:∀k∈kps,k<=3)(hS:Sgl ap rs):vjl rs ss (λs=>SokV kps V4 s/\(ap=true->vx6 (jzy s))):=by
 rintro s ⟨hs,ho⟩ z hz p hp;obtain⟨room,ks,st,gd,rfl,r0,er,hst,hka,hsx,hsl⟩:=kqr hR hx hs.ok;rw [jqx]at ho hp;have hl3:=(jqd h3 hs).2;have hnl:=jqt ks;have hpV:D.int p∈V4:=by
  obtain⟨i,i0,i1,e⟩:=jqu hp;injection e with e;subst e;have:p=0\/p=1\/p=2\/p=3:=by omega
  rcases this with rfl | rfl | rfl | rfl<;>simp[V4]
 have hnx:kv8 rs (z,p) (.tup [.int room,.tup ks])=(jkz (kks z ks (.int p)) 0 st).map (bh ks st p):=by unfold kv8;rw[qxx er,jqx]
 have hSr:=hS _ _ _ (Xp er);have hcond:∀{a:D},a∈st->kks z ks (.int p) a=true->∃(g:D) (to:Int) (fs:List D),a=.tup [.str z,g,.int to,.tup fs]/\Gd ks.length g/\kq6 ks (.int p) g=true/\∀f∈fs,Fd ks.length f:=fun {a} ha hc=>by
  obtain⟨w,g,to,fs,rfl,hg,hf,_⟩:=hst a ha;have hc:((w==z)&&kq6 ks (.int p) g)=true:=hc;rw[Bool.and_eq_true]at hc;have hw:w=z:=by simpa using hc.1
  subst hw;exact⟨g,to,fs,rfl,hg,hc.2,hf⟩
 unfold obD;rw [hnx];cases hf:jkz (kks z ks (.int p)) 0 st with
 | nil=>exact⟨.non,rfl,.inl rfl⟩
 | cons c r =>
  cases r with
  | cons c2 r2 =>
   obtain⟨i,j,a,b,hij,ha,hb,ca,cb⟩:=qwo hf;obtain⟨g,to,fs,rfl,hg,hfg,_⟩:=hcond (Xp ha) ca;obtain⟨g',to',fs',rfl,hg',hfg',_⟩:=hcond (Xp hb) cb;exact(wkq hka ho hg hg' (hSr.1 i j z g g' _ _ _ _ hij ha hb) hfg hfg').elim
  | nil =>
   obtain⟨j,rfl,_,hj⟩:=kws (show c∈jkz (kks z ks (.int p)) 0 st by rw[hf];exact X4);have hj:j<st.length:=by omega
   have hb:=kjd (p:=p) (V:=V4) hst hka (by
    obtain⟨room',ks',e,_,_,_,_,hV⟩:=hs;injection e with e;injection e with e1 e;injection e with e2 _;injection e2 with e2;subst e2;exact hV) (by simp[V4]) hpV hsx hj
   refine⟨jqv ks (.int p) st[j],by rw[List.map_cons,List.map_nil,vjh hj],.inr ?_⟩;obtain⟨_,a,ha,hpa⟩:=vkf (show D.int j∈jkz (kks z ks (.int p)) 0 st by rw[hf];exact X4);rw[Nat.sub_zero,X0 hj]at ha;cases oq9 ha;obtain⟨g,to,fs,e,hg,hfg,hff⟩:=hcond (Xk hj) hpa;rw[e]at hb ⊢;have hb:SokV kps V4 (.tup [.int to,.tup (fs.map (jwg ks (.int p)))]):=hb;refine⟨.int to,fs.map (jwg ks (.int p)),rfl,(jqd h3 hb).1,λhap=>?_⟩;rw[jqx];exact vvn (kxp hka (ho hap) hg hfg hff (hSr.2 hap z g (.int to) fs (by rw[<-e];exact Xk hj)))
end F
noncomputable section
namespace F
open Q PySem C
def jks:Fn:=fn 4
  (jjc (sIf (tE (cF2 (pu2 fEq) (jjb (vV 0) (vE (cC (.int 0)))) (vE (cC (.int 1))))) (jkd (jv0 .rt [(cC (.str "any"))])) jjw)
  (jjc (jjk 3 (jv0 .rt []))
  (jjc (sIf (tOr (tE (cF2 (pu2 fGt) (jjb (vV 0) (vE (cC (.int 0)))) (vE (cC (.int 2))))) (tAnd (tE (cF2 (pu2 fEq) (vV 1) (vE (cC (.int 0))))) (tE (cF2 (pu2 fGt) (jjb (vV 0) (vE (cC (.int 0)))) (vE (cC (.int 0))))))) (jke jvn 3 (cC (.str "fresh"))) jjw)
  (jjc (sIf (tAnd (tE (cF2 (pu2 fGt) (vV 1) (vE (cC (.int 0))))) (tE (cF2 (pu2 fGt) (jjb (vV 0) (vE (cC (.int 0)))) (vE (cC (.int 1)))))) (jjc (jke jvn 3 (cF2 (pu2 jv9) (jjb (vV 0) (vE (cC (.int 1)))) (vV 1)))
  (sIf (tEQ (vV 2)) (jjk 3 (cF2 jk7 (vV 3) (vE (cLC .rt 1 [3,0] (kkk (vV 1)) (.n 0) (tAnd (tE (cF2 (pu2 jkt) (vV 0) (vV 1))) (tE (cF2 (pu2 fEq) (jjb (vV 2) (vE (cF2 jk7 (vE (cC (.int 2))) (vV 0)))) (vE (cC (.int 1)))))) (cV 0))))) jjw)) jjw)
  (jjc (sIf (tE (cF2 (pu2 fEq) (jjb (vV 0) (vE (cC (.int 5)))) (vE (cC (.int 1))))) (vjp 3) jjw)
  (jkd (cMv 3)))))))
theorem vjb{ap:Bool}{g g':D}(h:Cpt ap g g'):Cpt ap g' g:=by
 rcases h with⟨a,b⟩| ⟨a,b⟩| ⟨a,i,j,b,c,d⟩
 ·exact .inr (.inl ⟨a,b⟩)
 ·exact .inl ⟨a,b⟩
 ·exact .inr (.inr ⟨a,j,i,c,b,λz=>d z.symm⟩)
def qkv(ap:Bool)(here:Int)(as:List D):Prop:=as.Pairwise (Cpt ap)/\(∀a∈as,Gd here a)/\as.length<=4
theorem vjj{ap:Bool}{here:Int}{as:List D}(h:qkv ap here as):qkv ap here as.reverse:=⟨by rw[List.pairwise_reverse];exact h.1.imp vjb,λa ha=>h.2.1 a (List.mem_reverse.mp ha),by rw[List.length_reverse];exact h.2.2⟩
theorem vv5{u:Ts}{a b:Sm}{E:En}{N C:En->Prop}{R:Sd->Prop}{X:XP}(h:Eo (u E) (λE' k=>E'=E/\k=false) X)(h2:Po (b E) N C R X):Po (jjc (sIf u a jjw) b E) N C R X:=by
 rw[vjx];unfold sIf;rw[kjo];refine h.mono ?_;rintro E' k ⟨rfl,rfl⟩;show Po (jjw E') _ _ _ _;unfold jjw;rw[vv6];exact h2
theorem wkn{N C:En->Prop}{ap:Bool}{here y5:Int}{ys:List Int}{as:List D}{o0 o1 o2:Own}(f5:jva (iL ys) (.int 5)=some (.int y5))(h:qkv ap here as):
  Po ((jjc (sIf (tE (cF2 (pu2 fEq) (jjb (vV 0) (vE (cC (.int 5)))) (vE (cC (.int 1))))) (vjp 3) jjw) (jkd (cMv 3))) [some (o0,iL ys),some (o1,.int here),some (o2,.bl ap),some (.rt,.lst as)]) N C (λy=>∃as,y=(.rt,.lst as)/\qkv ap here as) noX:=by
 cases hq:(y5==1)with
 | true =>
  simp! only[f5,jvo,hq];refine vz3 rfl ?_;simp! only[];exact⟨_,rfl,vjj h⟩
 | false =>
  simp! only[f5,jvo,hq];exact⟨_,rfl,h⟩
theorem qvk{fs:List D}{a k:Int}(hf:fs=[]\/fs=[.str "fresh"]):jkt (.int k) (.lst (fs++[.int a]))=some (.bl (!(a==k))):=by
 rcases hf with rfl | rfl
 ·show some (D.bl (!((a==k)||false)))=_;rw[Bool.or_false]
 ·show some (D.bl (!(false||((a==k)||false))))=_;rw[Bool.false_or,Bool.or_false]
def Ups(a n:Int)(xs:List D):Prop:=xs.Pairwise (λx y=>∃i j:Int,x=.int i/\y=.int j/\i<j)/\∀x∈xs,∃i:Int,x=.int i/\0<=i/\i<n/\i≠a
theorem qxq{here a:Int}{fs xs:List D}(hf:fs=[]\/fs=[.str "fresh"])(ha0:0<=a)(ha1:a<here)(hx:Ups a here xs)(hl:xs.length<=2):qkv true here (fs++[.int a]++xs):=by
 have hxs:∀x∈xs,∃i:Int,x=.int i/\0<=i/\i<here/\i≠a:=hx.2;have core:([D.int a]++xs).Pairwise (Cpt true):=by
  rw[Y9,List.pairwise_cons];refine⟨λx hx'=>?_,hx.1.imp fun {x y} ⟨i,j,e1,e2,h⟩=>.inr (.inr ⟨rfl,i,j,e1,e2,by omega⟩)⟩;obtain⟨i,rfl,_,_,h⟩:=hxs x hx';exact .inr (.inr ⟨rfl,a,i,rfl,rfl,λz=>h z.symm⟩)
 have gds:∀x∈[D.int a]++xs,Gd here x:=λx hx'=>by
  rcases List.mem_append.mp hx' with z | z
  ·rw[List.mem_singleton.mp z];exact .inr (.inr ⟨a,ha0,ha1,rfl⟩)
  ·obtain⟨i,rfl,h0,h1,_⟩:=hxs x z;exact .inr (.inr ⟨i,h0,h1,rfl⟩)
 rw [Xr];rcases hf with rfl | rfl
 ·exact⟨core,gds,by simp;omega⟩
 ·refine⟨?_,λx hx'=>?_,by simp;omega⟩
  ·rw[Y9,List.pairwise_cons];refine⟨λx hx'=>.inl ⟨rfl,?_⟩,core⟩;rcases List.mem_append.mp hx' with z | z
   ·exact⟨a,List.mem_singleton.mp z⟩
   ·obtain⟨i,e,_⟩:=hxs x z;exact⟨i,e⟩
  ·rcases List.mem_append.mp hx' with z | z
   ·rw[List.mem_singleton.mp z];exact .inl rfl
   ·exact gds x z
theorem qzp{here a:Int}{fs:List D}{ap:Bool}(hf:fs=[]\/fs=[.str "fresh"])(ha0:0<=a)(ha1:a<here):qkv ap here (fs++[.int a]):=by
 rcases hf with rfl | rfl
 ·exact⟨by simp,λx hx=>by rw[List.mem_singleton.mp hx];exact .inr (.inr ⟨a,ha0,ha1,rfl⟩),by simp⟩
 ·refine⟨?_,λx hx=>?_,by simp⟩
  ·simp only[Y9,List.pairwise_cons,List.mem_singleton,Xm];exact⟨λx hx=>.inl ⟨rfl,a,hx⟩,λ_ h=>h.elim,.nil⟩
  ·rcases List.mem_append.mp hx with z | z
   ·rw[List.mem_singleton.mp z];exact .inl rfl
   ·rw[List.mem_singleton.mp z];exact .inr (.inr ⟨a,ha0,ha1,rfl⟩)
theorem kwk{here:Int}{fs:List D}{ap:Bool}(hf:fs=[]\/fs=[.str "fresh"]):qkv ap here fs:=by
 rcases hf with rfl | rfl
 ·exact⟨.nil,(λ_ h=>nomatch h),by simp⟩
 ·exact⟨by simp,λx hx=>by rw[List.mem_singleton.mp hx];exact .inl rfl,by simp⟩
theorem wjs{en:Sm}{ap:Bool}{here y0 y1:Int}{ys:List Int}{fs:List D}{o0 o1 o2:Own}{N C:En->Prop}{R:Sd->Prop}(hh0:0<=here)(hh3:here<=3)(f0:jva (iL ys) (.int 0)=some (.int y0))(f1:jva (iL ys) (.int 1)=some (.int y1))(f2:∀k:Int,0<=k->k<3->∃v,jva (iL ys) (.int (2+k))=some (.int v))(hf:fs=[]\/fs=[.str "fresh"])
  (hen:∀as,qkv ap here as->Po (en [some (o0,iL ys),some (o1,.int here),some (o2,.bl ap),some (.rt,.lst as)]) N C R noX):
  Po ((jjc (sIf (tAnd (tE (cF2 (pu2 fGt) (vV 1) (vE (cC (.int 0))))) (tE (cF2 (pu2 fGt) (jjb (vV 0) (vE (cC (.int 0)))) (vE (cC (.int 1)))))) (jjc (jke jvn 3 (cF2 (pu2 jv9) (jjb (vV 0) (vE (cC (.int 1)))) (vV 1)))
  (sIf (tEQ (vV 2)) (jjk 3 (cF2 jk7 (vV 3) (vE (cLC .rt 1 [3,0] (kkk (vV 1)) (.n 0) (tAnd (tE (cF2 (pu2 jkt) (vV 0) (vV 1))) (tE (cF2 (pu2 fEq) (jjb (vV 2) (vE (cF2 jk7 (vE (cC (.int 2))) (vV 0)))) (vE (cC (.int 1)))))) (cV 0))))) jjw)) jjw) en) [some (o0,iL ys),some (o1,.int here),some (o2,.bl ap),some (.rt,.lst fs)]) N C R noX:=by
 have hfl:fs.length<=1:=by rcases hf with rfl | rfl<;>simp
 by_cases hc:0<here/\1<y0
 ·have e1:decide (0<here)=true:=Xb hc.1;have e2:decide (1<y0)=true:=Xb hc.2;have q0:=Y5 y1 (show here≠0 by omega);have q1:=Xy y1 (show 0<here by omega);simp! only[e1,f0,e2];refine jwm rfl ?_;simp! only[f1,mod_i (a:=y1) (b:=here) (by omega)];refine⟨_,rfl,by omega,?_⟩;cases ap with
  | false =>
   simp! only[];exact hen _ (qzp hf q0 q1)
  | true =>
   simp! only[];refine qkm (λE1 B ds acc=>E1=[some (o0,iL ys),some (o1,.int here),some (o2,.bl true),some (.rt,.lst (fs++[.int (y1 % here)]))]/\(∃q,B=[q,some (.rt,.lst (fs++[.int (y1 % here)])),some (o0,iL ys)])/\∃k:Int,0<=k/\k<=here/\ds=jj4 k here/\Ups (y1 % here) k (acc.map (·.2))/\(acc.length:Int)<=k/\(y1 % here<k->(acc.length:Int)<=k - 1)) ?_ ?_ ?_
   ·refine jwv ?_;simp! only[];exact⟨here,rfl,by omega,by omega,⟨none,rfl⟩,0,by omega,hh0,rfl,⟨.nil,(λ_ h=>nomatch h)⟩,by simp,λh=>by omega⟩
   ·rintro E1 B d ds acc ⟨rfl,⟨q,rfl⟩,k,k0,k1,hr,hu,hl,hl2⟩;obtain⟨hlt,rfl,rfl⟩:=jw0 k1 hr;obtain⟨v,fv⟩:=f2 k k0 (by omega);have up:Ups (y1 % here) (k+1) (acc.map (·.2)):=⟨hu.1,λx hx=>by obtain⟨i,e,a,b,c⟩:=hu.2 x hx;exact⟨i,e,a,by omega,c⟩⟩;cases hq:(y1 % here==k)with
    | true =>
     have hk:y1 % here=k:=by simpa using hq
     simp! only[qvk hf,hq];exact⟨⟨_,rfl⟩,k+1,by omega,by omega,rfl,up,by omega,λ_=>by omega⟩
    | false =>
     have hk:y1 % here≠k:=by simpa using hq
     cases hv:(v==1)with
     | false =>
      simp! only[qvk hf,hq,fv,jvo,hv];exact⟨⟨_,rfl⟩,k+1,by omega,by omega,rfl,up,by omega,λh=>by have:=hl2 (by omega);omega⟩
     | true =>
      simp! only[qvk hf,hq,fv,jvo,hv];refine⟨⟨_,rfl⟩,k+1,by omega,by omega,rfl,⟨?_,λx hx=>?_⟩,by simp;omega,λh=>by have:=hl2 (by omega);simp;omega⟩
      ·rw[Xs,List.pairwise_append];refine⟨hu.1,by simp,λx hx y hy=>?_⟩;obtain⟨i,e,a,b,c⟩:=hu.2 x hx;exact⟨i,k,e,by simpa using hy,b⟩
      ·rw[Xs]at hx;rcases List.mem_append.mp hx with z | z
       ·exact up.2 x z
       ·exact⟨k,by simpa using z,k0,by omega,λz=>hk z.symm⟩
   ·rintro E1 B acc ⟨rfl,⟨q,rfl⟩,k,k0,k1,hr,hu,hl,hl2⟩;have:=jxa k1 hr;subst this;rw[jql];simp only[kjw,back,clr,at',List.drop,List.map_cons,List.map_nil,List.set_cons_zero,List.set_cons_succ];have:=hl2 q1;have hal:(acc.map (·.2)).length<=2:=by rw[X3];omega
    simp! only[vkt (o1:=.rt) (o2:=.no) (a:=fs++[.int (y1 % k)]) (b:=acc.map (·.2)) (by decide) (by decide) (by simp;omega)];exact hen _ (qxq hf q0 q1 hu hal)
 ·by_cases h1:0<here
  ·have e1:decide (0<here)=true:=Xb h1;have e2:decide (1<y0)=false:=X9 (λz=>hc ⟨h1,z⟩);simp! only[e1,f0,e2];exact hen _ (kwk hf)
  ·have e1:decide (0<here)=false:=X9 h1;simp! only[e1];exact hen _ (kwk hf)
theorem vj5{en:Sm}{ap:Bool}{here y0:Int}{ys:List Int}{o0 o1 o2:Own}{N C:En->Prop}{R:Sd->Prop}(f0:jva (iL ys) (.int 0)=some (.int y0))
  (hen:∀fs,(fs=[]\/fs=[.str "fresh"])->Po (en [some (o0,iL ys),some (o1,.int here),some (o2,.bl ap),some (.rt,.lst fs)]) N C R noX):
  Po ((jjc (sIf (tOr (tE (cF2 (pu2 fGt) (jjb (vV 0) (vE (cC (.int 0)))) (vE (cC (.int 2))))) (tAnd (tE (cF2 (pu2 fEq) (vV 1) (vE (cC (.int 0))))) (tE (cF2 (pu2 fGt) (jjb (vV 0) (vE (cC (.int 0)))) (vE (cC (.int 0))))))) (jke jvn 3 (cC (.str "fresh"))) jjw) en) [some (o0,iL ys),some (o1,.int here),some (o2,.bl ap),some (.rt,.lst [])]) N C R noX:=by
 have yes:Po ((jke jvn 3 (cC (.str "fresh"))) [some (o0,iL ys),some (o1,.int here),some (o2,.bl ap),some (.rt,.lst [])]) (λE=>Po (en E) N C R noX) C R noX:=by
  refine jwm rfl ?_;simp! only[];exact⟨_,rfl,by simp,hen _ (.inr rfl)⟩
 by_cases c1:2<y0
 ·have e1:decide (2<y0)=true:=Xb c1;simp! only[f0,e1];exact yes
 ·have e1:decide (2<y0)=false:=X9 c1;cases c2:(here==0)with
  | false =>
   simp! only[f0,e1,jvo,c2];exact hen _ (.inl rfl)
  | true =>
   by_cases c3:0<y0
   ·have e3:decide (0<y0)=true:=Xb c3;simp! only[f0,e1,jvo,c2,e3];exact yes
   ·have e3:decide (0<y0)=false:=X9 c3;simp! only[f0,e1,jvo,c2,e3];exact hen _ (.inl rfl)
theorem vwx{ap:Bool}{here y0 y1 y5:Int}{ys:List Int}(hh0:0<=here)(hh3:here<=3)(f0:jva (iL ys) (.int 0)=some (.int y0))(f1:jva (iL ys) (.int 1)=some (.int y1))(f5:jva (iL ys) (.int 5)=some (.int y5))(f2:∀k:Int,0<=k->k<3->∃v,jva (iL ys) (.int (2+k))=some (.int v)):
  Oo jks [(.no,iL ys),(.no,.int here),(.no,.bl ap)] (λy=>∃as,y=(.rt,.lst as)/\qkv ap here as) noX:=by
 have tail:∀(N C:En->Prop) fs,(fs=[]\/fs=[.str "fresh"])->Po ((jjc (sIf (tAnd (tE (cF2 (pu2 fGt) (vV 1) (vE (cC (.int 0))))) (tE (cF2 (pu2 fGt) (jjb (vV 0) (vE (cC (.int 0)))) (vE (cC (.int 1)))))) (jjc (jke jvn 3 (cF2 (pu2 jv9) (jjb (vV 0) (vE (cC (.int 1)))) (vV 1)))
  (sIf (tEQ (vV 2)) (jjk 3 (cF2 jk7 (vV 3) (vE (cLC .rt 1 [3,0] (kkk (vV 1)) (.n 0) (tAnd (tE (cF2 (pu2 jkt) (vV 0) (vV 1))) (tE (cF2 (pu2 fEq) (jjb (vV 2) (vE (cF2 jk7 (vE (cC (.int 2))) (vV 0)))) (vE (cC (.int 1)))))) (cV 0))))) jjw)) jjw)
  (jjc (sIf (tE (cF2 (pu2 fEq) (jjb (vV 0) (vE (cC (.int 5)))) (vE (cC (.int 1))))) (vjp 3) jjw)
  (jkd (cMv 3)))) [some (.no,iL ys),some (.no,.int here),some (.no,.bl ap),some (.rt,.lst fs)]) N C (λy=>∃as,y=(.rt,.lst as)/\qkv ap here as) noX:=λN C fs hf=>wjs hh0 hh3 f0 f1 f2 hf λas h=>wkn f5 h
 have all:=vj5 (en:=_) (ap:=ap) (here:=here) (o0:=.no) (o1:=.no) (o2:=.no) f0 (tail (λ_=>∃as,((Own.dp,D.non):Sd)=(.rt,.lst as)/\qkv ap here as) (λ_=>False));unfold jks;refine jq7 ?_;cases h1:(y0==1)with
 | true =>
  simp! only[f0,jvo,h1];exact⟨_,rfl,by simp,λa ha=>by rw[List.mem_singleton.mp ha];exact .inr (.inl rfl),by simp⟩
 | false =>
  refine vv5 (E:=[some (.no,iL ys),some (.no,.int here),some (.no,.bl ap),none]) ?_ ?_
  ·simp! only[f0,jvo,h1]
  ·rw[w_seq,w_asg,eo_lst,args_nil];exact all
end F
noncomputable section
namespace F
open Q PySem C
def jk8:Fn:=fn 9
  (jjc (jjk 5 (cF2 jk7 (vE (jv0 .rt [(cC (.str "new")),(cC .non)])) (vE (vkn (vV 2)))))
  (jjc (jjk 6 (jv0 .rt []))
  (jjc (jwi (itS (cSl (vV 0) none (some (vV 3)))) (.n 7) (jjc (jjk 8 (cH (jjb (vV 5) (vE (cF2 (pu2 jv9) (vV 7) (vE (cF1 (pu1 jqz) (vV 5))))))))
  (jjc (sIf (tAnd (tEQ (vV 4)) (tE (cF2 (f2First fNotNon) (vV 8) (vE (cC .non))))) (sIf (tOr (tE (cF2 (pu2 qkt) (vV 8) (vV 6))) (tOr (tAnd (tE (cF2 (pu2 fEq) (vV 8) (vE (cC (.str "new"))))) (tOr (tE (cF2 (pu2 fEq) (vV 1) (vE (cC (.str "any"))))) (tE (cF2 (pu2 qkt) (vV 1) (vV 6))))) (tAnd (tE (cF2 (pu2 fEq) (vV 8) (vV 1))) (tE (cF2 (pu2 qkt) (vE (cC (.str "new"))) (vV 6)))))) (jjk 8 (cC .non)) jjw) jjw)
  (jke jvn 6 (cV 8)))))
  (jkd (cF1 jqi (vV 6))))))
def Ak(d:D):Prop:=At d\/∃z,d=.str z
theorem vk0{a b:D}(ha:Ak a)(hb:Ak b):peq a b=decide (a=b):=by
 rcases ha with ha | ⟨z,rfl⟩
 ·rcases hb with hb | ⟨w,rfl⟩
  ·exact qv8 ha hb
  ·rcases ha with rfl | ⟨i,rfl⟩<;>simp[peq]
 ·rcases hb with hb | ⟨w,rfl⟩
  ·rcases hb with rfl | ⟨i,rfl⟩<;>simp[peq]
  ·show(z==w)=_
   by_cases h:z=w
   ·subst h;simp
   ·rw[X9 (λe=>h (by injection e))];simpa using h
theorem kvp{d:D}{n:Nat}(h:Ak d):d.flat n=true:=by
 rcases h with h | ⟨z,rfl⟩
 ·exact h.flat
 ·cases n<;>rfl
theorem vks{x:D}(hx:Ak x):∀{K:List D},(∀s∈K,Ak s)->(K.any λz=>peq z x)=decide (x∈K)
 | [],_=>by simp
 | k::K,h=>by
  rw[List.any_cons,vk0 (h k X4) hx,vks hx (λs hs=>h s (lc9 _ hs))]
  by_cases e1:k=x
  ·simp[e1]
  ·have e3:¬x=k:=λz=>e1 z.symm
   by_cases e2:x∈K<;>simp[e1,e2,e3]
theorem jzz{x:D}{K:List D}(hx:Ak x)(hK:∀s∈K,Ak s):qkt x (.lst K)=some (.bl (decide (x∈K))):=by
 show(if x.flat 30&&D.flats 30 K then some (D.bl (K.any λz=>peq z x))else none)=_;rw[kvp hx,jqn (λk hk=>kvp (hK k hk)),vks hx hK];rfl
theorem jzf{a b:D}(ha:Ak a)(hb:Ak b):fEq a b=some (.bl (decide (a=b))):=by
 unfold fEq;rw[kvp ha,kvp hb,vk0 ha hb];rfl
theorem wvw{n:Int}{g:D}(h:Gd n g):Ak g:=by
 rcases h with rfl | rfl | ⟨i,_,_,rfl⟩
 ·exact .inr ⟨_,rfl⟩
 ·exact .inr ⟨_,rfl⟩
 ·exact .inl (.inr ⟨i,rfl⟩)
theorem wkk{n:Int}{g:D}(h:Fd n g):Ak g:=by
 rcases h with rfl | rfl | ⟨i,_,_,rfl⟩
 ·exact .inr ⟨_,rfl⟩
 ·exact .inl (.inl rfl)
 ·exact .inl (.inr ⟨i,rfl⟩)
theorem kvk{n:Int}{g f:D}{fs:List D}(hg:Gd n g)(h:FA g fs)(h1:f=.non\/f∉fs)(h2:f=.str "new"->g≠.str "any"/\g∉fs)(h3:f=g->D.str "new"∉fs):FA g (fs++[f]):=by
 have gn:g≠.non/\g≠.str "new":=by
  rcases hg with rfl | rfl | ⟨i,_,_,rfl⟩
  ·exact⟨(λz=>nomatch z),by intro z;injection z with z;exact absurd z (by decide)⟩
  ·exact⟨(λz=>nomatch z),by intro z;injection z with z;exact absurd z (by decide)⟩
  ·exact⟨(λz=>nomatch z),(λz=>nomatch z)⟩
 refine⟨λi j d hd hi hj=>?_,λhn=>?_⟩
 ·have key:∀{i:Nat},(fs++[f])[i]?=some d->fs[i]?=some d\/(i=fs.length/\d=f):=fun {i} hi=>by
   rw[List.getElem?_append]at hi
   split at hi
   ·exact .inl hi
   ·rename_i hlt
    by_cases e:i - fs.length=0
    ·rw[e]at hi;exact .inr ⟨by omega,by simpa using hi.symm⟩
    ·rw[Y8 (by simp;omega)]at hi;cases hi
  rcases key hi with a | ⟨a,rfl⟩
  ·rcases key hj with b | ⟨b,rfl⟩
   ·exact h.1 i j d hd a b
   ·rcases h1 with z | z
    ·exact absurd z hd
    ·exact absurd (Xp a) z
  ·rcases key hj with b | ⟨b,_⟩
   ·rcases h1 with z | z
    ·exact absurd z hd
    ·exact absurd (Xp b) z
   ·omega
 ·rcases List.mem_append.mp hn with a | a
  ·obtain⟨c1,c2⟩:=h.2 a;refine⟨c1,λz=>?_⟩;rcases List.mem_append.mp z with z | z
   ·exact c2 z
   ·exact h3 (List.mem_singleton.mp z).symm a
  ·have a:=(List.mem_singleton.mp a).symm;obtain⟨c1,c2⟩:=h2 a;refine⟨c1,λz=>?_⟩;rcases List.mem_append.mp z with z | z
   ·exact c2 z
   ·exact gn.2 ((List.mem_singleton.mp z).trans a)
theorem wkl{g:D}:FA g []:=⟨(λi j f _ h=>by simp at h),(λh=>nomatch h)⟩
def FAb(ap:Bool)(g:D)(fs:List D):Prop:=ap=true->FA g fs
theorem vj8 {ap:Bool} {zs:List Int} {g:D} {here there:Int} (h0:0<=here) (h3:here<=3) (t0:0<=there) (t3:there<=3) (hz:zs.length=3) (hg:Gd here g):
  Oo jk8 [(.no,iL zs),(.no,g),(.no,.int here),(.no,.int there),(.no,.bl ap)] (λy=>∃fs,y=(.no,.tup fs)/\(∀f∈fs,Fd here f)/\(fs.length:Int)=there/\FAb ap g fs) noX:=by
 have hrl:=kve (k:=0) (n:=here) h0;have hadd:jk7 (.no,.lst [.str "new",.non]) (.no,.lst (jj4 0 here))=some (.rt,.lst ([.str "new",.non]++jj4 0 here)):=vkt (by decide) (by decide) (by simp;omega);have hln:((([.str "new",.non]++jj4 0 here:List D).length:Nat):Int)=2+here:=by simp;omega
 have hLm:∀d∈([.str "new",.non]++jj4 0 here:List D),Fd here d:=λd hd=>by
  rcases List.mem_append.mp hd with z | z
  ·rcases List.mem_cons.mp z with rfl | z
   ·exact .inl rfl
   ·rw [List.mem_singleton.mp z];exact .inr (.inl rfl)
  ·obtain⟨i,i0,i1,rfl⟩:=jqu z;exact .inr (.inr ⟨i,i0,i1,rfl⟩)
 generalize ([.str "new",.non]++jj4 0 here:List D)=LL at hadd hln hLm;have hanew:Ak (.str "new"):=.inr ⟨_,rfl⟩;have haany:Ak (.str "any"):=.inr ⟨_,rfl⟩;have hga:=wvw hg;unfold jk8;refine jq7 ?_;simp! only[hadd];refine jvf (λE jkp=>∃(fs:List D) (l7 l8:Option Sd) (ws:List Int),E=[some (.no,iL zs),some (.no,g),some (.no,.int here),some (.no,.int there),some (.no,.bl ap),some (.rt,.lst LL),some (.rt,.lst fs),l7,l8]/\jkp=ws.map D.int/\(fs.length+ws.length:Int)=there/\(∀f∈fs,Fd here f)/\FAb ap g fs) ?_ ?_ ?_
 ·simp! only[vxz (o:=.no) (xs:=zs.map D.int) (lo:=none) (hi:=some there) (by decide)];refine ⟨[],_,_,zs.take there.toNat,rfl,?_,?_,(λf hf=>nomatch hf),λ_=>wkl⟩
  ·rw [wkp t0 (by simp;omega),List.map_take]
  ·simp;omega
 ·rintro E d ds ⟨fs,l7,l8,ws,rfl,hr,hl,hfs,hfa⟩;cases ws with
  | nil=>cases hr
  | cons w ws =>
   rw [List.map_cons]at hr;injection hr with e1 e2;subst e1 e2;rw [Xd]at hl;have q0:=Y5 w (show 2+here≠0 by omega);have q1:=Xy w (show 0<2+here by omega);have hix:=wvr LL (w % (2+here)) q0 (by omega);have hone:=hLm _ (jw6 LL (w % (2+here)) q0 (by omega));generalize LL.getD (w % (2+here)).toNat .non=one at hix hone;have hfk:∀s∈fs,Ak s:=λs hs=>wkk (hfs s hs)
   have hok:=wkk hone;have fin:∀(o8:Own) (o:D),Fd here o->FAb ap g (fs++[o])->Po (jke jvn 6 (cV 8) [some (.no,iL zs),some (.no,g),some (.no,.int here),some (.no,.int there),some (.no,.bl ap),some (.rt,.lst LL),some (.rt,.lst fs),some (.no,.int w),some (o8,o)]) (λE=>∃(fs:List D) (l7 l8:Option Sd) (ws':List Int),E=[some (.no,iL zs),some (.no,g),some (.no,.int here),some (.no,.int there),some (.no,.bl ap),some (.rt,.lst LL),some (.rt,.lst fs),l7,l8]/\ws.map D.int=ws'.map D.int/\(fs.length+ws'.length:Int)=there/\(∀f∈fs,Fd here f)/\FAb ap g fs) (λE=>∃(fs:List D) (l7 l8:Option Sd) (ws':List Int),E=[some (.no,iL zs),some (.no,g),some (.no,.int here),some (.no,.int there),some (.no,.bl ap),some (.rt,.lst LL),some (.rt,.lst fs),l7,l8]/\ws.map D.int=ws'.map D.int/\(fs.length+ws'.length:Int)=there/\(∀f∈fs,Fd here f)/\FAb ap g fs) (λy=>∃fs,y=(.no,.tup fs)/\(∀f∈fs,Fd here f)/\(fs.length:Int)=there/\FAb ap g fs) noX:=λo8 o ho ha=>by
    refine jwm rfl ?_;simp! only[];refine⟨_,rfl,by omega,_,_,_,ws,rfl,rfl,by simp;omega,λf hf=>?_,ha⟩;rcases List.mem_append.mp hf with z | z
    ·exact hfs f z
    ·rw [List.mem_singleton.mp z];exact ho
   have finN:ap=true->∀o8,Po (jke jvn 6 (cV 8) [some (.no,iL zs),some (.no,g),some (.no,.int here),some (.no,.int there),some (.no,.bl ap),some (.rt,.lst LL),some (.rt,.lst fs),some (.no,.int w),some (o8,.non)]) _ _ _ noX:=λhap o8=>fin o8 .non (.inr (.inl rfl)) λh=>kvk hg (hfa h) (.inl rfl) (λz=>nomatch z) (λz=>by rw[<-z]at hg;rcases hg with z | z | ⟨_,_,_,z⟩<;>cases z)
   cases ap with
   | false =>
    simp! only[hln,mod_i (a:=w) (b:=2+here) (by omega),hix];exact fin _ one hone (λh=>nomatch h)
   | true =>
    rcases hone with rfl | rfl | ⟨i,i0,i1,rfl⟩
    ·by_cases c1:D.str "new"∈fs
     ·simp! only[hln,mod_i (a:=w) (b:=2+here) (by omega),hix,jzz hok hfk,Xb c1];exact finN rfl _
     ·by_cases c2:g=.str "any"
      ·simp! only[hln,mod_i (a:=w) (b:=2+here) (by omega),hix,jzz hok hfk,X9 c1,jzf hga haany,Xb c2,jzf hanew hanew];exact finN rfl _
      ·by_cases c3:g∈fs
       ·simp! only[hln,mod_i (a:=w) (b:=2+here) (by omega),hix,jzz hok hfk,X9 c1,jzf hga haany,X9 c2,jzz hga hfk,Xb c3,jzf hanew hanew];exact finN rfl _
       ·have c4:¬(D.str "new"=g):=λz=>by
         rw[<-z]at hg;rcases hg with z | z | ⟨_,_,_,z⟩
         ·injection z with z;exact absurd z (by decide)
         ·injection z with z;exact absurd z (by decide)
         ·cases z
        simp! only[hln,mod_i (a:=w) (b:=2+here) (by omega),hix,jzz hok hfk,X9 c1,jzf hga haany,X9 c2,jzz hga hfk,X9 c3,jzf hanew hanew,jzf hanew hga,X9 c4];exact fin _ _ (.inl rfl) λ_=>kvk hg (hfa rfl) (.inr c1) (λ_=>⟨c2,c3⟩) (λz=>absurd z c4)
    ·simp! only[hln,mod_i (a:=w) (b:=2+here) (by omega),hix];exact finN rfl _
    ·have hone:Fd here (.int i):=.inr (.inr ⟨i,i0,i1,rfl⟩);have c0:¬(D.int i=.str "new"):=λz=>nomatch z
     by_cases c1:D.int i∈fs
     ·simp! only[hln,mod_i (a:=w) (b:=2+here) (by omega),hix,jzz hok hfk,Xb c1];exact finN rfl _
     ·by_cases c2:D.int i=g
      ·by_cases c3:D.str "new"∈fs
       ·simp! only[hln,mod_i (a:=w) (b:=2+here) (by omega),hix,jzz hok hfk,X9 c1,jzf hok hanew,X9 c0,jzf hok hga,Xb c2,jzz hanew hfk,Xb c3];exact finN rfl _
       ·simp! only[hln,mod_i (a:=w) (b:=2+here) (by omega),hix,jzz hok hfk,X9 c1,jzf hok hanew,X9 c0,jzf hok hga,Xb c2,jzz hanew hfk,X9 c3];exact fin _ _ hone λ_=>kvk hg (hfa rfl) (.inr c1) (λz=>absurd z c0) (λ_=>c3)
      ·simp! only[hln,mod_i (a:=w) (b:=2+here) (by omega),hix,jzz hok hfk,X9 c1,jzf hok hanew,X9 c0,jzf hok hga,X9 c2];exact fin _ _ hone λ_=>kvk hg (hfa rfl) (.inr c1) (λz=>absurd z c0) (λz=>absurd z c2)
 ·rintro E ⟨fs,l7,l8,ws,rfl,hr,hl,hfs,hfa⟩;cases ws with
  | cons=>cases hr
  | nil =>
   simp! only[qk2 (o:=.rt) (xs:=fs) (by decide)];exact⟨fs,rfl,hfs,by simpa using hl,hfa⟩
theorem vw4(i:Int)(h0:0<=i)(h1:i<26):jva (.str "abcdefghijklmnopqrstuvwxyz") (.int i)=some (.str ⟨#[ltr.getD i.toNat 0]⟩):=by
 obtain⟨n,rfl⟩:=Int.eq_ofNat_of_zero_le h0;have h26:ltr.length=26:=by decide +kernel
 have hn:n<ltr.length:=by omega
 have hs:(("abcdefghijklmnopqrstuvwxyz":Str).cps.size:Int)=26:=by decide +kernel
 show((Q.ixN ("abcdefghijklmnopqrstuvwxyz":Str).cps.size n).bind λj=>(ltr[j]?).map λc=>D.str ⟨#[c]⟩)=_;unfold Q.ixN;rw[Xf h0,Xf (by omega)];show((ltr[n]?).map λc=>D.str ⟨#[c]⟩)=_;rw[X0 hn,X2,Yb,X0 hn];rfl
theorem vvu:∀i<26,∀j<26,ltr.getD i 0=ltr.getD j 0->i=j:=by decide +kernel
def Ltr(b st:Int)(at_:Nat)(i:Nat)(z:Str):Prop:=z.cps.toList[at_]?=some (ltr.getD ((b+i*(st+1)) % 26).toNat 0)
end F
noncomputable section
namespace F
open Q PySem C
def m__law_single(dr:Fn):Fn:=fn 15
  (jjc (jjk 3 (jjj C.m__law_digits [(jjj dr [(cV 0),(cV 1)]),(cF2 jk7 (vE (cF2 jk7 (vE (jv0 .rt [(cC (.int 4)),(cC (.int 8)),(cC (.int 2))])) (vE (cF2 jjt (vE (jv0 .rt [(cC (.int 12))])) (vE (cC (.int 4))))))) (vE (cF2 jjt (vE (jv0 .rt [(cC (.int 2))])) (vE (cC (.int 4))))))]))
  (jjc (jjk 4 (cF2 jk7 (vE (cC (.int 1))) (jjb (vV 3) (vE (cC (.int 0))))))
  (jjc (jjk 5 (cLC .rt 1 [3] (kkk (vV 4)) (.n 0) tYes (cF2 (pu2 jv9) (jjb (vV 1) (vE (cF2 jk7 (vE (cC (.int 3))) (vV 0)))) (vE (cF2 jk7 (vE (cC (.int 3))) (vE (cF1 (pu1 vki) (vE (cF2 (pu2 fEq) (jjb (vV 1) (vE (cC (.int 1)))) (vE (cC (.int 3))))))))))))
  (jjc (jjk 6 (jv0 .rt []))
  (jjc (jwi (kkk (vV 4)) (.n 7) (jjc (jjk 8 (jv0 .rt []))
  (jjc (jwi (kkk (vE (cF1 (pu1 jqz) (vV 2)))) (.n 9) (jjc (jjk 10 (jjj dr [(cV 0),(cF2 jk7 (vE (cF2 jk7 (vE (cF2 jk7 (vV 1) (vE (cC (.int 1))))) (vE (cF2 jjt (vV 7) (vE (cF1 (pu1 jqz) (vV 2))))))) (vV 9))]))
  (jjc (jjk 10 (jjj C.m__law_digits [(cV 10),(cF2 jk7 (vE (jv0 .rt [(cC (.int 8)),(cC (.int 12)),(cC (.int 2)),(cC (.int 2)),(cC (.int 2)),(cC (.int 2))])) (vE (cF2 jjt (vE (jv0 .rt [(cC (.int 12)),(cC (.int 60)),(cC (.int 60)),(cC (.int 60))])) (vE (cC (.int 4))))))]))
  (jwi (qzx (jjj jks [(cV 10),(cH (jjb (vV 5) (vV 7))),(cF2 (pu2 fEq) (jjb (vV 3) (vE (cC (.int 2)))) (vE (cC (.int 1))))])) (.t [11,12]) (jjc (jjk 13 (cF2 (pu2 jv9) (jjb (vV 10) (vE (cF2 jk7 (vE (cC (.int 6))) (vE (cF2 jjt (vE (cC (.int 4))) (vV 11)))))) (vV 4)))
  (jjc (jjk 14 (jjj jk8 [(cSl (vV 10) (some (vE (cF2 jk7 (vE (cC (.int 7))) (vE (cF2 jjt (vE (cC (.int 4))) (vV 11)))))) (some (vE (cF2 jk7 (vE (cC (.int 10))) (vE (cF2 jjt (vE (cC (.int 4))) (vV 11))))))),(cV 12),(cH (jjb (vV 5) (vV 7))),(cH (jjb (vV 5) (vV 13))),(cF2 (pu2 fEq) (jjb (vV 3) (vE (cC (.int 2)))) (vE (cC (.int 1))))]))
  (jke jvn 8 (jvh .no [(cH (jjb (vV 2) (vV 9))),(cV 12),(cV 13),(cV 14)]))))))))
  (jke jvn 6 (jvh .no [(cH (jjb (vV 5) (vV 7))),(cF2 (pu2 fEq) (jjb (vV 3) (vE (cF2 jk7 (vE (cC (.int 7))) (vV 7)))) (vE (cC (.int 1)))),(cV 8)])))))
  (jkd (jvh .no [(jvh .no [(cF1 jze (vV 2)),(cV 6)]),(cF2 jk7 (vE (cF2 jk7 (vV 1) (vE (cC (.int 1))))) (vE (cF2 jjt (vV 4) (vE (cF1 (pu1 jqz) (vV 2))))))])))))))
theorem vwm{ys:List Int}{lo n:Int}(h0:0<=lo)(h1:0<=n)(h2:lo+n<=ys.length):qxp (ys.map D.int) (some lo) (some (lo+n))=((ys.drop lo.toNat).take n.toNat).map D.int:=by
 unfold qxp qqj;dsimp only;rw[Xj (by omega),Xj (by omega),X3,List.map_take,List.map_drop]
 congr 1
 ·omega
 ·congr 1
  omega
theorem vqf{ap:Bool}{ss:List Str}{j:Nat}(hj:j<ss.length)(hnd:ss.Nodup){st add as:List D}(h:wq5 ap st)(hsg:∀s∈st,∃i,i<j/\∃(hi:i<ss.length) (g t f:D),s=.tup [.str ss[i],g,t,f])(has:as.Pairwise (Cpt ap))(hadd:∀(i:Nat) (d:D),add[i]?=some d->∃(g t:D) (fs:List D),as[i]?=some g/\d=.tup [.str ss[j],g,t,.tup fs]/\(ap=true->FA g fs)):wq5 ap (st++add):=by
 have dif:∀{i:Nat} (hi:i<ss.length),i<j->ss[i]≠ss[j]:=fun {i} hi hij e=>by
  exact List.pairwise_iff_getElem.mp hnd i j hi hj hij e
 refine⟨λi k z g g' t t' f f' hik hi hk=>?_,λhap z g t fs hm=>?_⟩
 ·rw[List.getElem?_append]at hi hk
  split at hk
  ·rw[Xf (by omega)]at hi;exact h.1 i k z g g' t t' f f' hik hi hk
  ·split at hi
   ·obtain⟨i',h1,h2,_,_,_,e⟩:=hsg _ (Xp hi);obtain⟨_,_,_,_,e2,_⟩:=hadd _ _ hk;injection e with e;injection e with e _;injection e with e;injection e2 with e2;injection e2 with e2 _;injection e2 with e2;exact absurd (e.symm.trans e2) (dif h2 h1)
   ·obtain⟨ga,_,_,a1,e1,_⟩:=hadd _ _ hi;obtain⟨gb,_,_,a2,e2,_⟩:=hadd _ _ hk;injection e1 with e1;injection e1 with _ e1;injection e1 with e1 _;injection e2 with e2;injection e2 with _ e2;injection e2 with e2 _;subst e1 e2;obtain⟨b1,c1⟩:=List.getElem?_eq_some_iff.mp a1;obtain⟨b2,c2⟩:=List.getElem?_eq_some_iff.mp a2;have:=(List.pairwise_iff_getElem.mp has) _ _ b1 b2 (by omega);rw[c1,c2]at this;exact this
 ·rcases List.mem_append.mp hm with q | q
  ·exact h.2 hap z g t fs q
  ·obtain⟨i,hi⟩:=List.mem_iff_getElem?.mp q;obtain⟨_,_,_,_,e,ha⟩:=hadd _ _ hi;injection e with e;injection e with _ e;injection e with e1 e;injection e with _ e;injection e with e _;injection e with e;subst e1 e;exact ha hap
inductive SJ1 (ns:List Int)(a:Int)(ss:List Str)(hs ks:List Int)(v0:Int)(ap:Bool):En->List D->Prop
 | mk (r:Nat) (rs:List D) {l7 l8 l9 l10 l11 l12 l13 l14:Option Sd} {jkp:List D} (h1:jkp=jj4 r (1+v0)) (h2:(r:Int)<=1+v0) (h3:rs.length=r) (h4:∀i:Nat,i<r->∃(gd:Bool) (st:List D),rs[i]?=some (.tup [.int (ks.getD i 0),.bl gd,.lst st])/\(∀s∈st,St (ks.getD i 0) s/\Sx ss ks s)/\st.length<=12/\wq5 ap st):SJ1 ns a ss hs ks v0 ap [some (.no,iL ns),some (.no,.int a),some (.no,sL ss),some (.rt,iL hs),some (.dp,.int (1+v0)),some (.rt,iL ks),some (.rt,.lst rs),l7,l8,l9,l10,l11,l12,l13,l14] jkp
def Sgn(ss:List Str)(j:Nat)(st:List D):Prop:=∀s∈st,∃i,i<j/\∃(hi:i<ss.length) (g t f:D),s=.tup [.str ss[i],g,t,f]
inductive SJ2 (ns:List Int)(a:Int)(ss:List Str)(hs ks:List Int)(v0:Int)(ap:Bool)(rs:List D)(r:Nat)(here:Int):En->List D->Prop
 | mk (j:Nat) (st:List D) {l9 l10 l11 l12 l13 l14:Option Sd} {jkp:List D} (h1:jkp=jj4 j ss.length) (h2:j<=ss.length) (h3:∀s∈st,St here s/\Sx ss ks s) (h4:st.length<=4*j) (h5:wq5 ap st) (h6:Sgn ss j st):SJ2 ns a ss hs ks v0 ap rs r here [some (.no,iL ns),some (.no,.int a),some (.no,sL ss),some (.rt,iL hs),some (.dp,.int (1+v0)),some (.rt,iL ks),some (.rt,.lst rs),some (.no,.int r),some (.rt,.lst st),l9,l10,l11,l12,l13,l14] jkp
def Ads(ss:List Str)(j:Nat)(hj:j<ss.length)(ap:Bool)(as add:List D):Prop:=∀(i:Nat) (d:D),add[i]?=some d->∃(g t:D) (fs:List D),as[i]?=some g/\d=.tup [.str ss[j],g,t,.tup fs]/\(ap=true->FA g fs)
inductive SJ3 (ns:List Int)(a:Int)(ss:List Str)(hs ks:List Int)(v0:Int)(ap:Bool)(rs:List D)(r:Nat)(here:Int)(st:List D)(j:Nat)(hj:j<ss.length)(ys:List Int):En->List D->Prop
 | mk (k:Nat) (as add st2:List D) {l11 l12 l13 l14:Option Sd} {jkp:List D} (h0:st2=st++add) (h1:qkv ap here as) (h2:k<=as.length) (h3:jkp=jvp k (as.drop k)) (h4:add.length=k) (h5:∀s∈add,St here s/\Sx ss ks s) (h6:Ads ss j hj ap as add):SJ3 ns a ss hs ks v0 ap rs r here st j hj ys [some (.no,iL ns),some (.no,.int a),some (.no,sL ss),some (.rt,iL hs),some (.dp,.int (1+v0)),some (.rt,iL ks),some (.rt,.lst rs),some (.no,.int r),some (.rt,.lst st2),some (.no,.int j),some (.no,iL ys),l11,l12,l13,l14] jkp
theorem single_ok {dr:Fn} (hdr:Dr dr) (ns:List Int) (a:Int) (ss:List Str) (ha:0<=a) (ha2:a<=100) (hs:1<=ss.length) (hs2:ss.length<=3) (hnd:ss.Nodup):Oo (m__law_single dr) [(.no,iL ns),(.no,.int a),(.no,sL ss)] (λy=>∃rs at_,y=(.no,.tup [jwf ss rs,.int at_])/\Rms rs/\a<=at_/\at_<=a+13/\∃kps:List Int,Rx ss kps rs/\(∀k∈kps,0<=k/\k<=3)/\∃ap,Sgl ap rs) noX:=by
 have m1:qwt (.no,.lst [.int 12]) (.no,.int 4)=some (.rt,.lst [.int 12,.int 12,.int 12,.int 12]):=rfl;have m2:qwt (.no,.lst [.int 2]) (.no,.int 4)=some (.rt,.lst [.int 2,.int 2,.int 2,.int 2]):=rfl;have m3:qwt (.no,.lst [.int 12,.int 60,.int 60,.int 60]) (.no,.int 4)=some (.rt,.lst [.int 12,.int 60,.int 60,.int 60,.int 12,.int 60,.int 60,.int 60,.int 12,.int 60,.int 60,.int 60,.int 12,.int 60,.int 60,.int 60]):=rfl;have p1':jk7 (.no,.lst [.int 4,.int 8,.int 2]) (.no,.lst [.int 12,.int 12,.int 12,.int 12])=some (.rt,.lst [.int 4,.int 8,.int 2,.int 12,.int 12,.int 12,.int 12]):=rfl;have p2':jk7 (.no,.lst [.int 4,.int 8,.int 2,.int 12,.int 12,.int 12,.int 12]) (.no,.lst [.int 2,.int 2,.int 2,.int 2])=some (.rt,.lst [.int 4,.int 8,.int 2,.int 12,.int 12,.int 12,.int 12,.int 2,.int 2,.int 2,.int 2]):=rfl;have p3':jk7 (.no,.lst [.int 8,.int 12,.int 2,.int 2,.int 2,.int 2]) (.no,.lst [.int 12,.int 60,.int 60,.int 60,.int 12,.int 60,.int 60,.int 60,.int 12,.int 60,.int 60,.int 60,.int 12,.int 60,.int 60,.int 60])=some (.rt,.lst [.int 8,.int 12,.int 2,.int 2,.int 2,.int 2,.int 12,.int 60,.int 60,.int 60,.int 12,.int 60,.int 60,.int 60,.int 12,.int 60,.int 60,.int 60,.int 12,.int 60,.int 60,.int 60]):=rfl;unfold m__law_single;refine jq7 ?_;simp! only[];refine (hdr ns a ha (by omega)).use ?_;intro x _;simp! only[m1,m2,p1',p2'];refine (kk8 x [4,8,2,12,12,12,12,2,2,2,2] (by decide) (by decide)).use ?_;intro hs' hd;obtain ⟨v0,e0,a0,b0⟩:=dg hd 0 (by decide) (by decide);obtain ⟨v1,e1,a1,b1⟩:=dg hd 1 (by decide) (by decide);obtain ⟨v2,e2,a2,b2⟩:=dg hd 2 (by decide) (by decide);have b0:v0<4:=b0;have b1:v1<8:=b1;simp! only[e0];refine jvb [some (.rt,iL hs')] (λ_ y=>∃i,y=(.dp,.int i)/\0<=i/\i<=3) ?_;refine jwv ?_;simp! only[];refine ⟨_,rfl,by omega,by omega,rfl,λd hd'=>?_,λys hy=>?_⟩
 ·obtain⟨i,i0,i1,rfl⟩:=jqu hd';obtain⟨w,ew,aw,bw⟩:=dg hd (3+i) (by omega) (by simp;omega);obtain⟨q,hq,q0,q1⟩:=fint (v1==3);have r0:=Y5 w (show 3+q≠0 by omega);have r1:=Xy w (show 0<3+q by omega);simp! only[ew,e1,jvo,hq,mod_i (a:=w) (b:=3+q) (by omega)];exact ⟨⟨_,rfl⟩,_,rfl,by omega,by omega⟩
 obtain ⟨ks,h1,h2,hk3⟩:=kwx (S:=λi=>0<=i/\i<=3) (λd y ⟨i,h,s⟩=>⟨i,by rw[h],s⟩) hy;have hkl:(ks.length:Int)=1+v0:=by rw[h2,kve (by omega)];omega
 rw [jql,h1];simp only[back,clr,at',List.map_cons,List.map_nil,List.set_cons_zero,List.set_cons_succ];generalize hap:(v2==1)=ap;simp! only[];refine jvf (SJ1 ns a ss hs' ks v0 ap) ?_ ?_ ?_
 ·refine jwv ?_;simp! only[];exact ⟨_,rfl,by omega,by omega,.mk 0 [] rfl (by omega) rfl λi hi=>absurd hi (Nat.not_lt_zero _)⟩
 ·rintro E d ds ⟨r,rs,hr,hrn,hrl,hrs⟩;obtain⟨hlt,rfl,rfl⟩:=jw0 hrn hr;obtain⟨here,eh,⟨hh0,hh1⟩,hhg⟩:=ixI ks _ hk3 r (by omega) (by omega);have hhg:ks[r]?=some here:=by simpa using hhg
  have hge:ks.getD r 0=here:=by rw[X2,hhg];rfl
  obtain⟨g7,e7,_,_⟩:=dg hd (7+r) (by omega) (by simp;omega);simp! only[];refine jvf (SJ2 ns a ss hs' ks v0 ap rs r here) ?_ ?_ ?_
  ·refine jwv ?_;simp! only[];exact⟨ss.length,by simp,by omega,by omega,.mk 0 [] rfl (by omega) (λs hs=>nomatch hs) (by simp) ⟨(λi k z g g' t t' f f' _ h=>by simp at h),(λ_ _ _ _ _ h=>nomatch h)⟩ (λs hs=>nomatch hs)⟩
  ·rintro E d ds2 ⟨j,st,hr2,hj,hst,hstl,hsgl,hsg⟩;obtain⟨hjlt,rfl,rfl⟩:=jw0 (by omega) hr2;have hjl:j<ss.length:=by omega
   have hsx:jva (sL ss) (.int j)=some (.str ss[j]):=qw3 (by omega) (by simp[hjl]);have hrj:(r:Int)*(ss.length:Int)<=3*3:=Int.mul_le_mul (by omega) (by omega) (by omega) (by decide);have hrj0:0<=(r:Int)*(ss.length:Int):=Int.mul_nonneg (by omega) (by omega);simp! only[];refine(hdr ns (a+1+r*ss.length+j) (by omega) (by omega)).use ?_;intro x2 _;simp! only[m3,p3'];refine(kk8 x2 [8,12,2,2,2,2,12,60,60,60,12,60,60,60,12,60,60,60,12,60,60,60] (by decide) (by decide)).use ?_;intro ys2 hdy;obtain⟨y0,f0,g0,g0'⟩:=dg hdy 0 (by decide) (by decide);obtain⟨y1,f1,g1,_⟩:=dg hdy 1 (by decide) (by decide);obtain⟨y5,f5,g5,_⟩:=dg hdy 5 (by decide) (by decide);simp! only[];refine jvf (SJ3 ns a ss hs' ks v0 ap rs r here st j hjl ys2) ?_ ?_ ?_
   ·simp! only[eh,e2,jvo,hap];refine(vwx hh0 hh1 f0 f1 f5 (λk k0 k1=>by obtain⟨v,hv,_⟩:=dg hdy (2+k) (by omega) (by simp;omega);exact⟨v,hv⟩)).use ?_;intro as has;simp! only[];exact .mk 0 as [] st (Xq _).symm has (Y4 _) rfl rfl (λs hs=>nomatch hs) (λi d h=>by simp at h)
   ·rintro E d ds3 ⟨k,as,add,st2,hs2,has,hka,hr3,hal,hadd,hgs⟩
    by_cases hkl2:k<as.length
    ·rw [List.drop_eq_getElem_cons hkl2,jvp]at hr3;injection hr3 with e5 e6;subst e5 e6;have hk4:=has.2.2;have hag:Gd here as[k]:=has.2.1 _ (Xk _);obtain⟨y6,f6,g6,_⟩:=dg hdy (6+4*k) (by omega) (by simp;omega);have r0:=Y5 y6 (show 1+v0≠0 by omega);have r1:=Xy y6 (show 0<1+v0 by omega);obtain⟨kto,et,⟨ht0,ht1⟩,hkto⟩:=ixI ks _ hk3 (y6 % (1+v0)) r0 (by omega);obtain⟨ws,hws,hwl⟩:∃ws:List Int,qxp (ys2.map D.int) (some (7+4*k)) (some (10+4*k))=ws.map D.int/\ws.length=3:=by
      have hyl:ys2.length=22:=hdy.len;exact⟨(ys2.drop (7+4*k)).take 3,by rw[show(10:Int)+4*k=7+4*k+3 by omega,vwm (by omega) (by omega) (by omega),show(7+4*(k:Int)).toNat=7+4*k by omega];rfl,by rw[List.length_take,List.length_drop,hyl];omega⟩
     simp! only[f6,mod_i (a:=y6) (b:=1+v0) (by omega),vxz (o:=.no) (xs:=ys2.map D.int) (lo:=some (7+4*k)) (hi:=some (10+4*k)) (by decide),hws,eh,et,e2,jvo,hap];refine(vj8 (ap:=ap) (g:=as[k]) (here:=here) (there:=kto) hh0 hh1 ht0 ht1 hwl hag).use ?_;rintro fs ⟨hfs,hfl,hfa⟩;simp! only[];refine jwm rfl ?_;simp! only[hsx];refine⟨_,rfl,by rw[hs2,X7];omega,.mk (k+1) as (add++[.tup [.str ss[j],as[k],.int (y6 % (1+v0)),.tup fs]]) _ (by rw[hs2,Xr]) has (by omega) rfl (by simp[hal]) (λs hs=>?_) (λi d hi=>?_)⟩
     ·rcases List.mem_append.mp hs with z | z
      ·exact hadd s z
      ·rw[List.mem_singleton.mp z];refine⟨⟨_,as[k],_,fs,rfl,hag,hfs,by omega⟩,_,as[k],_,fs,rfl,Xk _,r0,by omega,?_⟩;rw[hfl,X2,hkto];rfl
     ·rw[List.getElem?_append]at hi
      split at hi
      ·exact hgs i d hi
      ·by_cases e:i - add.length=0
       ·rw[e]at hi;have hik:i=k:=by omega
        subst hik;exact⟨as[i],_,fs,X0 hkl2,by simpa using hi.symm,hfa⟩
       ·rw[Y8 (by simp;omega)]at hi;cases hi
    ·rw[List.drop_eq_nil_of_le (by omega)]at hr3;cases hr3
   ·rintro E ⟨k,as,add,st2,hs2,has,hka,hr3,hal,hadd,hgs⟩;subst hs2;have hk4:=has.2.2;refine .mk (j+1) (st++add) (by rw[show((j+1:Nat):Int)=(j:Int)+1 by omega]) (by omega) (λs hs=>?_) (by rw[X7];omega) (vqf hjl hnd hsgl hsg has.1 hgs) (λs hs=>?_)
    ·rcases List.mem_append.mp hs with z | z
     ·exact hst s z
     ·exact hadd s z
    ·rcases List.mem_append.mp hs with z | z
     ·obtain⟨i,q1,q2,g,t,f,e⟩:=hsg s z;exact⟨i,by omega,q2,g,t,f,e⟩
     ·obtain⟨i,hi⟩:=List.mem_iff_getElem?.mp z;obtain⟨g,t,fs,_,e,_⟩:=hgs i s hi;exact⟨j,by omega,hjl,g,t,_,e⟩
  ·rintro E ⟨j,st,hr2,hj,hst,hstl,hsgl,hsg⟩;refine jwm rfl ?_;simp! only[eh,e7,jvo];refine⟨_,rfl,by omega,.mk (r+1) _ (by rw[show((r+1:Nat):Int)=(r:Int)+1 by omega]) (by omega) (by simp[hrl]) λi hi=>?_⟩
   by_cases he:i<r
   ·obtain⟨gd,st',q1,q2,q3⟩:=hrs i he;exact⟨gd,st',by rw[Y1 (by omega)];exact q1,q2,q3⟩
   ·have:i=r:=by omega
    subst this;refine⟨_,st,by rw[Xx (by omega),hrl,Nat.sub_self,hge];rfl,by rw[hge];exact hst,by omega,hsgl⟩
 ·rintro E ⟨r,rs,hr,hrn,hrl,hrs⟩;have:=jxa hrn hr;have hm0:0<=(1+v0)*(ss.length:Int):=Int.mul_nonneg (by omega) (by omega);have hm1:(1+v0)*(ss.length:Int)<=4*3:=Int.mul_le_mul (by omega) (by omega) (by omega) (by decide);simp! only[kwm (o:=.no) (xs:=ss.map D.str) (by decide)];refine⟨rs,_,rfl,⟨by omega,by omega,λr' hr'=>?_⟩,by omega,by omega,ks,⟨by omega,λi hi=>?_⟩,hk3,ap,λk g st hm=>?_⟩
  ·obtain⟨i,hi,e⟩:=List.mem_iff_getElem.mp hr';obtain⟨gd,st,q1,q2,q3,_⟩:=hrs i (by omega);rw[X0 hi,e]at q1;have hk:=hk3 (ks.getD i 0) (by rw[X2,X0 (by omega)];exact Xk _);exact⟨_,gd,st,oq9 q1,hk.1,hk.2,λs hs=>(q2 s hs).1,by omega⟩
  ·obtain⟨gd,st,q1,q2,q3⟩:=hrs i (by omega);exact⟨gd,st,q1,λs hs=>(q2 s hs).2⟩
  ·obtain⟨i,hi,e⟩:=List.mem_iff_getElem.mp hm;obtain⟨gd,st',q1,q2,q3,q4⟩:=hrs i (by omega);rw[X0 hi,e]at q1;have q1:=oq9 q1;injection q1 with q1;injection q1 with _ q1;injection q1 with _ q1;injection q1 with q1 _;injection q1 with q1;subst q1;exact q4
end F
noncomputable section
namespace F
open Q PySem C
def jw9(K:List D)(d:D):D:=match d with
 | .tup [room,.tup ks]=>.tup [.int (K.idxOf (.tup [room,.tup (pr ks)]):Nat),iT (jk5 ks)]
 | _=>.non
def jzh(rs:List D)(s:D)(z:Str)(L:List D)(d:D):D:=match d with
 | .int p=>(match obD rs s z p with
  | some d=>jw9 L d
  | none=>.non)
 | _=>.non
def kqs(s:D):List D:=jj4 0 ((jk5 (jzy s)).length+1)
def jzm(ss:List Str)(rs L:List D)(s:D):List D:=ss.map λz=>.lst ((kqs s).map (jzh rs s z L))
def Leads(L:List D)(e:D):Prop:=∀room ks,e=.tup [room,.tup ks]->D.tup [room,.tup (pr ks)]∈L
def Clo(zs:List Str)(rs L:List D)(s:D):Prop:=∀z∈zs,∀p:Int,D.int p∈kqs s->∃e,obD rs s z p=some e/\Leads L e
def Nrm(t:D):Prop:=∃room ks,t=.tup [room,.tup (pr ks)]
theorem jz7{A B:List D}{x:D}(h:A <+: B)(hx:x∈A):x∈B:=h.subset hx
theorem qv3{A B:List D}{x:D}(h:A <+: B)(hx:x∈A):B.idxOf x=A.idxOf x:=by
 obtain⟨t,rfl⟩:=h;rw[List.idxOf_append,Xf hx]
theorem vv1{A B:List D}{i:Nat}(h:A <+: B)(hi:i<A.length):B.getD i .non=A.getD i .non:=by
 obtain⟨t,rfl⟩:=h;rw[X2,X2,Y1 hi]
theorem vw8(K:List D)(p:D):K <+: jzq K p/\p∈jzq K p/\∀t∈jzq K p,t∈K\/t=p:=by
 unfold jzq
 split
 ·rename_i h;exact⟨Yn,h,λt ht=>.inl ht⟩
 ·exact⟨List.prefix_append _ _,by simp,λt ht=>by
   rcases List.mem_append.mp ht with z | z
   ·exact .inl z
   ·exact .inr (List.mem_singleton.mp z)⟩
theorem qjo(K:List D)(d:D):K <+: (jkw K d).1/\(∀L,(jkw K d).1 <+: L->(jkw K d).2=jw9 L d)/\Leads (jkw K d).1 d/\((∀t∈K,Nrm t)->∀t∈(jkw K d).1,Nrm t):=by
 unfold jkw
 split
 ·rename_i room ks;obtain⟨h1,h2,h3⟩:=vw8 K (.tup [room,.tup (pr ks)]);refine⟨h1,λL hL=>?_,λroom' ks' e=>?_,λhK t ht=>?_⟩
  ·unfold jw9;dsimp only;rw[qv3 hL h2]
  ·cases e;exact h2
  ·rcases h3 t ht with z | rfl
   ·exact hK t z
   ·exact⟨_,_,rfl⟩
 ·rename_i hne;refine⟨Yn,λL _=>?_,λroom' ks' e=>absurd e (hne _ _),λhK=>hK⟩;unfold jw9
  split
  ·rename_i room ks;exact absurd rfl (hne room ks)
  ·rfl
theorem Leads.mono{A B:List D}{e:D}(h:A <+: B)(hl:Leads A e):Leads B e:=λroom ks he=>jz7 h (hl room ks he)
theorem kkb{rs:List D}{s:D}{z:Str}:∀{ps K:List D} {r:List D×List D},jk2 rs s z ps K=some r->K <+: r.1/\(∀L,r.1 <+: L->r.2=ps.map (jzh rs s z L))/\(∀p:Int,D.int p∈ps->∃e,obD rs s z p=some e/\Leads r.1 e)/\((∀t∈K,Nrm t)->∀t∈r.1,Nrm t)
 | [],K,r,h=>by
  rw [jk2]at h;cases h;exact⟨Yn,λ_ _=>rfl,(λ_ h=>nomatch h),λh=>h⟩
 | .int p::ps,K,r,h=>by
  rw [jk2]at h
  split at h
  ·cases h
  ·rename_i d hd;obtain⟨q,hq,rfl⟩:=Option.map_eq_some_iff.mp h;obtain⟨a1,a2,a3,a4⟩:=kkb hq;obtain⟨b1,b2,b3,b4⟩:=qjo K d;refine⟨b1.trans a1,λL hL=>?_,λp' hp'=>?_,λhK=>a4 (b4 hK)⟩
   ·show(jkw K d).2::q.2=_;rw[List.map_cons,a2 L hL,b2 L (a1.trans hL)]
    congr 1
    show _=(match obD rs s z p with
     | some d=>jw9 L d
     | none=>.non)
    rw[hd]
   ·rcases List.mem_cons.mp hp' with e | e
    ·injection e with e;subst e;exact⟨d,hd,b3.mono a1⟩
    ·exact a3 p' e
 | .non::_,_,_,h=>by cases h
 | .bl _::_,_,_,h=>by cases h
 | .str _::_,_,_,h=>by cases h
 | .tup _::_,_,_,h=>by cases h
 | .lst _::_,_,_,h=>by cases h
 | .dct _::_,_,_,h=>by cases h
 | .obj _ _::_,_,_,h=>by cases h
theorem Clo.mono{zs:List Str}{rs A B:List D}{s:D}(h:A <+: B)(hc:Clo zs rs A s):Clo zs rs B s:=λz hz p hp=>by
 obtain⟨e,h1,h2⟩:=hc z hz p hp;exact⟨e,h1,h2.mono h⟩
theorem jvs{rs:List D}{s:D}:∀{zs:List Str} {K:List D} {r:List D×List D},jk1 rs s zs K=some r->K <+: r.1/\(∀L,r.1 <+: L->r.2=jzm zs rs L s)/\Clo zs rs r.1 s/\((∀t∈K,Nrm t)->∀t∈r.1,Nrm t)
 | [],K,r,h=>by
  rw [jk1]at h;cases h;exact⟨Yn,λ_ _=>rfl,(λ_ h=>nomatch h),λh=>h⟩
 | z :: zs,K,r,h=>by
  rw [jk1]at h
  split at h
  ·cases h
  ·rename_i q hq;obtain⟨q2,hq2,rfl⟩:=Option.map_eq_some_iff.mp h;obtain⟨a1,a2,a3,a4⟩:=kkb hq;obtain⟨b1,b2,b3,b4⟩:=jvs hq2;refine⟨a1.trans b1,λL hL=>?_,λz' hz' p hp=>?_,λhK=>b4 (a4 hK)⟩
   ·show D.lst q.2::q2.2=_;rw[b2 L hL,a2 L (b1.trans hL)];rfl
   ·rcases List.mem_cons.mp hz' with rfl | hz'
    ·obtain⟨e,h1,h2⟩:=a3 p hp;exact⟨e,h1,h2.mono b1⟩
    ·exact b3 z' hz' p hp
def Inv(ss:List Str)(rs K rooms:List D):Prop:=rooms.length<=K.length/\(∀i,i<rooms.length->Clo ss rs K (K.getD i .non)/\∀L,K <+: L->rooms[i]?=some (jx9 rs (K.getD i .non) (jzm ss rs L (K.getD i .non))))/\∀t∈K,Nrm t
theorem vz1{ss:List Str}{rs K rooms:List D}{r:Option (List D×List D)}(h:Run ss rs K rooms r):Inv ss rs K rooms->∀q,r=some q->K <+: q.1/\Inv ss rs q.1 q.2/\q.2.length=q.1.length:=by
 induction h with
 | stop h =>
  intro hi q e;cases e;have:=hi.1;exact⟨Yn,hi,Nat.le_antisymm hi.1 (Nat.le_of_not_lt h)⟩
 | fail=>intro _ q e;cases e
 | @go K rooms K' rooms' r hlt e _ ih =>
  intro hi q hq;unfold kja at e;obtain⟨q1,e1,e2⟩:=Option.map_eq_some_iff.mp e;cases e2;obtain⟨a1,a2,a3,a4⟩:=jvs e1;have hlen:K.length<=q1.1.length:=a1.length_le;have hget:∀i,i<K.length->q1.1.getD i .non=K.getD i .non:=λi hi=>vv1 a1 hi
  have hinv:Inv ss rs q1.1 (rooms++[jx9 rs (K.getD rooms.length .non) q1.2]):=by
   refine⟨by rw[X7,Ye];omega,λi hil=>?_,a4 hi.2.2⟩;rw[X7,Ye]at hil
   by_cases h1:i<rooms.length
   ·obtain⟨c1,c2⟩:=hi.2.1 i h1;rw[hget i (by omega)];refine⟨c1.mono a1,λL hL=>?_⟩;rw[Y1 h1];exact c2 L (a1.trans hL)
   ·have:i=rooms.length:=by omega
    subst this;rw[hget _ hlt];refine⟨a3,λL hL=>?_⟩;rw[Xx (X8 _),Nat.sub_self,<-a2 L hL];rfl
  obtain⟨b1,b2,b3⟩:=ih hinv q hq;exact⟨a1.trans b1,b2,b3⟩
section
variable {r:Int->Int}{N:List Int}
theorem wkc(hr:Inj r N){acc:List Int}{d:D}(ha:∀i∈acc,i∈N)(hd:d∈nmV N):insI (acc.map r) (rnD r d)=(insI acc d).map r/\∀i∈insI acc d,i∈N:=by
 rcases wwz hd with rfl | ⟨i,hi,rfl⟩
 ·exact⟨rfl,ha⟩
 ·by_cases hm:i∈acc
  ·have:r i∈acc.map r:=Xg hm;show(if r i∈acc.map r then _ else _)=List.map r (if i∈acc then _ else _)/\∀j∈(if i∈acc then _ else _),j∈N;rw[Xf this,Xf hm];exact⟨rfl,ha⟩
  ·have:r i∉acc.map r:=λh=>by
    obtain⟨j,hj,e⟩:=List.mem_map.mp h;rw[hr j (ha j hj) i hi e]at hj;exact hm hj
   show(if r i∈acc.map r then _ else _)=List.map r (if i∈acc then _ else _)/\∀j∈(if i∈acc then _ else _),j∈N;rw[Xj this,Xj hm];refine⟨by rw[Xs];rfl,λj hj=>?_⟩;rcases List.mem_append.mp hj with z | z
   ·exact ha j z
   ·rw[List.mem_singleton.mp z];exact hi
theorem qwj(hr:Inj r N):∀{ks:List D} {acc:List Int},(∀k∈ks,k∈nmV N)->(∀i∈acc,i∈N)->(ks.map (rnD r)).foldl insI (acc.map r)=(ks.foldl insI acc).map r/\∀i∈ks.foldl insI acc,i∈N
 | [],acc,_,ha=>⟨rfl,ha⟩
 | k::ks,acc,hk,ha=>by
  obtain⟨h1,h2⟩:=wkc hr ha (hk k X4);rw[List.map_cons,Yh,Yh,h1];exact qwj hr (λk h=>hk k (lc9 _ h)) h2
theorem wjo(hr:Inj r N){ks:List D}(hk:∀k∈ks,k∈nmV N):jk5 (ks.map (rnD r))=(jk5 ks).map r/\∀i∈jk5 ks,i∈N:=qwj (acc:=[]) hr hk (λ_ h=>nomatch h)
end
def plI(ns:List Int)(i:Int):Int:=(ns.findIdx λw=>w==i:Nat)
theorem vj7{ns:List Int}{p:Int}:Inj (plI ns) (ns++[p]):=λa ha b hb e=>by
 have e:ns.findIdx (λw=>w==a)=ns.findIdx (λw=>w==b):=by unfold plI at e;omega
 have g:∀{x:Int},x∈ns->∃h:ns.findIdx (λw=>w==x)<ns.length,ns[ns.findIdx (λw=>w==x)]'h=x:=fun {x} hx=>⟨jwy hx,by simpa using List.findIdx_getElem (p:=λw=>w==x) (w:=jwy hx)⟩
 have nf:∀{x:Int},x∉ns->ns.findIdx (λw=>w==x)=ns.length:=fun {x} hx=>wvz (by rw[kvo];exact X9 hx)
 by_cases h1:a∈ns
 ·obtain⟨l1,q1⟩:=g h1
  by_cases h2:b∈ns
  ·obtain⟨l2,q2⟩:=g h2;rw[<-q1,<-q2]
   congr 1
  ·rw[nf h2]at e;omega
 ·by_cases h2:b∈ns
  ·obtain⟨l2,q2⟩:=g h2;rw[nf h1]at e;omega
  ·have ha':a=p:=by rcases List.mem_append.mp ha with z | z;exact absurd z h1;exact List.mem_singleton.mp z
   have hb':b=p:=by rcases List.mem_append.mp hb with z | z;exact absurd z h2;exact List.mem_singleton.mp z
   rw[ha',hb']
theorem wvb(ks:List D):pr ks=ks.map (rnD (plI (jk5 ks))):=by
 unfold pr;refine List.map_congr_left λd _=>?_
 cases d<;>rfl
theorem wk1{ks:List D}{p:Int}(hk:∀k∈ks,At k):∀k∈ks,k∈nmV (jk5 ks++[p]):=λk hm=>by
 rcases hk k hm with rfl | ⟨i,rfl⟩
 ·exact X4
 ·exact lc9 _ (Xg (ll9 _ (qj4 hm)))
theorem vk6{ks:List D}(hk:∀k∈ks,At k):jk5 (pr ks)=(jk5 ks).map (plI (jk5 ks)):=by
 rw[wvb];exact(wjo (vj7 (p:=0)) (wk1 hk)).1
theorem jzb{ks:List D}(hk:∀k∈ks,At k):(jk5 (pr ks)).length=(jk5 ks).length:=by rw[vk6 hk,X3]
theorem qwk:∀{ks:List D} {acc:List Int},acc.Nodup->(ks.foldl insI acc).Nodup
 | [],_,h=>h
 | k::ks,acc,h=>qwk (ks:=ks) (qw7 h k)
theorem vk8(ks:List D):(jk5 ks).Nodup:=qwk Xv
def qzo(s:D):D:=match s with
 | .tup [room,.tup ks]=>.tup [room,.tup (pr ks)]
 | d=>d
end F
noncomputable section
namespace F
open Q PySem C
theorem vw2{ss:List Str}{rs:List D}{kps:List Int}(hR:Rms rs)(hx:Rx ss kps rs)(h3:∀k∈kps,k<=3){K rooms:List D}{r:Option (List D×List D)}(h:Run ss rs K rooms r):Kin kps V4 K->∀q,r=some q->Kin kps V4 q.1:=by
 have cs:∀{s:D} {z:Str},SokV kps V4 s->∀{ps K:List D} {r:List D×List D},(∀d∈ps,d∈V4)->Kin kps V4 K->jk2 rs s z ps K=some r->Kin kps V4 r.1:=fun {s z} hs {ps}=>by
  induction ps with
  | nil=>intro K r _ hK h;rw[jk2]at h;cases h;exact hK
  | cons d ps ih =>
   intro K r hp hK h;cases d with
   | int p =>
    rw[jk2]at h
    split at h
    ·cases h
    ·rename_i d hd;obtain⟨q,hq,rfl⟩:=Option.map_eq_some_iff.mp h;exact ih (r:=q) (λd hd=>hp d (lc9 _ hd)) (kj8 h3 hK (qzr hR hx hs (hp _ X4) hd)) hq
   | non=>cases h
   | bl=>cases h
   | str=>cases h
   | tup=>cases h
   | lst=>cases h
   | dct=>cases h
   | obj=>cases h
 have sg:∀{s:D},SokV kps V4 s->∀{zs:List Str} {K:List D} {r:List D×List D},Kin kps V4 K->jk1 rs s zs K=some r->Kin kps V4 r.1:=fun {s} hs {zs}=>by
  induction zs with
  | nil=>intro K r hK h;rw[jk1]at h;cases h;exact hK
  | cons z zs ih =>
   intro K r hK h;rw[jk1]at h
   split at h
   ·cases h
   ·rename_i q hq;obtain⟨q2,hq2,rfl⟩:=Option.map_eq_some_iff.mp h;refine ih (r:=q2) (cs hs (λd hd=>?_) hK hq) hq2;obtain⟨room,ks,rfl,_,_,_,_,_⟩:=id hs;have hl3:=(jqd h3 hs).2;have hnl:=jqt ks;rw[jqx]at hd;obtain⟨i,i0,i1,rfl⟩:=jqu hd;have:i=0\/i=1\/i=2\/i=3:=by omega
    rcases this with rfl | rfl | rfl | rfl<;>simp[V4]
 induction h with
 | stop h=>intro hK q e;cases e;exact hK
 | fail=>intro _ q e;cases e
 | @go K rooms K' rooms' r hlt e _ ih =>
  intro hK q eq;unfold kja at e;obtain⟨p,hp,e2⟩:=Option.map_eq_some_iff.mp e;cases e2;exact ih (sg (hK.2 _ (by rw[X2,X0 hlt];exact Xk _)) hK hp) q eq
theorem wwa{ks:List D}(h:∀k∈pr ks,At k):∀k∈ks,At k:=λk hk=>by
 have:=h (plc (jk5 ks) k) (by unfold pr;exact Xg hk);cases k with
 | int i=>exact .inr ⟨i,rfl⟩
 | non=>exact .inl rfl
 | bl=>exact this
 | str=>exact this
 | tup=>exact this
 | lst=>exact this
 | dct=>exact this
 | obj=>exact this
structure Pf (ss:List Str)(rs:List D)(kps:List Int)(K rooms:List D):Prop where
 ms:Rms rs
 rx:Rx ss kps rs
 le:∀k∈kps,k<=3
 kin:Kin kps V4 K
 inv:Inv ss rs K rooms
 len:rooms.length=K.length
def jvg(K:List D):List Int:=K.map λs=>((jk5 (jzy s)).length:Int)
section
variable {ss:List Str}{rs:List D}{kps:List Int}{K rooms:List D}
theorem jw5{t:D}(h:t∈K):K.idxOf t<K.length:=List.idxOf_lt_length_iff.mpr h
theorem qwd{t:D}(h:t∈K):K.getD (K.idxOf t) .non=t:=by
 rw[X2,X0 (jw5 h)];exact List.getElem_idxOf (jw5 h)
theorem Pf.at_(h:Pf ss rs kps K rooms){t:D}(ht:t∈K):Clo ss rs K t/\rooms[K.idxOf t]?=some (jx9 rs t (jzm ss rs K t)):=by
 obtain⟨h1,h2⟩:=h.inv.2.1 (K.idxOf t) (by rw[h.len];exact jw5 ht);rw[qwd ht]at h1 h2;exact⟨h1,h2 K Yn⟩
theorem Pf.is(h:Pf ss rs kps K rooms){t:D}(ht:t∈K):∃(room:Int) (ks:List D) (gd:Bool),t=.tup [.int room,.tup (pr ks)]/\SokV kps V4 t/\(∀k∈ks,At k)/\(jk5 (pr ks)).length<=3/\goodD rs t=.bl gd/\wkg rs t=gd:=by
 obtain⟨room,ks,e⟩:=h.inv.2.2 t ht;have hs:=h.kin.2 t ht;obtain⟨room',ks',e',r0,r1,hl,ha,hV⟩:=id hs;rw[e]at e';injection e' with e';injection e' with e1 e';injection e' with e2 _;injection e2 with e2;subst e1 e2;obtain⟨gd,st,hg,_⟩:=h.rx.2 room'.toNat (by omega);have:=wk2 h.le r0 r1;have:=jqt (pr ks);refine⟨room',ks,gd,e,hs,wwa ha,by omega,by rw[e];unfold goodD;dsimp only;rw[hg],by rw[e];unfold wkg;dsimp only;rw[X2,hg];rfl⟩
theorem Pf.prs(h:Pf ss rs kps K rooms):Prs (jvg K) ss.length rooms:=by
 refine⟨by unfold jvg;rw[X3];exact h.len,λi hi=>?_⟩;unfold jvg at hi;rw [X3]at hi;obtain⟨hclo,hrm⟩:=h.inv.2.1 i (by rw[h.len];exact hi);have hrm:=hrm K Yn;have htm:K.getD i .non∈K:=by rw[X2,X0 hi];exact Xk _
 have hkp:(jvg K).getD i 0=((jk5 (jzy (K.getD i .non))).length:Int):=by
  unfold jvg;rw [X2,Xi,X2,X0 hi];rfl
 rw [hkp];generalize K.getD i .non=t at *;obtain⟨room,ks,gd,rfl,hs,ha,hn3,hgd,_⟩:=h.is htm;refine⟨_,hrm,gd,_,by unfold jx9;rw[hgd],by unfold jzm;rw[X3],λc hc=>?_⟩;unfold jzm at hc;obtain⟨z,hz,rfl⟩:=List.mem_map.mp hc;have hnn:=vk6 ha;have hnl:=jzb ha;rw [jqx];have hrl:((kqs (.tup [.int room,.tup (pr ks)])).length:Int)=(jk5 (pr ks)).length+1:=by unfold kqs;rw[jqx,kve (by omega)];omega
 refine⟨_,rfl,by rw[X3];exact hrl,λk hk=>?_⟩;rw [X3]at hk;have hk1:(k:Int)<(jk5 (pr ks)).length+1:=by omega
 have hget:(kqs (.tup [.int room,.tup (pr ks)]))[k]?=some (.int k):=by unfold kqs;rw[jqx];exact kjj hk1
 refine⟨jzh rs (.tup [.int room,.tup (pr ks)]) z K (.int k),by rw[Xi,hget];rfl,?_⟩;obtain⟨e,he,hle⟩:=hclo z hz k (Xp hget);have hcl:jzh rs (.tup [.int room,.tup (pr ks)]) z K (.int k)=jw9 K e:=by unfold jzh;dsimp only;rw[he]
 rw [hcl];obtain⟨room1,ks1,e1,r0,r1,hl,hat,hV⟩:=id hs;injection e1 with e1;injection e1 with e1 e2;injection e2 with e2 _;injection e1 with e1;injection e2 with e2;subst e1 e2;have hin:SokV kps (nmV (jk5 (pr ks)++[(k:Int)])) (.tup [.int room,.tup (pr ks)]):=⟨room,pr ks,rfl,r0,r1,hl,hat,wk1 hat⟩;have hnx:=qj5 (w:=(z,(k:Int))) h.ms h.rx X4 (lc9 _ (Xg (by simp))) hin;have hcase:e=.non\/SokV kps (nmV (jk5 (pr ks)++[(k:Int)])) e:=by
  unfold obD at he
  split at he
  ·cases he;exact .inl rfl
  ·rename_i d' e';cases he;exact .inr (hnx e (by rw[e'];exact List.mem_singleton.mpr rfl))
  ·cases he
 rcases hcase with rfl | ⟨room',ks',rfl,q0,q1,q2,q3,q4⟩
 ·exact .inl rfl
 ·have hpm:=hle (.int room') ks' rfl;refine .inr ⟨_,jk5 ks',rfl,by omega,by unfold jvg;rw[X3];have:=jw5 hpm;omega,λf hf=>?_,vk8 _,?_⟩
  ·have hfm:=q4 _ (vk7 hf);rcases wwz hfm with z' | ⟨j,hj,e'⟩
   ·cases z'
   ·injection e' with e';subst e';have hkl:(k:Int)<=(jk5 (pr ks)).length:=by omega
    unfold vwu;rcases List.mem_append.mp hj with y | y
    ·rw[hnn]at y;obtain⟨x,hx,rfl⟩:=List.mem_map.mp y;have:=jwy hx;unfold plI
     split<;>omega
    ·rw[List.mem_singleton.mp y]
     split<;>omega
  ·rw[Yb];unfold jvg;rw[X2,Xi,X0 (jw5 hpm),List.getElem_idxOf (jw5 hpm)];show _=((jk5 (jzy (.tup [.int room',.tup (pr ks')]))).length:Int);rw[jqx,jzb q3]
end
end F
noncomputable section
namespace G
open Q PySem C F
def jq3:Fn:=fn 1
  (jkd (vjg (vE (cF2 (pu2 fLe) (vE (cF1 (pu1 jqz) (jjb (vV 0) (vE (cC (.int 1)))))) (vE (cC (.int 12))))) (cF1 (pu1 wkm) (vE (cLC .rt 1 [] (itS (cH (jjb (vV 0) (vE (cC (.int 1)))))) (.n 0) tYes (cF2 (pu2 fLe) (jjb (vV 0) (vE (cC (.int 0)))) (vE (cC (.int 3)))))))))
def jkj:Fn:=fn 2
  (jkd (cF1 jqi (vE (cLC .rt 1 [1] (itS (cV 0)) (.n 0) tYes (cIf (tE (cF2 (pu2 fEq) (vV 0) (vV 1))) (cC (.str "new")) (cV 0))))))
def jq2:Fn:=fn 8
  (jjc (jjk 2 (jv0 .rt []))
  (jjc (jwi (qw5 (cV 0) (cH (jjb (vV 1) (vE (cC (.int 2)))))) (.t [3,4]) (jwi (qzx (cV 4)) (.t [5,6]) (sIf (tE (cF2 (f2First fNotNon) (vV 6) (vE (cC .non)))) (jjc (jjk 7 (cIf (tE (cF2 (pu2 fEq) (vV 5) (jjb (vV 1) (vE (cC (.int 0)))))) (cC (.str "fresh")) (cV 5)))
  (jke jvn 2 (jvh .no [(cV 3),(cV 7),(cH (jjb (vV 6) (vE (cC (.int 0))))),(jjj jkj [(cH (jjb (vV 6) (vE (cC (.int 1))))),(cH (jjb (vV 1) (vE (cC (.int 0)))))])]))) jjw)))
  (jkd (cMv 2))))
def m__law_many:Fn:=fn 4
  (jjc (jjk 1 (cC (.int 0)))
  (jjc (jwi (itS (cH (jjb (vV 0) (vE (cC (.int 1)))))) (.n 2) (jwi (itS (cH (jjb (vV 2) (vE (cC (.int 2)))))) (.n 3) (jjk 1 (cF2 jk7 (vV 1) (vE (cF1 (pu1 jqz) (vE (cLC .rt 1 [] (itS (cV 3)) (.n 0) (tE (cF2 (f2First fNotNon) (vV 0) (vE (cC .non)))) (cV 0)))))))))
  (jkd (cMv 1))))
def m_machine_of(rz:Sm):Fn:=fn 2
  (jjc (jjk 1 (cLC .rt 1 [0] (itS (cH (jjb (vV 0) (vE (cC (.int 1)))))) (.n 0) tYes (jvh .no [(cH (jjb (vV 0) (vE (cC (.int 0))))),(cH (jjb (vV 0) (vE (cC (.int 1))))),(jjj jq2 [(cH (jjb (vV 1) (vE (cC (.int 0))))),(cV 0)])])))
  (jjc (sIf (tOr (tNot (tEQ (vE (jjj jq3 [(cV 0)])))) (tE (cF2 (pu2 fGt) (vE (cF1 (pu1 vxb) (vE (cLC .rt 1 [] (itS (cV 1)) (.n 0) tYes (cF1 (pu1 jqz) (jjb (vV 0) (vE (cC (.int 2))))))))) (vE (cC (.int 120)))))) rz jjw)
  (jkd (jvh .no [(cF1 jze (jjb (vV 0) (vE (cC (.int 0))))),(cV 1)]))))
def fl(own:Int):D->D
 | .int f=>if f=own then .str "new" else .int f
 | d=>d
theorem qwn{own f:Int}(h:f=own):fl own (.int f)=.str "new":=Xf h
theorem vwf{own f:Int}(h:f≠own):fl own (.int f)=.int f:=Xj h
def qxf(own:Int)(k:Nat):D:=if(k:Int)=own then .str "fresh" else .int k
def stp(z:Str)(own:Int)(k:Nat):D->List D
 | .tup [to,.tup fs]=>[.tup [.str z,qxf own k,to,.tup (fs.map (fl own))]]
 | _=>[]
def stC(z:Str)(own:Int):Nat->List D->List D
 | _,[]=>[]
 | k,c::cs=>stp z own k c++stC z own (k+1) cs
def stR(own:Int):List Str->List D->List D
 | z::ss,.lst cs::rows=>stC z own 0 cs++stR own ss rows
 | _,_=>[]
def jvz(ss:List Str):D->D
 | .tup [.int own,g,.lst rows]=>.tup [.int own,g,.lst (stR own ss rows)]
 | d=>d
theorem qqb(z:Str)(own:Int):∀(a b:List D) (k:Nat),stC z own k (a++b)=stC z own k a++stC z own (k+a.length) b
 | [],b,k=>by simp[stC]
 | c::a,b,k=>by
  rw[List.cons_append,stC,stC,qqb z own a b (k+1),Xd,Xr]
  congr 3
  omega
theorem qq9(own:Int):∀(s1 s2:List Str) (r1 r2:List D),s1.length=r1.length->(∀r∈r1,∃cs,r=.lst cs)->stR own (s1++s2) (r1++r2)=stR own s1 r1++stR own s2 r2
 | [],s2,[],r2,_,_=>by simp[stR]
 | z::s1,s2,r::r1,r2,h,hr=>by
  obtain⟨cs,rfl⟩:=hr r X4;rw[List.cons_append,List.cons_append,stR,stR,qq9 own s1 s2 r1 r2 (by simpa using h) (λr hr'=>hr r (lc9 _ hr')),Xr]
 | [],_,_::_,_,h,_=>by simp at h
 | _::_,_,[],_,h,_=>by simp at h
theorem vqb(z:Str)(own:Int)(k:Nat)(c:D):(stp z own k c).length<=1:=by
 unfold stp;split<;>simp
theorem kjb(z:Str)(own:Int):∀(cs:List D) (k:Nat),(stC z own k cs).length<=cs.length
 | [],_=>by simp[stC]
 | c::cs,k=>by
  have:=kjb z own cs (k+1);have:=vqb z own k c;rw[stC,X7,Xd];omega
theorem jxj(fs:List Int)(own:Int):Oo jkj [(.no,.tup (fs.map D.int)),(.no,.int own)] (λy=>∃_:Unit,y=(.no,.tup ((fs.map D.int).map (fl own)))/\True) noX:=by
 unfold jkj;refine jq7 ?_;simp! only[];refine jvb [some (.no,.int own)] (λd y=>y.2=fl own d) ?_;simp! only[];refine⟨rfl,λd hd=>?_,λys hy=>?_⟩
 ·obtain⟨f,hf,rfl⟩:=List.mem_map.mp hd
  by_cases h:f=own
  ·have hq:(f==own)=true:=by simp[h]
   simp! only[jvo,hq];exact⟨⟨_,rfl⟩,(qwn h).symm⟩
  ·have hq:(f==own)=false:=by simp[h]
   simp! only[jvo,hq];exact⟨⟨_,rfl⟩,(vwf h).symm⟩
 ·rw[jql,jq8 (h:=fl own) (λd y h=>h) hy];simp only[back,clr,at',List.map_cons,List.map_nil,List.set_cons_zero,List.set_cons_succ];simp! only[qk2 (o:=.no) (xs:=(fs.map D.int).map (fl own)) (by decide)]
  first | trivial | exact⟨(),trivial⟩| exact⟨(),rfl,trivial⟩
def Rws(kps:List Int)(own:Int)(rows:List D):Prop:=∀c∈rows,∃cs:List D,c=.lst cs/\(cs.length:Int)=own+1/\∀k:Nat,k<cs.length->∃z,cs[k]?=some z/\Cs kps (vwu own k) z
theorem kxd {kps:List Int} {ss:List Str} {own:Int} {gd:Bool} {rows:List D} (hs:ss.length<=3) (hk4:own<=4) (hrl:rows.length=ss.length) (hrows:Rws kps own rows) (hkp:∀p∈kps,0<=p/\p<=3):
  Oo jq2 [(.no,sL ss),(.no,.tup [.int own,.bl gd,.lst rows])] (λy=>∃_:Unit,y=(.rt,.lst (stR own ss rows))/\True) noX:=by
 have hz:(if(ss.map D.str).length<=big then some (kvu (ss.map D.str) rows)else none)=some (kvu (ss.map D.str) rows):=by
  rw [Xf (by unfold big;simp;omega)]
 rw [X3]at hz;unfold jq2;refine jq7 ?_;simp! only[];refine jvf (λE jkp=>∃(s1 s2:List Str) (r1 r2:List D) (l3 l4 l5 l6 l7:Option Sd),E=[some (.no,sL ss),some (.no,.tup [.int own,.bl gd,.lst rows]),some (.rt,.lst (stR own s1 r1)),l3,l4,l5,l6,l7]/\jkp=kvu (s2.map D.str) r2/\ss=s1++s2/\rows=r1++r2/\s1.length=r1.length/\(stR own s1 r1).length<=5*r1.length) ?_ ?_ ?_
 ·simp! only[t2,Option.bind_some,hz];exact ⟨[],ss,[],rows,_,_,_,_,_,rfl,rfl,rfl,rfl,rfl,by simp[stR]⟩
 ·rintro E d ds ⟨s1,s2,r1,r2,l3,l4,l5,l6,l7,rfl,hr,hes,her,hlr,hst⟩;cases s2 with
  | nil=>cases hr
  | cons z s2 =>
   cases r2 with
   | nil=>cases hr
   | cons r r2 =>
    rw [List.map_cons,kvu]at hr;injection hr with e1 e2;subst e1 e2;obtain⟨cs,rfl,hcl,hcs⟩:=hrows r (by rw[her];simp);have hlen:=congrArg List.length her;rw [X7,Xd]at hlen;simp! only[];refine jvf (λE jkp=>∃(c1 c2:List D) (l5 l6 l7:Option Sd),E=[some (.no,sL ss),some (.no,.tup [.int own,.bl gd,.lst rows]),some (.rt,.lst (stR own s1 r1++stC z own 0 c1)),some (.no,.str z),some (.no,.lst cs),l5,l6,l7]/\jkp=jvp c1.length c2/\cs=c1++c2) ?_ ?_ ?_
    ·simp! only[];exact⟨[],cs,_,_,_,by rw[show stC z own 0 []=[]from rfl,Xq],rfl,rfl⟩
    ·rintro E d ds ⟨c1,c2,l5,l6,l7,rfl,hr2,he2⟩;cases c2 with
     | nil=>cases hr2
     | cons c c2 =>
      rw[jvp]at hr2;injection hr2 with e1 e2;subst e1 e2;have hcl1:=congrArg List.length he2;rw[X7,Xd]at hcl1;have hnx:jvp (c1.length+1) c2=jvp (c1++[c]).length c2:=by simp
      have hsn:stC z own 0 (c1++[c])=stC z own 0 c1++stp z own c1.length c:=by rw[qqb];simp[stC]
      have hb:=kjb z own c1 0;obtain⟨c',hc',hC⟩:=hcs c1.length (by omega);have:c'=c:=by rw[he2,Xx (X8 _)]at hc';simpa using hc'.symm
      subst this;rcases hC with rfl | ⟨to,fs,rfl,_,_,_,_,hfl⟩
      ·simp! only[];exact⟨c1++[.non],c2,_,_,_,by rw[hsn,show stp z own c1.length .non=[]from rfl,Xq],hnx,by rw[he2];simp⟩
      ·have key:∀a:D,a=qxf own c1.length->stR own s1 r1++stC z own 0 c1++[.tup [.str z,a,.int to,.tup ((fs.map D.int).map (fl own))]]=stR own s1 r1++stC z own 0 (c1++[.tup [.int to,.tup (fs.map D.int)]]):=λa ha=>by rw[hsn,ha];simp[stp]
       by_cases hq0:(c1.length:Int)=own
       ·have hq:((c1.length:Int)==own)=true:=by simp[hq0]
        have ha:=key (.str "fresh") (by unfold qxf;rw[Xf hq0]);simp! only[t0,jvo,hq];refine jwm rfl ?_;simp! only[p0,p1,t0];refine(jxj fs own).use ?_;intro _ _;simp! only[];refine⟨_,rfl,by rw[X7];omega,c1++[.tup [.int to,.tup (fs.map D.int)]],c2,_,_,_,by rw[ha],hnx,by rw[he2];simp⟩
       ·have hq:((c1.length:Int)==own)=false:=by simp[hq0]
        have ha:=key (.int c1.length) (by unfold qxf;rw[Xj hq0]);simp! only[t0,jvo,hq];refine jwm rfl ?_;simp! only[p0,p1,t0];refine(jxj fs own).use ?_;intro _ _;simp! only[];refine⟨_,rfl,by rw[X7];omega,c1++[.tup [.int to,.tup (fs.map D.int)]],c2,_,_,_,by rw[ha],hnx,by rw[he2];simp⟩
    ·rintro E ⟨c1,c2,l5,l6,l7,rfl,hr2,he2⟩;cases c2 with
     | cons=>cases hr2
     | nil =>
      rw[Xq]at he2;subst he2;have hlst:∀r∈r1,∃cs,r=D.lst cs:=λr hr=>by
       obtain⟨cs,e,_⟩:=hrows r (by rw[her];exact ll9 _ hr);exact⟨cs,e⟩
      have e3:stR own s1 r1++stC z own 0 cs=stR own (s1++[z]) (r1++[.lst cs]):=by rw[qq9 own s1 [z] r1 [.lst cs] hlr hlst];simp[stR]
      have hb:=kjb z own cs 0;refine⟨s1++[z],s2,r1++[.lst cs],r2,_,_,_,_,_,by rw[e3],rfl,by rw[hes];simp,by rw[her];simp,by simp[hlr],?_⟩;rw[<-e3,X7,X7,Ye];omega
 ·rintro E ⟨s1,s2,r1,r2,l3,l4,l5,l6,l7,rfl,hr,hes,her,hlr,hst⟩;cases r2 with
  | cons r r2 =>
   cases s2 with
   | nil =>
    have h1:=congrArg List.length hes;have h2:=congrArg List.length her;simp at h1 h2;omega
   | cons=>cases hr
  | nil =>
   have h1:=congrArg List.length hes;have h2:=congrArg List.length her;simp at h1 h2;have:s2=[]:=List.eq_nil_of_length_eq_zero (by omega);subst this;rw[Xq]at her hes;subst her hes;simp! only[]
   first | trivial | exact⟨(),trivial⟩| exact⟨(),rfl,trivial⟩
theorem wx3:∀rs:List D,bls (rs.map λ_=>D.bl true)=some (rs.map λ_=>true)
 | []=>rfl
 | r::rs=>by rw[List.map_cons,bls,wx3 rs];rfl
theorem vwz(rs:List D):wkm (.lst (rs.map λ_=>D.bl true))=some (.bl true):=by
 show(bls (rs.map λ_=>D.bl true)).map (λbs=>D.bl (bs.all id))=_;rw[wx3,Option.map_some,List.all_map];simp
def qks:D->Nat
 | .tup [_,_,.lst st]=>st.length
 | _=>0
def RmL(d:D):Prop:=∃(a b:D) (st:List D),d=.tup [a,b,.lst st]/\st.length<=15
theorem qjb:∀rms:List D,kjz (rms.map λd=>D.int (qks d))=some (rms.map λd=>(qks d:Int))
 | []=>rfl
 | d::r=>by rw[List.map_cons,kjz,qjb r];rfl
theorem kzg:∀rms:List D,(rms.map λd=>(qks d:Int)).sum=((rms.map qks).sum:Nat)
 | []=>rfl
 | d::r=>by rw[List.map_cons,List.sum_cons,kzg r,List.map_cons,List.sum_cons];omega
theorem vqa{rms:List D}(h:∀m∈rms,RmL m)(hl:rms.length<=1100):vxb (.lst (rms.map λd=>D.int (qks d)))=some (.int ((rms.map qks).sum:Nat)):=by
 unfold vxb;dsimp only;rw[qjb];dsimp only;have hs:kw1 (rms.map λd=>(qks d:Int))=true:=by
  unfold kw1;rw[Yw];intro i hi;obtain⟨d,hd,rfl⟩:=List.mem_map.mp hi;obtain⟨a,b,st,rfl,hst⟩:=h d hd;have:(qks (.tup [a,b,.lst st]):Int)=st.length:=rfl;rw[Xb (by omega),Xb (by omega)];rfl
 rw[Xf ⟨hs,by rw[X3];omega⟩,kzg]
theorem vvw{rms:List D}(hm:∀m∈rms,RmL m){it:Ev (List D)}{E:En}{P:En->Sd->Prop}{X:XP}(h0:Eo (it E) (λE1 ds=>ds=rms/\P E1 (.rt,.lst (rms.map λd=>D.int (qks d)))) X):Eo (cLC .rt 1 [] it (.n 0) tYes (cF1 (pu1 jqz) (jjb (vV 0) (vE (cC (.int 2))))) E) P X:=by
 refine jvb [] (λd y=>y.2=D.int (qks d)) ?_;refine h0.mono ?_;rintro E1 ds ⟨rfl,hP⟩;refine⟨rfl,λd hd=>?_,λys hy=>?_⟩
 ·obtain⟨a,b,st,rfl,hst⟩:=hm d hd;simp! only[t2];exact⟨⟨_,rfl⟩,rfl⟩
 ·rw[jql,jq8 (h:=λd=>D.int (qks d)) (λd y h=>h) hy];exact hP
def Plr(kps:List Int)(ss:List Str)(d:D):Prop:=∃(own:Int) (gd:Bool) (rows:List D),d=.tup [.int own,.bl gd,.lst rows]/\0<=own/\own<=3/\rows.length=ss.length/\Rws kps own rows
theorem qz2{ss:List Str}{rs:List D}(h:∀r∈rs,∃(own:Int) (a b:D),r=.tup [.int own,a,b]/\own<=3):Oo jq3 [(.no,jwf ss rs)] (λy=>y.2=.bl (decide ((rs.length:Int)<=12))) noX:=by
 unfold jq3;refine jq7 ?_
 by_cases hl:(rs.length:Int)<=12
 ·have hd:decide ((rs.length:Int)<=12)=true:=Xb hl;rw[hd];simp! only[p1,hd];refine jvb [] (λ_ y=>y.2=D.bl true) ?_;simp! only[p1];refine⟨λd hd=>?_,λys hy=>?_⟩
  ·obtain⟨own,a,b,rfl,ho⟩:=h d hd;have hd3:decide (own<=3)=true:=Xb ho;simp! only[t0,hd3];exact⟨⟨_,rfl⟩,trivial⟩
  ·rw[jql,jq8 (h:=λ_=>D.bl true) (λd y h=>h) hy];simp! only[vwz rs]
 ·have hd:decide ((rs.length:Int)<=12)=false:=X9 hl;rw[hd];simp! only[p1,hd]
def tot(ss:List Str)(rooms:List D):Nat:=((rooms.map (jvz ss)).map qks).sum
theorem kzp{kps:List Int}{ss:List Str}{d:D}(hs:ss.length<=3)(h:Plr kps ss d):RmL (jvz ss d):=by
 obtain⟨own,gd,rows,rfl,h0,h3,hl,hr⟩:=h;refine⟨.int own,.bl gd,stR own ss rows,rfl,?_⟩;have:∀(zs:List Str) (rws:List D),(∀r∈rws,∃cs:List D,r=.lst cs/\(cs.length:Int)<=4)->(stR own zs rws).length<=4*zs.length:=by
  intro zs
  induction zs with
  | nil=>intro rws _;cases rws<;>simp[stR]
  | cons z zs ih =>
   intro rws hrw;cases rws with
   | nil=>simp[stR]
   | cons r rws =>
    obtain⟨cs,rfl,hc⟩:=hrw r X4;rw[stR,X7,Xd];have h1:=kjb z own cs 0;have h2:=ih rws λr hr=>hrw r (lc9 _ hr)
    omega
 have:=this ss rows λr hr'=>by
  obtain⟨cs,e,hc,_⟩:=hr r hr';exact⟨cs,e,by omega⟩
 omega
theorem kvc{rz:Sm}{kps:List Int}{ss:List Str}{rooms:List D}{X:XP}(hs:ss.length<=3)(hl:rooms.length<=1100)(hk:∀p∈kps,0<=p/\p<=3)(h:∀r∈rooms,Plr kps ss r)
  (hrz:∀(e:Option Sd) (E:En) (N C:En->Prop) (R:Sd->Prop),X "TooGreat"->Po (rz (e::E)) N C R X) (hX:¬(rooms.length<=12/\tot ss rooms<=120)->X "TooGreat"):
  Oo (m_machine_of rz) [(.no,jwf ss rooms)] (λy=>y=(.no,jwf ss (rooms.map (jvz ss)))/\rooms.length<=12/\tot ss rooms<=120) X:=by
 have hrm:∀m∈rooms.map (jvz ss),RmL m:=λm hm=>by
  obtain⟨d,hd,rfl⟩:=List.mem_map.mp hm;exact kzp hs (h d hd)
 have hsum:=vqa hrm (by rw[X3];exact hl);unfold m_machine_of;refine jq7 ?_;simp! only[];refine jvb [some (.no,jwf ss rooms)] (λd y=>y.2=jvz ss d) ?_;simp! only[p1];refine⟨rfl,λd hd=>?_,λys hy=>?_⟩
 ·obtain⟨own,gd,rows,rfl,h0,h3,hl',hr⟩:=h d hd;simp! only[t0,t1,p0];refine(kxd hs (by omega) hl' hr hk).any.use ?_;intro _ _;simp! only[];exact⟨⟨_,rfl⟩,rfl⟩
 ·rw[jql,jq8 (h:=jvz ss) (λd y h=>h) hy];simp only[back,clr,at',List.map_cons,List.map_nil,List.set_cons_zero,List.set_cons_succ];simp! only[];refine(qz2 (ss:=ss) (rs:=rooms) λr hr=>by
   obtain⟨own,gd,rows,e,_,h3,_⟩:=h r hr;exact⟨own,_,_,e,h3⟩).any.via ?_
  rintro ⟨o,d⟩ hd;have hd:d=.bl (decide ((rooms.length:Int)<=12)):=hd;subst hd
  by_cases hc:(rooms.length:Int)<=12
  ·have e1:decide ((rooms.length:Int)<=12)=true:=Xb hc;rw[e1];simp! only[];refine vvw hrm ?_
   by_cases ht:tot ss rooms<=120
   ·have e2:decide ((120:Int)<((tot ss rooms:Nat):Int))=false:=X9 (by omega);unfold tot at e2;simp! only[hsum,e2,p0,kwm (o:=.no) (xs:=ss.map D.str) (by decide)]
    first | exact⟨rfl,by omega,ht⟩| exact⟨rfl,rfl,by omega,ht⟩| exact⟨by omega,ht⟩
   ·have e2:decide ((120:Int)<((tot ss rooms:Nat):Int))=true:=Xb (by omega);unfold tot at e2;simp! only[hsum,e2]
    first | exact hrz _ _ _ _ _ (hX λz=>ht z.2)| exact⟨rfl,hrz _ _ _ _ _ (hX λz=>ht z.2)⟩
  ·have e1:decide ((rooms.length:Int)<=12)=false:=X9 hc;rw[e1];simp! only[];exact hrz _ _ _ _ _ (hX λz=>hc (by omega))
end G
noncomputable section
namespace G
open Q PySem C F
theorem kq5{ks:List D}{q:Int}{p:D->Bool}:∀{l pre:List D},(jkz p pre.length l).map (bh ks (pre++l) q)=(l.filter p).map (jqv ks (.int q))
 | [],_=>rfl
 | d::l,pre=>by
  have ih:=kq5 (ks:=ks) (q:=q) (p:=p) (l:=l) (pre:=pre++[d]);rw[X7,Ye,Xr,Y9]at ih
  by_cases h:p d=true
  ·rw[List.filter_cons_of_pos h,List.map_cons];unfold jkz;rw[Xf h,List.map_cons,ih,vjh (by simp)]
   congr 2
   simp
  ·rw[List.filter_cons_of_neg h];unfold jkz;rw[Xj h,ih]
theorem kwl{rs ks st:List D}{room:Int}{kp gd:D}{z:Str}{p:Int}(hr:rs[room.toNat]?=some (.tup [kp,gd,.lst st])):kv8 rs (z,p) (.tup [.int room,.tup ks])=(st.filter (kks z ks (.int p))).map (jqv ks (.int p)):=by
 unfold kv8;rw[qxx hr,jqx];exact kq5 (pre:=[])
theorem kzj{z:Str}{own:Int}:∀{cs:List D} {k:Nat},∀d∈stC z own k cs,∃g to fs,d=.tup [.str z,g,to,fs]
 | [],_,d,h=>by cases h
 | c::cs,k,d,h=>by
  rw[stC]at h;rcases List.mem_append.mp h with h | h
  ·unfold stp at h
   split at h
   ·rw[List.mem_singleton.mp h];exact⟨_,_,_,rfl⟩
   ·cases h
  ·exact kzj d h
theorem qwq{z z':Str}{own:Int}{ks cs:List D}{q:D}{k:Nat}(h:z'≠z):(stC z' own k cs).filter (kks z ks q)=[]:=by
 rw[List.filter_eq_nil_iff];intro d hd;obtain⟨g,to,fs,rfl⟩:=kzj d hd;show ¬((z'==z)&&kq6 ks q g)=true;rw[beq_false_of_ne h];simp
theorem vkg{own:Int}{ks:List D}{q:D}{z:Str}{f:Str->List D}:∀{zs:List Str},zs.Nodup->z∈zs->(stR own zs (zs.map λz=>D.lst (f z))).filter (kks z ks q)=(stC z own 0 (f z)).filter (kks z ks q)
 | [],_,h=>by cases h
 | z'::zs,nd,h=>by
  rw[List.map_cons,stR,List.filter_append];rw[List.nodup_cons]at nd;have none:∀{zs:List Str},z∉zs->(stR own zs (zs.map λz=>D.lst (f z))).filter (kks z ks q)=[]:=by
   intro zs
   induction zs with
   | nil=>intro _;rfl
   | cons a zs ih =>
    intro h;rw[List.map_cons,stR,List.filter_append,qwq (λe=>h (by rw[e];exact X4)),ih (λe=>h (lc9 _ e))];rfl
  rcases List.mem_cons.mp h with rfl | h
  ·rw[none nd.1,Xq]
  ·rw[qwq (λe=>nd.1 (by rw[e];exact h)),vkg nd.2 h];rfl
theorem vjq{own:Int}{j:Int}(h0:0<=j)(h1:j<own):(jj4 0 own).getD j.toNat .non=.int j:=by
 have:=kjj (n:=own) (i:=j.toNat) (by omega);rw[X2,this];show D.int ((j.toNat:Nat):Int)=_
 congr 1
 omega
theorem vwy{own p:Int}{j:Nat}(hj:(j:Int)<=own)(h0:0<=p)(h1:p<=own):kq6 (jj4 0 own) (.int p) (qxf own j)=decide ((j:Int)=p):=by
 unfold qxf
 by_cases hq:(j:Int)=own
 ·rw[Xf hq];unfold kq6;dsimp only;rw[Xf rfl]
  by_cases hp:(j:Int)=p
  ·rw[Xb hp,Bool.not_eq_true',List.any_eq_false];intro d hd;obtain⟨i,i0,i1,rfl⟩:=jqu hd;show ¬(i==p)=true;simp;omega
  ·rw[X9 hp,Bool.not_eq_false',List.any_eq_true];refine⟨.int p,?_,by simp[peq]⟩;unfold jj4;exact List.mem_map.mpr ⟨p.toNat,List.mem_range.mpr (by omega),by show D.int _=D.int _;congr 1;omega⟩
 ·rw[Xj hq];show peq ((jj4 0 own).getD (j:Int).toNat .non) (.int p)=_;rw[vjq (by omega) (by omega)];show((j:Int)==p)=_
  by_cases h:(j:Int)=p<;>simp[h]
theorem vkh{z:Str}{own p:Int}(h0:0<=p)(h1:p<=own):∀{cs:List D} {k:Nat},((k+cs.length:Nat):Int)<=own+1->(stC z own k cs).filter (kks z (jj4 0 own) (.int p))=if(k:Int)<=p/\p<k+cs.length then stp z own p.toNat (cs.getD (p.toNat - k) .non)else[]
 | [],k,_=>by
  rw [Xj (λz=>by have:=z.2;simp at this;omega)];rfl
 | c :: cs,k,hk=>by
  rw [Xd]at hk;rw [stC,List.filter_append,vkh h0 h1 (cs:=cs) (k:=k+1) (by omega)];have hc:(stp z own k c).filter (kks z (jj4 0 own) (.int p))=if(k:Int)=p then stp z own k c else[]:=by
   unfold stp
   split
   ·rename_i to fs;have:kks z (jj4 0 own) (.int p) (.tup [.str z,qxf own k,to,.tup (fs.map (fl own))])=decide ((k:Int)=p):=by
     show((z==z)&&kq6 (jj4 0 own) (.int p) (qxf own k))=_;rw[vwy (by omega) h0 h1];simp
    by_cases h:(k:Int)=p
    ·rw[Xf h,List.filter_cons_of_pos (by rw[this];exact Xb h)];rfl
    ·rw[Xj h,List.filter_cons_of_neg (by rw[this];simpa using h)];rfl
   ·split<;>rfl
  rw[hc]
  by_cases h:(k:Int)=p
  ·have e:p.toNat=k:=by omega
   rw[Xf h,Xj (by omega),Xf (by simp;omega),Xq,e,Nat.sub_self];rfl
  ·rw[Xj h,List.nil_append]
   by_cases h2:((k+1:Nat):Int)<=p/\p<((k+1:Nat):Int)+cs.length
   ·rw[Xf h2,Xf (by simp;omega)]
    congr 1
    rw[X2,X2,show p.toNat - k=(p.toNat - (k+1))+1 by omega,List.getElem?_cons_succ]
   ·rw[Xj h2,Xj (by simp;omega)]
theorem vji{z:Str}{g to:D}{own p:Int}{fs:List Int}(h:∀f∈fs,0<=f/\(f<own\/(f=own/\p=own))):jqv (jj4 0 own) (.int p) (.tup [.str z,g,to,.tup ((fs.map D.int).map (fl own))])=.tup [to,iT fs]:=by
 show D.tup [to,.tup (((fs.map D.int).map (fl own)).map (jwg (jj4 0 own) (.int p)))]=_
 congr 2
 show[D.tup _]=[D.tup (fs.map D.int)]
 congr 2
 rw[Y6,Y6];refine List.map_congr_left λf hf=>?_
 obtain⟨f0,hf⟩:=h f hf;show jwg (jj4 0 own) (.int p) (fl own (.int f))=.int f
 by_cases e:f=own
 ·rw[qwn e];rcases hf with hf | ⟨_,hp⟩
  ·omega
  ·show D.int p=_;rw[hp,e]
 ·rw[vwf e];show(jj4 0 own).getD f.toNat .non=_;rw[vjq f0 (by omega)]
theorem kwr:∀{fs acc:List Int},(acc++fs).Nodup->(fs.map D.int).foldl F.insI acc=acc++fs
 | [],acc,_=>by simp
 | f::fs,acc,h=>by
  rw[List.map_cons,Yh];have hn:f∉acc:=λz=>by
   rw[Xe]at h;exact h.2.2 f z f X4 rfl
  have e:F.insI acc (.int f)=acc++[f]:=Xj hn;rw[e,kwr (by rw[Xr];exact h),Xr];rfl
theorem kv7{fs:List Int}(h:fs.Nodup):jk5 (fs.map D.int)=fs:=kwr (acc:=[]) h
theorem vv2{fs:List Int}(h:fs.Nodup):pr (fs.map D.int)=jj4 0 fs.length:=by
 unfold pr;rw[kv7 h,Y6];refine List.ext_getElem? λi=>?_
 rw[Xi]
 by_cases hi:i<fs.length
 ·rw[X0 hi,kjj (by omega)];show some (plc fs (.int fs[i]))=_;show some (D.int ((fs.findIdx λw=>w==fs[i]:Nat):Int))=_
  congr 3
  have hl:=jwy (Xk hi);have hg:fs[fs.findIdx λw=>w==fs[i]]=fs[i]:=by simpa using List.findIdx_getElem (p:=λw=>w==fs[i]) (w:=hl)
  by_cases hlt:fs.findIdx (λw=>w==fs[i])<i
  ·exact absurd hg (List.pairwise_iff_getElem.mp h _ _ hl hi hlt)
  ·by_cases hgt:i<fs.findIdx (λw=>w==fs[i])
   ·exact absurd hg.symm (List.pairwise_iff_getElem.mp h _ _ hi hl hgt)
   ·omega
 ·rw[Y8 (by omega),Y8]
  ·rfl
  ·unfold jj4;simp;omega
def nN(t:D):Nat:=(jk5 (jzy t)).length
def phi(K:List D)(t:D):D:=.tup [.int (K.idxOf t:Nat),.tup (jj4 0 (nN t))]
section
variable {ss:List Str}{rs:List D}{kps:List Int}{K rooms:List D}
theorem qv7{a b:D}(ha:a∈K)(hb:b∈K)(e:phi K a=phi K b):a=b:=by
 unfold phi at e;injection e with e;injection e with e _;injection e with e;have e:K.idxOf a=K.idxOf b:=by omega
 have h1:=List.getElem_idxOf (jw5 ha);have h2:=List.getElem_idxOf (jw5 hb);rw[<-h1,<-h2]
 congr 1
theorem vvq(h:Pf ss rs kps K rooms)(hnd:ss.Nodup){t:D}(ht:t∈K){z:Str}(hz:z∈ss){p:Int}(hp:D.int p∈kqs t):obD (rooms.map (jvz ss)) (phi K t) z p=some (jzh rs t z K (.int p)):=by
 obtain⟨hclo,hrm⟩:=h.at_ ht;have hprs:=h.prs;obtain⟨_,er,gd,rows,e,hsl,hrows⟩:=hprs.2 (K.idxOf t) (by unfold jvg;rw[X3];exact jw5 ht);subst e;have hkp:(jvg K).getD (K.idxOf t) 0=(nN t:Int):=by
  unfold jvg;rw[X2,Xi,X0 (jw5 ht),List.getElem_idxOf (jw5 ht)];rfl
 rw[hkp]at er hrows;have hrw:rows=jzm ss rs K t:=by
  rw[hrm]at er;have er:=oq9 er;unfold jx9 at er;injection er with er;injection er with _ er;injection er with _ er;injection er with er _;injection er with er;exact er.symm
 obtain⟨p0,p1⟩:0<=p/\p<(nN t:Int)+1:=by
  unfold kqs at hp;obtain⟨i,i0,i1,e⟩:=jqu hp;injection e with e;subst e;exact⟨i0,i1⟩
 have her:(rooms.map (jvz ss))[((K.idxOf t:Nat):Int).toNat]?=some (.tup [.int (nN t),.bl gd,.lst (stR (nN t) ss rows)]):=by
  rw[Yb,Xi,er];rfl
 have hlen:(kqs t).length=nN t+1:=by
  have:=kve (k:=0) (n:=(nN t:Int)+1) (by omega);unfold kqs;have e:(jj4 0 (((jk5 (jzy t)).length:Int)+1)).length=(jj4 0 ((nN t:Int)+1)).length:=rfl;rw[e];omega
 have hcs:((kqs t).map (jzh rs t z K)).getD (p.toNat - 0) .non=jzh rs t z K (.int p):=by
  rw[Nat.sub_zero,X2,Xi];have:(kqs t)[p.toNat]?=some (.int (p.toNat:Nat)):=by unfold kqs;exact kjj (by show(p.toNat:Int)<(nN t:Int)+1;omega)
  rw[this,show((p.toNat:Nat):Int)=p by omega];rfl
 obtain⟨cs,ecs,hcl,hC⟩:=hrows (.lst ((kqs t).map (jzh rs t z K))) (by rw[hrw];unfold jzm;exact Xg (f:=λz=>D.lst ((kqs t).map (jzh rs t z K))) hz);injection ecs with ecs;subst ecs;obtain⟨c,hc,hCs⟩:=hC p.toNat (by rw[X3,hlen];omega);have hcc:c=jzh rs t z K (.int p):=by
  rw[Nat.sub_zero,X2,hc]at hcs;exact hcs
 unfold obD phi;rw[kwl her,hrw];unfold jzm;rw[vkg hnd hz,vkh p0 (by omega) (by rw[X3,hlen];omega),Xf (by rw[X3,hlen];omega),hcs];rw[hcc]at hCs;rcases hCs with e | ⟨to,fs,e,t0,t1,hfs,hnf,_⟩
 ·rw[e];rfl
 ·rw[e];show(match [jqv (jj4 0 (nN t)) (.int p) (.tup [.str z,qxf (nN t) p.toNat,.int to,.tup ((fs.map D.int).map (fl (nN t)))])]with | []=>some D.non | [d]=>some d | _=>none)=_;rw[vji λf hf=>?_];obtain⟨f0,f1⟩:=hfs f hf;unfold vwu at f1;refine⟨f0,?_⟩
  split at f1<;>omega
theorem qkn(h:Pf ss rs kps K rooms){K0:List D}{t d:D}{z:Str}{p:Int}(ht:t∈K)(hp:D.int p∈kqs t)(hd:obD rs t z p=some d)(hK:(jkw K0 d).1 <+: K):jkw (K0.map (phi K)) (jw9 K d)=((jkw K0 d).1.map (phi K),(jkw K0 d).2):=by
 obtain⟨b1,b2,b3,b4⟩:=qjo K0 d;have hK0:∀x∈K0,x∈K:=λx hx=>jz7 (b1.trans hK) hx
 have hsv:=h.kin.2 t ht;obtain⟨room0,ks0,rfl,_⟩:=id hsv;have hl3:=(jqd h.le hsv).2;have hnl:=jqt ks0;unfold kqs at hp;rw [jqx]at hp;obtain⟨i,i0,i1,e⟩:=jqu hp;injection e with e;subst e;have hpV:D.int p∈V4:=by
  have:p=0\/p=1\/p=2\/p=3:=by omega
  rcases this with rfl | rfl | rfl | rfl<;>simp[V4]
 rcases qzr (hR:=h.ms) h.rx hsv hpV hd with rfl | ⟨room,ks,rfl,r0,r1,hl,ha,hV⟩
 ·rfl
 ·have hpm:D.tup [.int room,.tup (pr ks)]∈(jkw K0 (.tup [.int room,.tup ks])).1:=b3 _ _ rfl;have hpK:=jz7 hK hpm;have hnd:=vk8 ks;show jkw (K0.map (phi K)) (.tup [.int (K.idxOf (.tup [.int room,.tup (pr ks)]):Nat),.tup ((jk5 ks).map D.int)])=_;unfold jkw;dsimp only;rw[kv7 hnd,vv2 hnd];have hphi:D.tup [.int (K.idxOf (.tup [.int room,.tup (pr ks)]):Nat),.tup (jj4 0 (jk5 ks).length)]=phi K (.tup [.int room,.tup (pr ks)]):=by
   unfold phi nN;rw[jqx,jzb ha]
  rw[hphi];have hmem:phi K (.tup [.int room,.tup (pr ks)])∈K0.map (phi K)↔D.tup [.int room,.tup (pr ks)]∈K0:=⟨λhm=>by
   obtain⟨x,hx,e⟩:=List.mem_map.mp hm;rw[<-qv7 (hK0 x hx) hpK e];exact hx,λhm=>Xg hm⟩
  have hins:jzq (K0.map (phi K)) (phi K (.tup [.int room,.tup (pr ks)]))=(jzq K0 (.tup [.int room,.tup (pr ks)])).map (phi K):=by
   unfold jzq
   by_cases hm:D.tup [.int room,.tup (pr ks)]∈K0
   ·rw[Xf hm,Xf (hmem.mpr hm)]
   ·rw[Xj hm,Xj (λz=>hm (hmem.mp z)),Xs];rfl
  have hidx:∀{l:List D},(∀x∈l,x∈K)->(l.map (phi K)).idxOf (phi K (.tup [.int room,.tup (pr ks)]))=l.idxOf (.tup [.int room,.tup (pr ks)]):=by
   intro l
   induction l with
   | nil=>intro _;rfl
   | cons x l ih =>
    intro hx;rw[List.map_cons,List.idxOf_cons,List.idxOf_cons,ih λy hy=>hx y (lc9 _ hy)]
    by_cases e:x=.tup [.int room,.tup (pr ks)]
    ·rw[e];simp
    ·rw[show(x==D.tup [.int room,.tup (pr ks)])=false by simpa using e,show(phi K x==phi K (D.tup [.int room,.tup (pr ks)]))=false by simpa using λz=>e (qv7 (hx x X4) hpK z)]
  rw[hins,hidx (l:=jzq K0 (.tup [.int room,.tup (pr ks)])) λx hx=>jz7 hK (show x∈(jkw K0 (.tup [.int room,.tup ks])).1 from hx)]
theorem kqd(h:Pf ss rs kps K rooms)(hnd:ss.Nodup){t:D}(ht:t∈K){z:Str}(hz:z∈ss):∀{ps K0:List D} {r:List D×List D},(∀d∈ps,d∈kqs t)->jk2 rs t z ps K0=some r->r.1 <+: K->jk2 (rooms.map (jvz ss)) (phi K t) z ps (K0.map (phi K))=some (r.1.map (phi K),r.2)
 | [],K0,r,_,e,_=>by
  rw[jk2]at e;cases e;rfl
 | .int p::ps,K0,r,hp,e,hK=>by
  rw[jk2]at e
  split at e
  ·cases e
  ·rename_i d hd;obtain⟨q,hq,rfl⟩:=Option.map_eq_some_iff.mp e;have hK1:=(kkb hq).1.trans hK;have hpm:=hp _ X4;have hcl:jzh rs t z K (.int p)=jw9 K d:=by unfold jzh;dsimp only;rw[hd]
   have hc:=qkn h ht hpm hd hK1;rw[jk2,vvq h hnd ht hz hpm,hcl];dsimp only;rw[hc];dsimp only;rw[kqd h hnd ht hz (λd hd=>hp d (lc9 _ hd)) hq hK];rfl
 | .non::_,_,_,_,h,_=>by cases h
 | .bl _::_,_,_,_,h,_=>by cases h
 | .str _::_,_,_,_,h,_=>by cases h
 | .tup _::_,_,_,_,h,_=>by cases h
 | .lst _::_,_,_,_,h,_=>by cases h
 | .dct _::_,_,_,_,h,_=>by cases h
 | .obj _ _::_,_,_,_,h,_=>by cases h
theorem kzq(t:D):jj4 0 (((jk5 (jzy (phi K t))).length:Int)+1)=kqs t/\jk5 (jzy (phi K t))=(List.range (nN t)).map λi:Nat=>(i:Int):=by
 have e:jj4 0 (nN t)=((List.range (nN t)).map λi:Nat=>(i:Int)).map D.int:=by
  unfold jj4;rw[Y6,show((nN t:Int) - 0).toNat=nN t by omega];refine List.map_congr_left λi _=>?_
  show D.int _=D.int ((i:Nat):Int)
  congr 1
  show(0:Int)+(i:Nat)=_;omega
 have hnd:((List.range (nN t)).map λi:Nat=>(i:Int)).Nodup:=by
  rw[List.nodup_iff_pairwise_ne,List.pairwise_map];exact(List.nodup_iff_pairwise_ne.mp List.nodup_range).imp λh z=>h (by omega)
 have h2:jk5 (jzy (phi K t))=(List.range (nN t)).map λi:Nat=>(i:Int):=by
  unfold phi;rw[jqx,e,kv7 hnd]
 refine⟨?_,h2⟩;rw[h2,X3,Ya];rfl
theorem kkw(h:Pf ss rs kps K rooms)(hnd:ss.Nodup){t:D}(ht:t∈K):∀{zs:List Str} {K0:List D} {r:List D×List D},(∀z∈zs,z∈ss)->jk1 rs t zs K0=some r->r.1 <+: K->jk1 (rooms.map (jvz ss)) (phi K t) zs (K0.map (phi K))=some (r.1.map (phi K),r.2)
 | [],K0,r,_,e,_=>by
  rw[jk1]at e;cases e;rfl
 | z::zs,K0,r,hz,e,hK=>by
  rw[jk1]at e
  split at e
  ·cases e
  ·rename_i q hq;obtain⟨q2,hq2,rfl⟩:=Option.map_eq_some_iff.mp e;have hK1:=(jvs hq2).1.trans hK;have hq':kqf (rooms.map (jvz ss)) (phi K t) z (K0.map (phi K))=some (q.1.map (phi K),q.2):=by
    unfold kqf;rw[(kzq (K:=K) t).1];exact kqd h hnd ht (hz z X4) (λd hd=>hd) hq hK1
   rw[jk1,hq'];dsimp only;rw[kkw h hnd ht (λz h=>hz z (lc9 _ h)) hq2 hK];rfl
theorem qwb(h:Pf ss rs kps K rooms){t:D}(ht:t∈K):F.goodD (rooms.map (jvz ss)) (phi K t)=F.goodD rs t:=by
 obtain⟨_,hrm⟩:=h.at_ ht;obtain⟨_,_,gd,_,_,_,_,hg,_⟩:=h.is ht;unfold phi;show(match (rooms.map (jvz ss))[((K.idxOf t:Nat):Int).toNat]? with | some (.tup [_,g,_])=>g | _=>.non)=_;rw[Yb,Xi,hrm];unfold jx9;rfl
theorem vqi{K1 rooms1:List D}{r:Option (List D×List D)}(h:Run ss rs K1 rooms1 r):∀{q},r=some q->K1 <+: q.1:=by
 induction h with
 | stop=>intro q e;cases e;exact Yn
 | fail=>intro q e;cases e
 | go _ e _ ih =>
  intro q er;unfold kja at e;obtain⟨q1,hq,e2⟩:=Option.map_eq_some_iff.mp e;cases e2;exact(jvs hq).1.trans (ih er)
theorem qz7(h:Pf ss rs kps K rooms)(hnd:ss.Nodup){K0 rooms0:List D}{r:Option (List D×List D)}(hr:Run ss rs K0 rooms0 r):r=some (K,rooms)->Run ss (rooms.map (jvz ss)) (K0.map (phi K)) rooms0 (some (K.map (phi K),rooms)):=by
 induction hr with
 | stop hs =>
  intro e;cases e;exact .stop (by rw[X3];exact hs)
 | fail=>intro e;cases e
 | @go K0 rooms0 K1 rooms1 r hlt e hrun ih =>
  intro er;refine .go (by rw[X3];exact hlt) ?_ (ih er);subst er;have hpre:K1 <+: K:=vqi hrun rfl;unfold kja at e;obtain⟨q,hq,e2⟩:=Option.map_eq_some_iff.mp e;cases e2;have hget:(K0.map (phi K)).getD rooms0.length .non=phi K (K0.getD rooms0.length .non):=by
   rw[X2,X2,Xi,X0 hlt];rfl
  have hm0:K0.getD rooms0.length .non∈K0:=by rw[X2,X0 hlt];exact Xk _
  have ht:=jz7 ((jvs hq).1.trans hpre) hm0;unfold kja;rw[hget,kkw h hnd ht (λz h=>h) hq hpre];show some (q.1.map (phi K),rooms0++[jx9 (rooms.map (jvz ss)) (phi K (K0.getD rooms0.length .non)) q.2])=some (q.1.map (phi K),rooms0++[jx9 rs (K0.getD rooms0.length .non) q.2]);unfold jx9;rw[qwb h ht,(kzq (K:=K) _).2,X3,Ya];rfl
end
end G
noncomputable section
namespace Q
open PySem
section
variable {N C:En->Prop}{R:Sd->Prop}{X:XP}{E:En}{e:Option Sd}
theorem vq2{cs:List Str}{f:Fn}{as:List Ex}{h:Sm}{j:Nat}:Po (jz4 cs (jjk j (jxp f as)) h (e::E)) N C R X =
  Eo (jq4 as (e::E)) (λE xs=>Ox f (letAll xs) E (λE y=>N (E.set j (some y))) (λE c=>c∈cs/\Po (h E) N C R noX)) noX:=by
 unfold jz4 jjk jxp;cases jq4 as (e::E)with
 | none=>with_unfolding_all rfl
 | some r =>
  cases r with
  | exc E1 c=>with_unfolding_all rfl
  | ok E1 xs =>
   rw [kvl];unfold Ox Oo;dsimp only;cases f (letAll xs)with
   | none=>with_unfolding_all rfl
   | some r =>
    cases r with
    | ok E2 y=>with_unfolding_all rfl
    | exc E2 c =>
     dsimp only[ofE]
     by_cases hc:c∈cs
     ·rw[Xf hc];cases h E1 with
      | none=>with_unfolding_all exact propext ⟨λz=>⟨hc,z⟩,λz=>z.2⟩
      | some r=>cases r<;>with_unfolding_all exact propext ⟨λz=>⟨hc,z⟩,λz=>z.2⟩
     ·rw[Xj hc]
      with_unfolding_all exact propext ⟨λz=>(show False from z).elim,λz=>absurd z.1 hc⟩
theorem wqk{c:Ex}{P:En->Sd->Prop}:Eo (wqf c (e::E)) P X=Eo (c (e::E)) (λE x=>Ie x.2 E λE n=>(jkf n=true/\n.toNat<=big)/\P E (.no,.tup (jj4 0 n))) X:=by
 unfold wqf;rw[jji];congr 1;funext E x;cases x.2 with
 | int n=>with_unfolding_all exact kz0
 | _=>with_unfolding_all rfl
end
end Q
namespace G
open Q PySem C F
theorem qqe(x n:Int)(hx:0<=x)(h0:0<=n)(h1:n<=3):Oo C.m__law_signs [(.no,.int x),(.no,.int n)] (λy=>∃ss,y=(.rt,sL ss)/\(ss.length:Int)=n/\(∀z∈ss,Sg z)/\ss.Nodup) noX:=by
 unfold C.m__law_signs;refine jq7 ?_;simp! only[];refine(kk8 x [8,840,8] (by decide) (by decide)).via ?_;rintro _ ⟨ds,rfl,hd⟩;obtain⟨sz,at_,st,rfl,a1,a2,a3,a4,a5,a6⟩:=ww4 hd;simp! only[];have b1:=Y5 at_ (show sz+1≠0 by omega);have b2:=Xy at_ (show 0<sz+1 by omega);generalize at_ % (sz+1)=am at b1 b2;obtain⟨b,hb⟩:∃b,b=x / (53761+26*am*am):=⟨_,rfl⟩;refine jvf (λE jkp=>∃k ss l7 l8 l9 l10 o0 o1 o2 o3 o4 o5,E=[some (o0,.int x),some (o1,.int n),some (o2,.str "abcdefghijklmnopqrstuvwxyz"),some (o3,.int sz),some (o4,.int am),some (o5,.int st),some (.rt,sL ss),l7,l8,l9,l10]/\0<=k/\k<=n/\jkp=jj4 k n/\(ss.length:Int)=k/\(∀z∈ss,Sg z)/\∀i:Nat,i<ss.length->Ltr b st am.toNat i (ss.getD i "")) ?_ ?_ ?_
 ·refine jwv ?_;simp! only[];exact⟨n,rfl,by omega,by omega,0,[],_,_,_,_,_,_,_,_,_,_,rfl,by omega,h0,rfl,rfl,(λz hz=>nomatch hz),λi hi=>absurd hi (Nat.not_lt_zero _)⟩
 ·rintro E d ds ⟨k,ss,l7,l8,l9,l10,o0,o1,o2,o3,o4,o5,rfl,k0,k1,hr,hl,hSg,hS⟩;obtain⟨hk,rfl,rfl⟩:=jw0 k1 hr;simp! only[];refine jvf (λE jkp=>∃j z l9 l10 o8,E=[some (o0,.int x),some (o1,.int n),some (o2,.str "abcdefghijklmnopqrstuvwxyz"),some (o3,.int sz),some (o4,.int am),some (o5,.int st),some (.rt,sL ss),some (.no,.int k),some (o8,.str z),l9,l10]/\0<=j/\j<=sz+1/\jkp=jj4 j (sz+1)/\(z.cps.size:Int)=j/\(∀c∈z.cps.toList,c∈ltr)/\(am<j->Ltr b st am.toNat ss.length z)) ?_ ?_ ?_
  ·refine jwv ?_;simp! only[];exact⟨sz+1,rfl,by omega,by omega,0,"",_,_,_,rfl,by omega,by omega,rfl,rfl,(λc hc=>nomatch hc),λh=>by omega⟩
  ·rintro E d ds ⟨j,z,l9,l10,o8,rfl,j0,j1,hr,hz,hzc,hzl⟩;obtain⟨hj,rfl,rfl⟩:=jw0 j1 hr;have jj0:0<=j*j:=Int.mul_nonneg j0 j0;have jj1:j*j<=8*8:=Int.mul_le_mul (by omega) (by omega) j0 (by decide);have kk0:0<=k*(st+1):=Int.mul_nonneg k0 (by omega);have kk1:k*(st+1)<=3*9:=Int.mul_le_mul (by omega) (by omega) (by omega) (by decide);have e1:26*j*j=26*(j*j):=Int.mul_assoc _ _ _;have hdv:qkl (.int x) (.int (53761+26*j*j))=some (.int (x / (53761+26*j*j))):=div_i (by omega) (by omega);have key:∃w:Int,vki (.bl (j==am))=some (.int w)/\0<=w/\w<=1/\(j=am->w=1):=by
    by_cases h:j=am
    ·rw[show(j==am)=true by simpa using h];exact⟨1,rfl,by decide,by decide,λ_=>rfl⟩
    ·rw[show(j==am)=false by simpa using h];exact⟨0,rfl,by decide,by decide,λz=>absurd z h⟩
   simp! only[jvo,hdv];obtain⟨w,hw,w0,w1,hw1⟩:=key;simp! only[hw];have hte:j=am->x / (53761+26*j*j)+k*(st+1)*w=b+ss.length*(st+1):=λh=>by rw[hw1 h,hb,h,hl,Int.mul_one]
   generalize x / (53761+26*j*j)+k*(st+1)*w=t at hte;have t0:=Y5 t (show(26:Int)≠0 by decide);have t1:=Xy t (show(0:Int)<26 by decide);simp! only[vw4 (t % 26) t0 t1];have hs:((⟨#[ltr.getD (t % 26).toNat 0]⟩:Str).cps.size)=1:=rfl;simp! only[wkz (a:=z) (b:=⟨#[ltr.getD (t % 26).toNat 0]⟩) (by rw[hs];omega)];refine⟨j+1,z++⟨#[ltr.getD (t % 26).toNat 0]⟩,_,_,_,rfl,by omega,by omega,rfl,by rw[qz5,hs];omega,λc hc=>?_,λh=>?_⟩
   ·have hc:c∈(z.cps++#[ltr.getD (t % 26).toNat 0]).toList:=hc;rw[Array.toList_append]at hc;rcases List.mem_append.mp hc with q | q
    ·exact hzc c q
    ·have h26:ltr.length=26:=by decide +kernel
     have:c=ltr.getD (t % 26).toNat 0:=by simpa using q
     rw[this,X2,X0 (by omega)];exact Xk _
   have hcp:(z++⟨#[ltr.getD (t % 26).toNat 0]⟩:Str).cps.toList=z.cps.toList++[ltr.getD (t % 26).toNat 0]:=by
    show(z.cps++#[ltr.getD (t % 26).toNat 0]).toList=_;rw[Array.toList_append]
   have hzs:z.cps.toList.length=z.cps.size:=Y7;unfold Ltr;rw[hcp]
   by_cases hja:j=am
   ·have ht:=hte hja;rw[Xx (by omega),show am.toNat - z.cps.toList.length=0 by omega,<-ht];rfl
   ·rw[Y1 (by omega)];exact hzl (by omega)
  ·rintro E ⟨j,z,l9,l10,o8,rfl,j0,j1,hr,hz,hzc,hzl⟩;have:=jxa j1 hr;refine jwm rfl ?_;simp! only[];refine⟨_,rfl,by rw[X3];omega,?_⟩;rw[show ss.map D.str++[D.str z]=(ss++[z]).map D.str by simp];refine⟨k+1,ss++[z],_,_,_,_,_,_,_,_,_,_,rfl,by omega,by omega,rfl,by simp;omega,λy hy=>?_,λi hi=>?_⟩
   ·rcases List.mem_append.mp hy with q | q
    ·exact hSg y q
    ·rw[List.mem_singleton.mp q];exact⟨by omega,hzc⟩
   rw[X7,Ye]at hi;rw[X2]
   by_cases hil:i<ss.length
   ·rw[Y1 hil,<-X2];exact hS i hil
   ·have:i=ss.length:=by omega
    subst this;rw[Xx (X8 _),Nat.sub_self];exact hzl (by omega)
 ·rintro E ⟨k,ss,l7,l8,l9,l10,o0,o1,o2,o3,o4,o5,rfl,k0,k1,hr,hl,hSg,hS⟩;have:=jxa k1 hr;subst this;simp! only[qxy (o:=.rt) (ss:=ss) (by omega)];refine⟨kjc ss,rfl,by rw[kw0];exact hl,λz hz=>hSg z ((jq9 ss).mem_iff.mp hz),(jq9 ss).nodup_iff.mpr ?_⟩;rw[List.nodup_iff_pairwise_ne,List.pairwise_iff_getElem];intro i j hi hj hij e;have p1:=hS i hi;have p2:=hS j hj;rw[X2,X0 hi]at p1;rw[X2,X0 hj]at p2;have p1:Ltr b st am.toNat i ss[i]:=p1;have p2:Ltr b st am.toNat j ss[j]:=p2;unfold Ltr at p1 p2;rw[e,p2]at p1;have p1:=oq9 p1;have m0:=Y5 (b+i*(st+1)) (show(26:Int)≠0 by decide);have m1:=Xy (b+i*(st+1)) (show(0:Int)<26 by decide);have m2:=Y5 (b+j*(st+1)) (show(26:Int)≠0 by decide);have m3:=Xy (b+j*(st+1)) (show(0:Int)<26 by decide);have:=vvu _ (by omega) _ (by omega) p1;have hij3:(i=0/\j=1)\/(i=0/\j=2)\/(i=1/\j=2):=by omega
  rcases hij3 with⟨rfl,rfl⟩| ⟨rfl,rfl⟩| ⟨rfl,rfl⟩
  ·have q:((1:Nat):Int)*(st+1)=st+1:=by omega
   have q2:((0:Nat):Int)*(st+1)=0:=by omega
   rw[q]at *;rw[q2]at *;omega
  ·have q:((2:Nat):Int)*(st+1)=2*st+2:=by omega
   have q2:((0:Nat):Int)*(st+1)=0:=by omega
   rw[q]at *;rw[q2]at *;omega
  ·have q:((2:Nat):Int)*(st+1)=2*st+2:=by omega
   have q2:((1:Nat):Int)*(st+1)=st+1:=by omega
   rw[q]at *;rw[q2]at *;omega
theorem qq8{own:Int}{s:D}:∀{zs:List Str} {rws:List D},s∈stR own zs rws->∃z∈zs,∃cs,D.lst cs∈rws/\s∈stC z own 0 cs
 | z::zs,.lst cs::rws,h=>by
  rw[stR]at h;rcases List.mem_append.mp h with h | h
  ·exact⟨z,X4,cs,X4,h⟩
  ·obtain⟨z',h1,cs',h2,h3⟩:=qq8 h;exact⟨z',lc9 _ h1,cs',lc9 _ h2,h3⟩
 | [],_,h=>by unfold stR at h;cases h
 | _::_,[],h=>by unfold stR at h;cases h
 | _::_,.non::_,h=>by unfold stR at h;cases h
 | _::_,.bl _::_,h=>by unfold stR at h;cases h
 | _::_,.int _::_,h=>by unfold stR at h;cases h
 | _::_,.str _::_,h=>by unfold stR at h;cases h
 | _::_,.tup _::_,h=>by unfold stR at h;cases h
 | _::_,.dct _::_,h=>by unfold stR at h;cases h
 | _::_,.obj _ _::_,h=>by unfold stR at h;cases h
theorem qqa{z:Str}{own:Int}{s:D}:∀{cs:List D} {k:Nat},s∈stC z own k cs->∃(j:Nat) (c:D),cs[j]?=some c/\s∈stp z own (k+j) c
 | [],_,h=>by cases h
 | c::cs,k,h=>by
  rw[stC]at h;rcases List.mem_append.mp h with h | h
  ·exact⟨0,c,rfl,h⟩
  ·obtain⟨j,c',h1,h2⟩:=qqa h;exact⟨j+1,c',by simpa using h1,by rw[show k+(j+1)=k+1+j by omega];exact h2⟩
section
variable {ss:List Str}{rs:List D}{kps:List Int}{K rooms:List D}
theorem kxw(h:Pf ss rs kps K rooms):∀p∈jvg K,0<=p/\p<=3:=λp hp=>by
 unfold jvg at hp;obtain⟨t,ht,rfl⟩:=List.mem_map.mp hp;obtain⟨room,ks,gd,rfl,_,_,h3,_⟩:=h.is ht;rw[jqx];omega
theorem vjy(h:Pf ss rs kps K rooms):∀r∈rooms,Plr (jvg K) ss r:=λr hr=>by
 obtain⟨i,hi,e⟩:=List.mem_iff_getElem.mp hr;have hik:i<K.length:=by have:=h.len;omega
 obtain⟨r',er,gd,rows,e',hl,hrows⟩:=h.prs.2 i (by unfold jvg;rw[X3];exact hik);rw[X0 hi,e]at er;cases oq9 er;have hb:=kxw h ((jvg K).getD i 0) (by unfold jvg;rw[X2,X0 (by rw[X3];exact hik)];exact Xk _);exact⟨_,gd,rows,e',hb.1,hb.2,hl,hrows⟩
theorem kvz(hk:∀p∈kps,0<=p/\p<=3){own:Int}{rows:List D}(ho:0<=own)(hr:Rws kps own rows):∀s∈stR own ss rows,St own s/\Sx ss kps s:=λs hs=>by
 obtain⟨z,hz,cs,hcs,hs⟩:=qq8 hs;obtain⟨cs',e,hcl,hC⟩:=hr _ hcs;injection e with e;subst e;obtain⟨j,c,hj,hs⟩:=qqa hs;rw[Nat.zero_add]at hs;have hjl:=(List.getElem?_eq_some_iff.mp hj).1;obtain⟨c',hc',hCs⟩:=hC j hjl;rw[hj]at hc';cases oq9 hc';rcases hCs with rfl | ⟨to,fs,rfl,t0,t1,hfs,hnd,hfl⟩
 ·cases hs
 ·have hs:s∈[D.tup [.str z,qxf own j,.int to,.tup ((fs.map D.int).map (fl own))]]:=hs;rw[List.mem_singleton.mp hs];have hkt:=hk (kps.getD to.toNat 0) (by
   have:to.toNat<kps.length:=by omega
   rw[X2,X0 this];exact Xk _)
  refine⟨⟨z,_,to,_,rfl,?_,λf hf=>?_,?_⟩,z,_,to,_,rfl,hz,t0,t1,?_⟩
  ·unfold qxf
   by_cases h:(j:Int)=own
   ·rw[Xf h];exact .inl rfl
   ·rw[Xj h];exact .inr (.inr ⟨j,by omega,by omega,rfl⟩)
  ·rw[Y6]at hf;obtain⟨f',hf',rfl⟩:=List.mem_map.mp hf;obtain⟨f0,f1⟩:=hfs f' hf';have hb:=vwt (own:=own) (k:=j);show Fd own (fl own (.int f'))
   by_cases h:f'=own
   ·rw[qwn h];exact .inl rfl
   ·rw[vwf h];exact .inr (.inr ⟨f',f0,by omega,rfl⟩)
  ·rw[X3,X3];omega
  ·rw[X3,X3];exact hfl
theorem vq8(h:Pf ss rs kps K rooms)(hs:ss.length<=3)(h12:rooms.length<=12)(h1:1<=rooms.length):Rmw (rooms.map (jvz ss))/\Rx ss (jvg K) (rooms.map (jvz ss)):=by
 have hk:=kxw h;refine⟨⟨by rw[X3];exact h1,by rw[X3];exact h12,λr hr=>?_⟩,by unfold jvg;rw[X3,X3];exact h.len,λi hi=>?_⟩
 ·obtain⟨d,hd,rfl⟩:=List.mem_map.mp hr;have hp:=vjy h d hd;obtain⟨a,b,st,e,hst⟩:=kzp hs hp;obtain⟨own,gd,rows,rfl,o0,o3,hl,hrw⟩:=hp;have hlen:(stR own ss rows).length<=15:=by
   have e:D.tup [.int own,.bl gd,.lst (stR own ss rows)]=.tup [a,b,.lst st]:=e;injection e with e;injection e with _ e;injection e with _ e;injection e with e _;injection e with e;rw[e];exact hst
  refine⟨own,gd,stR own ss rows,rfl,o0,o3,λs hs'=>(kvz hk o0 hrw s hs').1,?_⟩;have:∀(zs:List Str) (rws:List D),(∀r∈rws,∃cs:List D,r=.lst cs/\(cs.length:Int)<=4)->(stR own zs rws).length<=4*zs.length:=by
   intro zs
   induction zs with
   | nil=>intro rws _;cases rws<;>simp[stR]
   | cons z zs ih =>
    intro rws hrw;cases rws with
    | nil=>simp[stR]
    | cons r rws =>
     obtain⟨cs,rfl,hc⟩:=hrw r X4;rw[stR,X7,Xd];have h1:=kjb z own cs 0;have h2:=ih rws λr hr=>hrw r (lc9 _ hr)
     omega
  have:=this ss rows λr hr'=>by
   obtain⟨cs,e,hc,_⟩:=hrw r hr';exact⟨cs,e,by omega⟩
  omega
 ·have hik:i<K.length:=by unfold jvg at hi;rw[X3]at hi;exact hi
  obtain⟨r',er,gd,rows,rfl,hl,hrows⟩:=h.prs.2 i (by unfold jvg;rw[X3];exact hik);have hb:=hk ((jvg K).getD i 0) (by rw[X2,X0 hi];exact Xk _);exact⟨gd,stR ((jvg K).getD i 0) ss rows,by rw[Xi,er];rfl,λs hs'=>(kvz hk hb.1 hrows s hs').2⟩
def vjc(cs:List D):Nat:=(cs.filter λc=>!isNon c).length
def vxe(r:D):Nat:=match r with
 | .lst cs=>vjc cs
 | _=>0
theorem wks{z:Str}{own:Int}:∀{cs:List D} {k:Nat},(∀c∈cs,c=.non\/∃to fs,c=.tup [to,.tup fs])->(stC z own k cs).length=vjc cs
 | [],_,_=>rfl
 | c::cs,k,h=>by
  have ih:=wks (z:=z) (own:=own) (cs:=cs) (k:=k+1) λc hc=>h c (lc9 _ hc)
  rw[stC,X7,ih];rcases h c X4 with rfl | ⟨to,fs,rfl⟩
  ·unfold vjc;rw[List.filter_cons_of_neg (by simp[isNon])];simp[stp]
  ·unfold vjc;rw[List.filter_cons_of_pos (by simp[isNon]),Xd];simp[stp];omega
theorem wkr{own:Int}:∀{zs:List Str} {rws:List D},zs.length=rws.length->Rws kps own rws->(stR own zs rws).length=(rws.map vxe).sum
 | [],[],_,_=>by unfold stR;rfl
 | z::zs,r::rws,hl,hr=>by
  obtain⟨cs,rfl,hcl,hC⟩:=hr r X4;rw[stR,X7,List.map_cons,List.sum_cons,wkr (by simpa using hl) (λc hc=>hr c (lc9 _ hc)),wks λc hc=>?_]
  ·rfl
  ·obtain⟨j,hj⟩:=List.mem_iff_getElem?.mp hc;obtain⟨c',hc',hCs⟩:=hC j (List.getElem?_eq_some_iff.mp hj).1;rw[hj]at hc';cases oq9 hc';rcases hCs with rfl | ⟨to,fs,rfl,_⟩
   ·exact .inl rfl
   ·exact .inr ⟨_,_,rfl⟩
 | [],_::_,h,_=>by simp at h
 | _::_,[],h,_=>by simp at h
end
theorem vvs{kps:List Int}{ss:List Str}{rooms:List D}(hs:ss.length<=3)(hl:rooms.length<=1100)(h:∀r∈rooms,Plr kps ss r):Oo m__law_many [(.no,jwf ss rooms)] (λy=>∃_:Unit,y=(.dp,.int (tot ss rooms:Nat))/\True) noX:=by
 unfold m__law_many;refine jq7 ?_;simp! only[];refine jvf (λE jkp=>∃(r1:List D) (o1:Own) (l2 l3:Option Sd),E=[some (.no,jwf ss rooms),some (o1,.int (tot ss r1:Nat)),l2,l3]/\rooms=r1++jkp/\(o1=.dp)) ?_ ?_ ?_
 ·simp! only[p1];exact⟨[],_,_,_,rfl,rfl,rfl⟩
 ·rintro E d ds ⟨r1,o1,l2,l3,rfl,he,rfl⟩;obtain⟨own,gd,rows,rfl,o0,o3,hrl,hrows⟩:=h d (by rw[he];simp);have htot:tot ss (r1++[.tup [.int own,.bl gd,.lst rows]])=tot ss r1+(rows.map vxe).sum:=by
   unfold tot;rw[Xs,Xs,List.sum_append];show _+((stR own ss rows).length+0)=_;rw[wkr hrl.symm hrows,Nat.add_zero]
  simp! only[];refine jvf (λE jkp=>∃(q1:List D) (l3:Option Sd),E=[some (.no,jwf ss rooms),some (.dp,.int ((tot ss r1+(q1.map vxe).sum:Nat):Int)),some (.no,.tup [.int own,.bl gd,.lst rows]),l3]/\rows=q1++jkp) ?_ ?_ ?_
  ·simp! only[t2];exact⟨[],l3,by simp,rfl⟩
  ·rintro E d ds2 ⟨q1,l3,rfl,he2⟩;obtain⟨cs,rfl,hcl,hC⟩:=hrows d (by rw[he2];simp);simp! only[];refine qkm (λE1 B ds acc=>E1=[some (.no,jwf ss rooms),some (.dp,.int ((tot ss r1+(q1.map vxe).sum:Nat):Int)),some (.no,.tup [.int own,.bl gd,.lst rows]),some (.no,.lst cs)]/\(∃q,B=[q])/\∃c1,cs=c1++ds/\acc.length=vjc c1) ?_ ?_ ?_
   ·simp! only[];exact⟨⟨none,rfl⟩,[],rfl,rfl⟩
   ·rintro E1 B d ds acc ⟨rfl,⟨q,rfl⟩,c1,hc1,hac⟩;obtain⟨c',hc',hCs⟩:=hC c1.length (by rw[hc1,X7,Xd];omega);have e:c'=d:=by rw[hc1,Xx (X8 _)]at hc';simpa using hc'.symm
    subst e;have hsn:∀d:D,vjc (c1++[d])=vjc c1+(if isNon d then 0 else 1):=λd=>by
     unfold vjc;rw[List.filter_append,X7];cases hd:isNon d with
     | true=>rw[List.filter_cons_of_neg (by simp[hd])];rfl
     | false=>rw[List.filter_cons_of_pos (by simp[hd])];rfl
    rcases hCs with rfl | ⟨to,fs,rfl,_⟩
    ·simp! only[];exact⟨⟨_,rfl⟩,c1++[.non],by rw[hc1];simp,by rw[hsn,hac];rfl⟩
    ·simp! only[];exact⟨⟨_,rfl⟩,c1++[.tup [.int to,.tup (fs.map D.int)]],by rw[hc1];simp,by rw[hsn,X7,hac];rfl⟩
   ·rintro E1 B acc ⟨rfl,⟨q,rfl⟩,c1,hc1,hac⟩;rw[Xq]at hc1;subst hc1;rw[jql];simp only[kjw,back,clr,at',List.drop,List.map_cons,List.map_nil,List.set_cons_zero,List.set_cons_succ];simp! only[];refine⟨q1++[.lst cs],some (.no,.lst cs),?_,by rw[he2];simp⟩;have:((tot ss r1+(q1.map vxe).sum:Nat):Int)+(acc.length:Nat)=((tot ss r1+((q1++[D.lst cs]).map vxe).sum:Nat):Int):=by
     rw[Xs,List.sum_append,hac];show _=((_+(_+(vjc cs+0)):Nat):Int);omega
    rw[this]
  ·rintro E ⟨q1,l3,rfl,he2⟩;rw[Xq]at he2;subst he2;exact⟨r1++[.tup [.int own,.bl gd,.lst rows]],_,_,_,by rw[htot],by rw[he];simp,rfl⟩
 ·rintro E ⟨r1,o1,l2,l3,rfl,he,rfl⟩;rw[Xq]at he;subst he;simp! only[]
  first | trivial | exact⟨(),trivial⟩| exact⟨(),rfl,trivial⟩
theorem wve{ss:List Str}{rs:List D}{kps:List Int}{K rooms:List D}{kp:Int}{gd st0:D}(hR:Rms rs)(hx:Rx ss kps rs)(h3:∀k∈kps,k<=3)(hr0:rs[0]?=some (.tup [.int kp,gd,st0]))(hk0:0<=kp)(hrun:Run ss rs [.tup [.int 0,.tup (List.replicate kp.toNat .non)]] [] (some (K,rooms))):Pf ss rs kps K rooms/\D.tup [.int 0,.tup (List.replicate kp.toNat .non)]∈K/\jw9 K (.tup [.int 0,.tup (List.replicate kp.toNat .non)])=.tup [.int 0,iT []]/\qzo (.tup [.int 0,.tup (List.replicate kp.toNat .non)])=.tup [.int 0,.tup (List.replicate kp.toNat .non)]:=by
 have hin:Kin kps V4 [.tup [.int 0,.tup (List.replicate kp.toNat .non)]]:=kvj hR hx (by simp[V4]) hr0 hk0;have hnm:∀n:Nat,jk5 (List.replicate n .non)=[]:=λn=>by
  unfold jk5
  induction n with
  | zero=>rfl
  | succ n ih=>rw[List.replicate_succ,Yh];exact ih
 have hpr:∀n:Nat,pr (List.replicate n .non)=List.replicate n .non:=λn=>by unfold pr;rw[List.map_replicate];rfl
 have hnrm:Nrm (.tup [.int 0,.tup (List.replicate kp.toNat .non)]):=⟨.int 0,List.replicate kp.toNat .non,by rw[hpr]⟩;obtain⟨a1,a2,a3⟩:=vz1 hrun ⟨Y4 _,(λi hi=>absurd hi (Nat.not_lt_zero _)),λt ht=>by rw[List.mem_singleton.mp ht];exact hnrm⟩ (K,rooms) rfl;have hm:=jz7 a1 X4;refine⟨⟨hR,hx,h3,vw2 hR hx h3 hrun hin (K,rooms) rfl,a2,a3⟩,hm,?_,by unfold qzo;dsimp only;rw[hpr]⟩;unfold jw9;dsimp only;rw[hpr,hnm,qv3 a1 X4];simp
end G
namespace Nk37
open PySem Q
def kjt:Fn:=fn 4
  (jjc (jjk 3 (cH (jjb (vV 0) (vE (cC (.int 1))))))
  (jjc (sIf (tE (cF2 (pu2 fEq) (vV 3) (vE (cC (.str "any"))))) (jkd (cC (.bl true))) jjw)
  (jjc (sIf (tE (cF2 (pu2 fEq) (vV 3) (vE (cC (.str "fresh"))))) (jkd (cF2 (pu2 jkt) (vV 2) (vV 1))) jjw)
  (jkd (cF2 (pu2 fEq) (jjb (vV 1) (vV 3)) (vV 2))))))
def jqh:Fn:=fn 3
  (jjc (sIf (tE (cF2 (f2First fIsNon) (vV 0) (vE (cC .non)))) (jkd (cC .non)) jjw)
  (jkd (cIf (tE (cF2 (pu2 fEq) (vV 0) (vE (cC (.str "new"))))) (cV 2) (cH (jjb (vV 1) (vV 0))))))
def jv7:Fn:=fn 3
  (jkd (cF1 jqi (vE (cLC .rt 1 [1,2] (itS (cH (jjb (vV 0) (vE (cC (.int 3)))))) (.n 0) tYes (jjj jqh [(cV 0),(cV 1),(cV 2)])))))
def m_first_standing:Fn:=fn 1
  (jkd (jvh .no [(cC (.int 0)),(cF2 jjt (vE (jvh .no [(cC .non)])) (jjb (jjb (jjb (vV 0) (vE (cC (.int 1)))) (vE (cC (.int 0)))) (vE (cC (.int 0)))))]))
def jkn:Fn:=fn 2
  (jkd (cH (jjb (jjb (jjb (vV 0) (vE (cC (.int 1)))) (jjb (vV 1) (vE (cC (.int 0))))) (vE (cC (.int 2))))))
def m_fitting:Fn:=fn 6
  (jjc (jjk 4 (cH (jjb (vV 1) (vE (cC (.int 1))))))
  (jjc (jjk 5 (jjj jkn [(cV 0),(cV 1)]))
  (jkd (cLC .rt 2 [2,4,3] (qzx (cV 5)) (.t [0,1]) (tAnd (tE (cF2 (pu2 fEq) (jjb (vV 1) (vE (cC (.int 0)))) (vV 2))) (tEQ (vE (jjj kjt [(cV 1),(cV 3),(cV 4)])))) (cV 0)))))
def m_behind:Fn:=fn 5
  (jjc (jjk 4 (cH (jjb (vE (jjj jkn [(cV 0),(cV 1)])) (vV 2))))
  (jkd (jvh .no [(cH (jjb (vV 4) (vE (cC (.int 2))))),(jjj jv7 [(cV 4),(cH (jjb (vV 1) (vE (cC (.int 1))))),(cV 3)])])))
def jq3:Fn:=fn 1
  (jkd (vjg (vE (cF2 (pu2 fLe) (vE (cF1 (pu1 jqz) (jjb (vV 0) (vE (cC (.int 1)))))) (vE (cC (.int 12))))) (cF1 (pu1 wkm) (vE (cLC .rt 1 [] (itS (cH (jjb (vV 0) (vE (cC (.int 1)))))) (.n 0) tYes (cF2 (pu2 fLe) (jjb (vV 0) (vE (cC (.int 0)))) (vE (cC (.int 3)))))))))
def jjo:Fn:=fn 3
  (jjc (jjk 1 (jv0 .rt []))
  (jjc (jwi (itS (cV 0)) (.n 2) (sIf (tAnd (tE (cF2 (f2First fNotNon) (vV 2) (vE (cC .non)))) (tE (cF2 (pu2 jkt) (vV 2) (vV 1)))) (jke jvn 1 (cV 2)) jjw))
  (jkd (cMv 1))))
def jk0:Fn:=fn 2
  (jkd (cF1 jqi (vE (cLC .rt 1 [0] (itS (cV 1)) (.n 0) tYes (cIf (tE (cF2 (f2First fIsNon) (vV 0) (vE (cC .non)))) (cC .non) (wkv (vV 1) (vV 0)))))))
def jju:Fn:=fn 4
  (jjc (sIf (tE (cF2 (f2First fIsNon) (vV 0) (vE (cC .non)))) (jkd (cC .non)) jjw)
  (jjc (jjk 2 (jjj jjo [(cH (jjb (vV 0) (vE (cC (.int 1)))))]))
  (jjc (jjk 3 (jvh .no [(cH (jjb (vV 0) (vE (cC (.int 0))))),(jjj jk0 [(cV 2),(cH (jjb (vV 0) (vE (cC (.int 1)))))])]))
  (jkd (jvh .no [(qkp 1 (vV 3) (vE (cF1 (pu1 kwu) (vV 1)))),(cF1 jqi (vV 2))])))))
def jka:Fn:=fn 5
  (jjc (jjk 4 (jjj m_fitting [(cV 0),(cV 1),(cV 2),(cV 3)]))
  (jjc (sIf (tE (cF2 (pu2 fGt) (vE (cF1 (pu1 jqz) (vV 4))) (vE (cC (.int 1))))) (sRz "NotSingle") jjw)
  (jkd (cIf (tEQ (vV 4)) (jjj m_behind [(cV 0),(cV 1),(cH (jjb (vV 4) (vE (cC (.int 0))))),(cV 3)]) (cC .non)))))
def jk9:Fn:=fn 5
  (jjc (jjk 4 (vkn (vE (cF2 jk7 (vE (cF1 (pu1 jqz) (vE (jjj jjo [(cH (jjb (vV 1) (vE (cC (.int 1)))))])))) (vE (cC (.int 1)))))))
  (jkd (cLC .rt 1 [0,1,2,3] (itS (cV 4)) (.n 0) tYes (kkc jju 4 [(jjj jka [(cV 1),(cV 2),(cV 3),(cV 0)])]))))
def m_plain_of:Fn:=fn 5
  (jjc (jjk 1 (qx8 (jjj m_first_standing [(cV 0)]) (cC (.int 0))))
  (jjc (jjk 2 (jv0 .rt []))
  (jjc (sWhile (tE (cF2 (pu2 fLt) (vE (cF1 (pu1 jqz) (vV 2))) (vE (cF1 (pu1 kwu) (vV 1))))) (jjc (jjk 3 (cH (jjb (vE (cF1 jxk (vV 1))) (vE (cF1 (pu1 jqz) (vV 2))))))
  (jjc (jjk 4 (cLC .rt 1 [0,3,1] (itS (cH (jjb (vV 0) (vE (cC (.int 0)))))) (.n 0) tYes (kkc jk9 3 [(cV 1),(cV 2),(cV 0)])))
  (jke jvn 2 (jvh .no [(cF1 (pu1 jqz) (vE (jjj jjo [(cH (jjb (vV 3) (vE (cC (.int 1)))))]))),(cH (jjb (jjb (jjb (vV 0) (vE (cC (.int 1)))) (jjb (vV 3) (vE (cC (.int 0))))) (vE (cC (.int 1))))),(cV 4)])))))
  (jkd (jvh .no [(jvh .no [(cF1 jze (jjb (vV 0) (vE (cC (.int 0))))),(cV 2)]),(cF1 jxk (vV 1))])))))
def jqg:Fn:=fn 1
  (jjc (jz4 ["NotSingle"] (qz6 (jxp m_plain_of [(cV 0)])) (jkd (cC (.bl false))))
  (jkd (cC (.bl true))))
def jkj:Fn:=fn 2
  (jkd (cF1 jqi (vE (cLC .rt 1 [1] (itS (cV 0)) (.n 0) tYes (cIf (tE (cF2 (pu2 fEq) (vV 0) (vV 1))) (cC (.str "new")) (cV 0))))))
def jq2:Fn:=fn 8
  (jjc (jjk 2 (jv0 .rt []))
  (jjc (jwi (qw5 (cV 0) (cH (jjb (vV 1) (vE (cC (.int 2)))))) (.t [3,4]) (jwi (qzx (cV 4)) (.t [5,6]) (sIf (tE (cF2 (f2First fNotNon) (vV 6) (vE (cC .non)))) (jjc (jjk 7 (cIf (tE (cF2 (pu2 fEq) (vV 5) (jjb (vV 1) (vE (cC (.int 0)))))) (cC (.str "fresh")) (cV 5)))
  (jke jvn 2 (jvh .no [(cV 3),(cV 7),(cH (jjb (vV 6) (vE (cC (.int 0))))),(jjj jkj [(cH (jjb (vV 6) (vE (cC (.int 1))))),(cH (jjb (vV 1) (vE (cC (.int 0)))))])]))) jjw)))
  (jkd (cMv 2))))
def m_machine_of:Fn:=fn 2
  (jjc (jjk 1 (cLC .rt 1 [0] (itS (cH (jjb (vV 0) (vE (cC (.int 1)))))) (.n 0) tYes (jvh .no [(cH (jjb (vV 0) (vE (cC (.int 0))))),(cH (jjb (vV 0) (vE (cC (.int 1))))),(jjj jq2 [(cH (jjb (vV 1) (vE (cC (.int 0))))),(cV 0)])])))
  (jjc (sIf (tOr (tNot (tEQ (vE (jjj jq3 [(cV 0)])))) (tE (cF2 (pu2 fGt) (vE (cF1 (pu1 vxb) (vE (cLC .rt 1 [] (itS (cV 1)) (.n 0) tYes (cF1 (pu1 jqz) (jjb (vV 0) (vE (cC (.int 2))))))))) (vE (cC (.int 120)))))) (sRz "TooGreat") jjw)
  (jkd (jvh .no [(cF1 jze (jjb (vV 0) (vE (cC (.int 0))))),(cV 1)]))))
def m__law_draw:Fn:=fn 4
  (jjc (jjk 2 (cF2 jjt (vE (cC (.int 1000))) (vE (cF2 (pu2 vxc) (vE (cC (.int 10))) (vE (cC (.int 64)))))))
  (jjc (jjk 3 (cF2 jk7 (vE (cF2 jjt (vE (cF2 jjt (vV 1) (vV 1))) (vV 1))) (vE (cC (.int 7)))))
  (jjc (sIf (tE (cF2 (pu2 fLt) (vV 1) (vE (cF1 (pu1 jqz) (vV 0))))) (jjk 3 (cH (jjb (vV 0) (vV 1)))) (sIf (tE (cF2 (pu2 fGt) (vE (cF1 (pu1 jqz) (vV 0))) (vE (cC (.int 0))))) (jjk 3 (cF2 jjt (vE (cF2 jk7 (vE (cF2 (pu2 jv9) (jjb (vV 0) (vE (cF2 (pu2 jv9) (vV 1) (vE (cF1 (pu1 jqz) (vV 0)))))) (vE (cC (.int 1000003))))) (vE (cC (.int 1))))) (vV 3))) jjw))
  (jkd (cF2 (pu2 jv9) (vE (cF2 jjt (vE (cF2 (pu2 jv9) (vV 3) (vV 2))) (vE (cF2 (pu2 vxc) (vE (cC (.int 7919))) (vE (cC (.int 15))))))) (vV 2))))))
def m__law_digits:Fn:=fn 4
  (jjc (jjk 2 (jv0 .rt []))
  (jjc (jwi (itS (cV 1)) (.n 3) (jjc (jke jvn 2 (cF2 (pu2 jv9) (vV 0) (vV 3)))
  (jjk 0 (cF2 (pu2 qkl) (vV 0) (vV 3)))))
  (jkd (cMv 2))))
def m__law_signs:Fn:=fn 11
  (jjc (jjk 2 (cC (.str "abcdefghijklmnopqrstuvwxyz")))
  (jjc (vx7 [3,4,5] (jjj m__law_digits [(cV 0),(jv0 .rt [(cC (.int 8)),(cC (.int 840)),(cC (.int 8))])]))
  (jjc (jjk 4 (cF2 (pu2 jv9) (vV 4) (vE (cF2 jk7 (vV 3) (vE (cC (.int 1)))))))
  (jjc (jjk 6 (jv0 .rt []))
  (jjc (jwi (kkk (vV 1)) (.n 7) (jjc (jjk 8 (cC (.str "")))
  (jjc (jwi (kkk (vE (cF2 jk7 (vV 3) (vE (cC (.int 1)))))) (.n 9) (jjc (jjk 10 (cF2 jk7 (vE (cF2 (pu2 qkl) (vV 0) (vE (cF2 jk7 (vE (cC (.int 53761))) (vE (cF2 jjt (vE (cF2 jjt (vE (cC (.int 26))) (vV 9))) (vV 9))))))) (vE (cF2 jjt (vE (cF2 jjt (vV 7) (vE (cF2 jk7 (vV 5) (vE (cC (.int 1))))))) (vE (cF1 (pu1 vki) (vE (cF2 (pu2 fEq) (vV 9) (vV 4)))))))))
  (jjk 8 (cF2 jk7 (vV 8) (jjb (vV 2) (vE (cF2 (pu2 jv9) (vV 10) (vE (cC (.int 26))))))))))
  (jke jvn 6 (cV 8)))))
  (jkd (cF1 jzd (vV 6))))))))
def jks:Fn:=fn 4
  (jjc (sIf (tE (cF2 (pu2 fEq) (jjb (vV 0) (vE (cC (.int 0)))) (vE (cC (.int 1))))) (jkd (jv0 .rt [(cC (.str "any"))])) jjw)
  (jjc (jjk 3 (jv0 .rt []))
  (jjc (sIf (tOr (tE (cF2 (pu2 fGt) (jjb (vV 0) (vE (cC (.int 0)))) (vE (cC (.int 2))))) (tAnd (tE (cF2 (pu2 fEq) (vV 1) (vE (cC (.int 0))))) (tE (cF2 (pu2 fGt) (jjb (vV 0) (vE (cC (.int 0)))) (vE (cC (.int 0))))))) (jke jvn 3 (cC (.str "fresh"))) jjw)
  (jjc (sIf (tAnd (tE (cF2 (pu2 fGt) (vV 1) (vE (cC (.int 0))))) (tE (cF2 (pu2 fGt) (jjb (vV 0) (vE (cC (.int 0)))) (vE (cC (.int 1)))))) (jjc (jke jvn 3 (cF2 (pu2 jv9) (jjb (vV 0) (vE (cC (.int 1)))) (vV 1)))
  (sIf (tEQ (vV 2)) (jjk 3 (cF2 jk7 (vV 3) (vE (cLC .rt 1 [3,0] (kkk (vV 1)) (.n 0) (tAnd (tE (cF2 (pu2 jkt) (vV 0) (vV 1))) (tE (cF2 (pu2 fEq) (jjb (vV 2) (vE (cF2 jk7 (vE (cC (.int 2))) (vV 0)))) (vE (cC (.int 1)))))) (cV 0))))) jjw)) jjw)
  (jjc (sIf (tE (cF2 (pu2 fEq) (jjb (vV 0) (vE (cC (.int 5)))) (vE (cC (.int 1))))) (vjp 3) jjw)
  (jkd (cMv 3)))))))
def jk8:Fn:=fn 9
  (jjc (jjk 5 (cF2 jk7 (vE (jv0 .rt [(cC (.str "new")),(cC .non)])) (vE (vkn (vV 2)))))
  (jjc (jjk 6 (jv0 .rt []))
  (jjc (jwi (itS (cSl (vV 0) none (some (vV 3)))) (.n 7) (jjc (jjk 8 (cH (jjb (vV 5) (vE (cF2 (pu2 jv9) (vV 7) (vE (cF1 (pu1 jqz) (vV 5))))))))
  (jjc (sIf (tAnd (tEQ (vV 4)) (tE (cF2 (f2First fNotNon) (vV 8) (vE (cC .non))))) (sIf (tOr (tE (cF2 (pu2 qkt) (vV 8) (vV 6))) (tOr (tAnd (tE (cF2 (pu2 fEq) (vV 8) (vE (cC (.str "new"))))) (tOr (tE (cF2 (pu2 fEq) (vV 1) (vE (cC (.str "any"))))) (tE (cF2 (pu2 qkt) (vV 1) (vV 6))))) (tAnd (tE (cF2 (pu2 fEq) (vV 8) (vV 1))) (tE (cF2 (pu2 qkt) (vE (cC (.str "new"))) (vV 6)))))) (jjk 8 (cC .non)) jjw) jjw)
  (jke jvn 6 (cV 8)))))
  (jkd (cF1 jqi (vV 6))))))
def m__law_single:Fn:=fn 15
  (jjc (jjk 3 (jjj m__law_digits [(jjj m__law_draw [(cV 0),(cV 1)]),(cF2 jk7 (vE (cF2 jk7 (vE (jv0 .rt [(cC (.int 4)),(cC (.int 8)),(cC (.int 2))])) (vE (cF2 jjt (vE (jv0 .rt [(cC (.int 12))])) (vE (cC (.int 4))))))) (vE (cF2 jjt (vE (jv0 .rt [(cC (.int 2))])) (vE (cC (.int 4))))))]))
  (jjc (jjk 4 (cF2 jk7 (vE (cC (.int 1))) (jjb (vV 3) (vE (cC (.int 0))))))
  (jjc (jjk 5 (cLC .rt 1 [3] (kkk (vV 4)) (.n 0) tYes (cF2 (pu2 jv9) (jjb (vV 1) (vE (cF2 jk7 (vE (cC (.int 3))) (vV 0)))) (vE (cF2 jk7 (vE (cC (.int 3))) (vE (cF1 (pu1 vki) (vE (cF2 (pu2 fEq) (jjb (vV 1) (vE (cC (.int 1)))) (vE (cC (.int 3))))))))))))
  (jjc (jjk 6 (jv0 .rt []))
  (jjc (jwi (kkk (vV 4)) (.n 7) (jjc (jjk 8 (jv0 .rt []))
  (jjc (jwi (kkk (vE (cF1 (pu1 jqz) (vV 2)))) (.n 9) (jjc (jjk 10 (jjj m__law_draw [(cV 0),(cF2 jk7 (vE (cF2 jk7 (vE (cF2 jk7 (vV 1) (vE (cC (.int 1))))) (vE (cF2 jjt (vV 7) (vE (cF1 (pu1 jqz) (vV 2))))))) (vV 9))]))
  (jjc (jjk 10 (jjj m__law_digits [(cV 10),(cF2 jk7 (vE (jv0 .rt [(cC (.int 8)),(cC (.int 12)),(cC (.int 2)),(cC (.int 2)),(cC (.int 2)),(cC (.int 2))])) (vE (cF2 jjt (vE (jv0 .rt [(cC (.int 12)),(cC (.int 60)),(cC (.int 60)),(cC (.int 60))])) (vE (cC (.int 4))))))]))
  (jwi (qzx (jjj jks [(cV 10),(cH (jjb (vV 5) (vV 7))),(cF2 (pu2 fEq) (jjb (vV 3) (vE (cC (.int 2)))) (vE (cC (.int 1))))])) (.t [11,12]) (jjc (jjk 13 (cF2 (pu2 jv9) (jjb (vV 10) (vE (cF2 jk7 (vE (cC (.int 6))) (vE (cF2 jjt (vE (cC (.int 4))) (vV 11)))))) (vV 4)))
  (jjc (jjk 14 (jjj jk8 [(cSl (vV 10) (some (vE (cF2 jk7 (vE (cC (.int 7))) (vE (cF2 jjt (vE (cC (.int 4))) (vV 11)))))) (some (vE (cF2 jk7 (vE (cC (.int 10))) (vE (cF2 jjt (vE (cC (.int 4))) (vV 11))))))),(cV 12),(cH (jjb (vV 5) (vV 7))),(cH (jjb (vV 5) (vV 13))),(cF2 (pu2 fEq) (jjb (vV 3) (vE (cC (.int 2)))) (vE (cC (.int 1))))]))
  (jke jvn 8 (jvh .no [(cH (jjb (vV 2) (vV 9))),(cV 12),(cV 13),(cV 14)]))))))))
  (jke jvn 6 (jvh .no [(cH (jjb (vV 5) (vV 7))),(cF2 (pu2 fEq) (jjb (vV 3) (vE (cF2 jk7 (vE (cC (.int 7))) (vV 7)))) (vE (cC (.int 1)))),(cV 8)])))))
  (jkd (jvh .no [(jvh .no [(cF1 jze (vV 2)),(cV 6)]),(cF2 jk7 (vE (cF2 jk7 (vV 1) (vE (cC (.int 1))))) (vE (cF2 jjt (vV 4) (vE (cF1 (pu1 jqz) (vV 2))))))])))))))
def m__law_copy:Fn:=fn 1
  (jkd (jvh .no [(cF1 jze (jjb (vV 0) (vE (cC (.int 0))))),(cLC .rt 1 [] (itS (cH (jjb (vV 0) (vE (cC (.int 1)))))) (.n 0) tYes (jvh .no [(cH (jjb (vV 0) (vE (cC (.int 0))))),(cH (jjb (vV 0) (vE (cC (.int 1))))),(cF1 jze (jjb (vV 0) (vE (cC (.int 2)))))]))]))
def m__law_many:Fn:=fn 4
  (jjc (jjk 1 (cC (.int 0)))
  (jjc (jwi (itS (cH (jjb (vV 0) (vE (cC (.int 1)))))) (.n 2) (jwi (itS (cH (jjb (vV 2) (vE (cC (.int 2)))))) (.n 3) (jjk 1 (cF2 jk7 (vV 1) (vE (cF1 (pu1 jqz) (vE (cLC .rt 1 [] (itS (cV 3)) (.n 0) (tE (cF2 (f2First fNotNon) (vV 0) (vE (cC .non)))) (cV 0)))))))))
  (jkd (cMv 1))))
def m_law:Fn:=fn 9
  (jjc (jjk 1 (jjj m__law_signs [(jjj m__law_draw [(cV 0),(cC (.int 0))]),(cF2 jk7 (vE (cC (.int 1))) (vE (cF2 (pu2 jv9) (vE (jjj m__law_draw [(cV 0),(cC (.int 1))])) (vE (cC (.int 3))))))]))
  (jjc (jjk 2 (cH (jjb (vE (jjj m__law_single [(cV 0),(cC (.int 2)),(cV 1)])) (vE (cC (.int 0))))))
  (jjc (jjk 3 (cH (jjb (vE (jjj m_plain_of [(jjj m__law_copy [(cV 2)])])) (vE (cC (.int 0))))))
  (jjc (jjk 4 (cC .non))
  (jjc (jjk 5 (cC (.bl false)))
  (jjc (jz4 ["TooGreat"] (jjk 4 (jxp m_machine_of [(cV 3)])) (jjk 5 (cC (.bl true))))
  (jjc (sIf (tOr (tEQ (vV 5)) (tOr (tE (cF2 (pu2 fGt) (vE (cF1 (pu1 jqz) (jjb (vV 3) (vE (cC (.int 1)))))) (vE (cC (.int 12))))) (tE (cF2 (pu2 fGt) (vE (jjj m__law_many [(cV 3)])) (vE (cC (.int 120))))))) (jkd (vjg (vV 5) (cOr (vE (cF2 (pu2 fGt) (vE (cF1 (pu1 jqz) (jjb (vV 3) (vE (cC (.int 1)))))) (vE (cC (.int 12))))) (cF2 (pu2 fGt) (vE (jjj m__law_many [(cV 3)])) (vE (cC (.int 120))))))) jjw)
  (jjc (sIf (tE (cF2 (pu2 qkk) (vE (jjj jqg [(cV 4)])) (vE (cC (.bl true))))) (jkd (cC (.bl false))) jjw)
  (jjc (vx7 [6,7] (jjj m_plain_of [(cV 4)]))
  (jjc (jjk 8 (cLC .rt 1 [3] (kkk (vE (cF1 (pu1 jqz) (jjb (vV 3) (vE (cC (.int 1))))))) (.n 0) tYes (jvh .no [(cV 0),(wqf (jjb (jjb (jjb (vV 1) (vE (cC (.int 1)))) (vV 0)) (vE (cC (.int 0)))))])))
  (jkd (vjg (vE (cF2 (pu2 fEq) (vV 6) (vV 3))) (vjg (vE (cF2 (pu2 fEq) (vE (cF1 (pu1 qxo) (vV 6))) (vE (cF1 (pu1 qxo) (vV 3))))) (cF2 (pu2 fEq) (vV 7) (vV 8)))))))))))))))
end Nk37
noncomputable section
namespace Nk37
open Q PySem C F G
theorem h1:m__law_draw=C.m__law_draw:=rfl
theorem h8:m__law_signs=C.m__law_signs:=rfl
theorem h9:m__law_single=F.m__law_single C.m__law_draw:=rfl
theorem h10:m__law_copy=C.m__law_copy:=rfl
theorem h12:m_plain_of=F.m_plain_of (sRz "NotSingle"):=rfl
theorem h13:m_machine_of=G.m_machine_of (sRz "TooGreat"):=rfl
theorem h14:m__law_many=G.m__law_many:=rfl
section
variable {ss:List Str}{rs:List D}{kps:List Int}{kp:Int}{gd st0:D}{q:List D×List D}
theorem vk4(hR:Rmw rs)(hx:Rx ss kps rs)(h3:∀k∈kps,k<=3)(hr0:rs[0]?=some (.tup [.int kp,gd,st0]))(hk0:0<=kp)(hk3:kp<=3)(hr:Run ss rs [.tup [.int 0,.tup (List.replicate kp.toNat .non)]] [] (some q)):
  Oo (F.m_plain_of (sRz "NotSingle")) [(.no,jwf ss rs)] (λy=>∃_:Unit,y=(.no,.tup [jwf ss q.2,.lst q.1])/\True) noX:=by
 refine(jzp (X:=noX) hR hx h3 hr0 hk0 hk3 λh=>by cases h.det hr).mono ?_;rintro y ⟨K,rooms,rfl,h⟩;cases h.det hr;exact⟨(),rfl,trivial⟩
theorem single_ok(hR:Rmw rs)(hx:Rx ss kps rs)(h3:∀k∈kps,k<=3)(hr0:rs[0]?=some (.tup [.int kp,gd,st0]))(hk0:0<=kp)(hk3:kp<=3)(hr:Run ss rs [.tup [.int 0,.tup (List.replicate kp.toNat .non)]] [] (some q)):
  Oo jqg [(.no,jwf ss rs)] (λy=>∃_:Unit,y=(.dp,.bl true)/\True) noX:=by
 unfold jqg;simp only[h12];refine jq7 ?_;simp! only[↓vxf];refine(vk4 hR hx h3 hr0 hk0 hk3 hr).ox ?_ (λc h=>h.elim);rintro y ⟨_,rfl,_⟩;simp! only[]
 first | trivial | exact⟨(),trivial⟩| exact⟨(),rfl,trivial⟩
end
theorem wko{ss:List Str}{rs:List D}{kps:List Int}{K rooms:List D}(h:Pf ss rs kps K rooms):K.map (phi K)=(jj4 0 rooms.length).map (λd=>match d with | .int r=>.tup [.int r,.tup (jj4 0 ((jvg K).getD r.toNat 0))]| _=>.non):=by
 refine List.ext_getElem? λi=>?_
 rw[Xi,Xi]
 by_cases hi:i<K.length
 ·have hi2:(i:Int)<(rooms.length:Int):=by have:=h.len;omega
  rw[kjj hi2,X0 hi];show some (phi K K[i])=some (D.tup [.int i,.tup (jj4 0 ((jvg K).getD (i:Int).toNat 0))]);have hx:K.idxOf K[i]=i:=List.Nodup.idxOf_getElem h.kin.1 i hi;have hk:(jvg K).getD (i:Int).toNat 0=(nN K[i]:Int):=by
   unfold jvg;rw[Yb,X2,Xi,X0 hi];rfl
  unfold phi;rw[hx,hk]
 ·rw[Y8 (by omega),Y8 (by unfold jj4;rw[X3,Ya];have:=h.len;omega)];rfl
theorem vq4{ss:List Str}{rs:List D}{kps:List Int}{s0:D}{q:List D×List D}(hs3:ss.length<=3)(hS:∀z∈ss,Sg z)(hR:Rms rs)(hx:Rx ss kps rs)(hk4:kps.length<=4)(h3:∀k∈kps,k<=3)(h0:Kin kps V4 [s0])(hr:Run ss rs [s0] [] (some q))(h12:q.2.length<=12):Tx 80000 40 (jwf ss q.2):=by
 obtain⟨a1,a2,a3⟩:=vxk (m:=33) hs3 hR hx hk4 h3 hr h0 (Y4 _) (λd hd=>nomatch hd) q rfl;have t1:Tx 38222 39 (.lst q.2):=kzc (n:=3183) (c:=12) a3 h12;have t2:Tx 38 39 (sL ss):=kzc (n:=10) (c:=3) (λd hd=>by
  obtain⟨z,hz,rfl⟩:=List.mem_map.mp hd;exact vxj (hS z hz)) (by simpa using hs3)
 refine(kza (n:=38222) (c:=2) (λd hd=>?_) (by simp):Tx (3+2*(38222+2)) 40 _).mono (by omega);simp only[Xu,Xm,or_false]at hd;rcases hd with rfl | rfl
 ·exact t2.mono (by omega)
 ·exact t1
theorem wk0(ns:List Int):Oo m_law [(.no,iL ns)] (λy=>y.2=.bl true) noX:=by
 unfold m_law;simp only[h1,h8,h9,h10,h12,h13,h14];refine jq7 ?_;simp! only[];refine(kz1 ns 0 (by decide) (by decide)).use ?_;intro x0 hx0;simp! only[];refine(kz1 ns 1 (by decide) (by decide)).use ?_;intro x1 hx1;have q0:=Y5 x1 (show(3:Int)≠0 by decide);have q1:=Xy x1 (show(0:Int)<3 by decide);simp! only[mod_i (a:=x1) (b:=3) (by decide)];refine(qqe x0 (1+x1 % 3) hx0.1 (by omega) (by omega)).use ?_;rintro ss ⟨hss,hS,hnd⟩;simp! only[];refine(F.single_ok kz1 ns 2 ss (by decide) (by decide) (by omega) (by omega) hnd).use2 ?_;rintro rs at_ ⟨hR,a0,a1,kps,hx,hk3,ap,hSg⟩;have h3:∀k∈kps,k<=3:=λk hk=>(hk3 k hk).2
 have hrl:rs.length=kps.length:=hx.1;have hR1:=hR.1;have hk4:kps.length<=4:=by have:=hR.2.1;omega
 obtain⟨gd,st0,hr0,_⟩:=hx.2 0 (by omega);have hkp:=hk3 (kps.getD 0 0) (by rw[X2,X0 (by omega)];exact Xk _);generalize kps.getD 0 0=kp at hr0 hkp;have hin:Kin kps V4 [.tup [.int 0,.tup (List.replicate kp.toNat .non)]]:=kvj (hR:=hR) hx (by simp[V4]) hr0 hkp.1;have hkeep:=qzw hR hx h3 hSg;have hI0:SokV kps V4 (.tup [.int 0,.tup (List.replicate kp.toNat .non)])/\(ap=true->vx6 (jzy (.tup [.int 0,.tup (List.replicate kp.toNat .non)]))):=⟨hin.2 _ X4,λ_=>λi j p h _=>by
  have:=List.eq_of_mem_replicate (Xp h);cases this⟩
 simp! only[p0];refine(vwn hR.2.2).use ?_;intro _ _;simp! only[];refine(jzp (X:=noX) hR hx h3 hr0 hkp.1 hkp.2 (λh=>by
  obtain⟨q,e,_⟩:=qz8 hkeep h (λk hk=>by rw[List.mem_singleton.mp hk];exact hI0);cases e)).use2 ?_
 intro K rooms hrun;obtain⟨hpf,hm0,hc0,hp0⟩:=wve hR hx h3 hr0 hkp.1 hrun;have hlen:=hpf.len;have hK1:1<=K.length:=by
  cases K with
  | nil=>cases hm0
  | cons=>simp
 have hKl:=vkc hpf.kin hk4 h3 (by decide);have hplr:=vjy hpf;have hkps:=kxw hpf;have hmany:=vvs (ss:=ss) (rooms:=rooms) (by omega) (by omega) hplr;simp! only[p0,↓vq2];refine(kvc (X:=λc=>c="TooGreat"/\¬(rooms.length<=12/\tot ss rooms<=120)) (by omega) (by omega) hkps hplr (λe E N C R h=>by rw[w_rz];exact h) (λh=>⟨rfl,h⟩)).ox ?_ ?_
 ·rintro y ⟨rfl,h12,ht⟩;have e1:decide ((12:Int)<(rooms.length:Int))=false:=X9 (by omega);have e2:decide ((120:Int)<((tot ss rooms:Nat):Int))=false:=X9 (by omega);obtain⟨hRw,hRx⟩:=vq8 hpf (by omega) h12 (by omega);have hk3':∀k∈jvg K,k<=3:=λk hk=>(hkps k hk).2
  have hs0:(phi K (.tup [.int 0,.tup (List.replicate kp.toNat .non)]))=.tup [.int 0,.tup (List.replicate (0:Int).toNat .non)]/\(jvg K).getD 0 0=0:=by
   have hc:=hc0;have hpr:pr (List.replicate kp.toNat D.non)=List.replicate kp.toNat .non:=by
    have:=hp0;unfold qzo at this;dsimp only at this;injection this with this;injection this with _ this;injection this with this _;injection this
   unfold jw9 at hc;dsimp only at hc;rw[hpr]at hc;injection hc with hc;injection hc with hc1 hc2;injection hc1 with hc1;injection hc2 with hc2 _;injection hc2 with hc2;have hn:jk5 (List.replicate kp.toNat D.non)=[]:=by
    cases hh:jk5 (List.replicate kp.toNat D.non)with
    | nil=>rfl
    | cons a l=>rw[hh]at hc2;simp at hc2
   have hi0:K.idxOf (.tup [.int 0,.tup (List.replicate kp.toNat .non)])=0:=by omega
   refine⟨?_,?_⟩
   ·unfold phi nN;rw[jqx,hn,hi0];rfl
   ·unfold jvg;have hg:=qwd hm0;rw[hi0]at hg;rw[X2,Xi,X0 (by omega)];rw[X2,X0 (by omega)]at hg;have hg:K[0]=_:=hg;show((jk5 (jzy K[0])).length:Int)=0;rw[hg,jqx,hn];rfl
  obtain⟨gd',st',hr0',_⟩:=hRx.2 0 (by unfold jvg;rw[X3];omega);rw[hs0.2]at hr0';have hrun2:=qz7 hpf hnd hrun rfl;rw[List.map_cons,List.map_nil,hs0.1]at hrun2;have hT:=vq4 (by omega) hS hR hx hk4 h3 hin hrun h12;have hT:Tx 80000 40 (jwf ss rooms):=hT;have hrep:qxo (jwf ss rooms)=some (.str (D.dat (jwf ss rooms)).shown):=by
   unfold qxo;rw[Xf ⟨rfl,hT.fl,hT.sh,by have:=hT.ln;unfold sizeLine;omega⟩]
  generalize (D.dat (jwf ss rooms)).shown=txt at hrep;have hfq:=C.eq_self hT.fl;have hnb:qkk (.bl true) (.bl true)=some (.bl false):=rfl;have hfd:fEq (.lst (K.map (phi K))) (.lst (K.map (phi K)))=some (.bl true):=C.eq_self (by
   show D.flats 39 (K.map (phi K))=true;refine jqn λd hd=>?_
   obtain⟨t,_,rfl⟩:=List.mem_map.mp hd;show D.flats 38 [.int _,.tup _]=true;refine jqn λd hd=>?_
   simp only[Xu,Xm,or_false]at hd;rcases hd with rfl | rfl
   ·rfl
   ·show D.flats 37 (jj4 0 _)=true;exact jqn λd hd=>by obtain⟨i,_,_,rfl⟩:=jqu hd;rfl)
  simp! only[p1,e1];refine hmany.use ?_;intro _ _;simp! only[e2];refine(single_ok hRw hRx hk3' hr0' (by decide) (by decide) hrun2).use ?_;intro _ _;simp! only[hnb];refine(vk4 hRw hRx hk3' hr0' (by decide) (by decide) hrun2).use ?_;intro _ _;simp! only[p1];refine jvb [some (.no,jwf ss rooms)] (λd y=>y.2=match d with | .int r=>.tup [.int r,.tup (jj4 0 ((jvg K).getD r.toNat 0))]| _=>.non) ?_;refine jwv ?_;simp! only[p1];refine⟨_,rfl,by omega,by omega,rfl,λd hd=>?_,λys hy=>?_⟩
  ·obtain⟨i,i0,i1,rfl⟩:=jqu hd;obtain⟨r',er,gd2,rows,rfl,_⟩:=hpf.prs.2 i.toNat (by unfold jvg;rw[X3];omega);have hix:jva (.lst rooms) (.int i)=some (.tup [.int ((jvg K).getD i.toNat 0),.bl gd2,.lst rows]):=qw3 i0 er;have hb:=hkps ((jvg K).getD i.toNat 0) (by rw[X2,X0 (by unfold jvg;rw[X3];omega)];exact Xk _);have hsm:(jkf ((jvg K).getD i.toNat 0)=true/\((jvg K).getD i.toNat 0).toNat<=big)=True:=rng_ok (by omega) (by omega);simp! only[↓wqk,p1,hix,t0,hsm]
   first | exact⟨⟨_,rfl⟩,rfl⟩| exact⟨⟨_,rfl⟩,trivial⟩| exact⟨_,rfl⟩
  ·rw[jql,jq8 (h:=λd=>match d with | .int r=>.tup [.int r,.tup (jj4 0 ((jvg K).getD r.toNat 0))]| _=>.non) (λd y h=>h) hy,<-wko hpf];simp only[back,clr,at',List.map_cons,List.map_nil,List.set_cons_zero,List.set_cons_succ];simp! only[hfq,hrep,C.eq_self (d:=.str txt) rfl,hfd]
   first | done | rfl | trivial
 ·rintro c ⟨rfl,hns⟩;refine⟨by simp,?_⟩
  by_cases h12:rooms.length<=12
  ·have ht:120<tot ss rooms:=by
    by_cases h:tot ss rooms<=120
    ·exact absurd ⟨h12,h⟩ hns
    ·omega
   have e1:decide ((12:Int)<(rooms.length:Int))=false:=X9 (by omega);have e2:decide ((120:Int)<((tot ss rooms:Nat):Int))=true:=Xb (by omega);simp! only[p1,e1];refine hmany.use ?_;intro _ _;simp! only[e2]
   first | done | rfl | trivial
  ·have e1:decide ((12:Int)<(rooms.length:Int))=true:=Xb (by omega);simp! only[p1,e1]
   first | done | rfl | trivial
theorem law_true(ns:List Int)(hl:ns.length<=63)(hb:∀i∈ns,Builtin.Int.intBits i<=1048576):∃E o,m_law [(.no,.lst (ns.map D.int))]=some (.ok E (o,.bl true)):=by
 obtain⟨E,⟨o,d⟩,h,hd⟩:=(wk0 ns).out;have hd:d=.bl true:=hd;subst hd;exact⟨E,o,h⟩
end Nk37
namespace Nk37
open PySem L2 L3 Q
def top(i:Nat):Stmt:=PySem.Challenge.pw_freshrooms_k37_there_and_back.main.body.getD i (.Pass ⟨0,0,0,0⟩)
abbrev qqi:Stmt:=top 5
abbrev kjh:Stmt:=top 7
abbrev kqp:Stmt:=top 6
abbrev jq6:Stmt:=top 9
abbrev jz1:Stmt:=top 12
abbrev kji:Stmt:=top 10
abbrev kqq:Stmt:=top 11
abbrev jz3:Stmt:=top 17
abbrev jvu:Stmt:=top 24
abbrev jqs:Stmt:=top 25
abbrev jvt:Stmt:=top 22
abbrev jv3:Stmt:=top 23
abbrev jv2:Stmt:=top 21
abbrev jz2:Stmt:=top 20
abbrev jwp:Stmt:=top 19
abbrev jvw:Stmt:=top 28
abbrev jz0:Stmt:=top 27
abbrev jvv:Stmt:=top 26
abbrev jwr:Stmt:=top 30
abbrev jv5:Stmt:=top 31
abbrev jvx:Stmt:=top 32
abbrev jwt:Stmt:=top 33
abbrev jvy:Stmt:=top 34
abbrev jv4:Stmt:=top 35
abbrev jws:Stmt:=top 36
abbrev jwq:Stmt:=top 37
abbrev vqh:Stmt:=top 38
theorem sc_fits:FnScope ["step","kept","name","asks"] ["step","kept","name"] (jj9 qqi):=mkS
theorem qk6:FnScope ["fill","kept","name"] ["fill","kept","name"] (jj9 kjh):=mkS
theorem qqg:FnScope ["step","kept","name"] ["step","kept","name"] (jj9 kqp):=mkS
theorem jxz:FnScope ["machine"] ["machine"] (jj9 jq6):=mkS
theorem kxf:FnScope ["machine","standing"] ["machine","standing"] (jj9 jz1):=mkS
theorem sc_fitting:FnScope ["machine","standing","sign","name","kept","steps"] ["machine","standing","sign","name"] (jj9 kji):=mkS
theorem sc_behind:FnScope ["machine","standing","number","name","step"] ["machine","standing","number","name"] (jj9 kqq):=mkS
theorem kxg:FnScope ["plain"] ["plain"] (jj9 jz3):=mkS
theorem sc_names_held:FnScope ["kept","names","name"] ["kept"] (jj9 jvu):=mkS
theorem kjg:FnScope ["names","kept"] ["names","kept"] (jj9 jqs):=mkS
theorem sc_plain_case:FnScope ["standing","numbers","names","pair"] ["standing","numbers"] (jj9 jvt):=mkS
theorem sc_only_behind:FnScope ["machine","standing","sign","name","steps"] ["machine","standing","sign","name"] (jj9 jv3):=mkS
theorem sc_plain_cases:FnScope ["machine","pair","sign","numbers","names"] ["machine","pair","sign","numbers"] (jj9 jv2):=mkS
theorem sc_plain_of:FnScope ["machine","numbers","rooms","pair","steps"] ["machine"] (jj9 jz2):=mkS
theorem kw3:FnScope ["machine"] ["machine"] (jj9 jwp):=mkS
theorem kqo:FnScope ["fills","own"] ["fills","own"] (jj9 jvw):=mkS
theorem sc_steps_of:FnScope ["signs","room","steps","sign","cases","number","case","asks"] ["signs","room"] (jj9 jz0):=mkS
theorem sc_machine_of:FnScope ["plain","rooms"] ["plain"] (jj9 jvv):=mkS
theorem sc__law_draw:FnScope ["_law_script","_law_k","_law_most","_law_x"] ["_law_script","_law_k"] (jj9 jwr):=mkS
theorem sc__law_digits:FnScope ["_law_x","_law_sizes","_law_found","_law_size"] ["_law_x","_law_sizes"] (jj9 jv5):=mkS
theorem sc__law_signs:FnScope ["_law_x","_law_many_here","_law_letters","_law_size","_law_at","_law_step","_law_signs_here","_law_k","_law_sign","_law_j","_law_turn"] ["_law_x","_law_many_here"] (jj9 jvx):=mkS
theorem sc__law_asks:FnScope ["_law_y","_law_here","_law_apart","_law_some"] ["_law_y","_law_here","_law_apart"] (jj9 jwt):=mkS
theorem sc__law_fills:FnScope ["_law_z","_law_ask","_law_here","_law_there","_law_apart","_law_some","_law_fills_here","_law_d","_law_one"] ["_law_z","_law_ask","_law_here","_law_there","_law_apart"] (jj9 jvy):=mkS
theorem sc__law_single:FnScope ["_law_script","_law_start","_law_signs_here","_law_head","_law_size","_law_keepers","_law_rooms","_law_r","_law_steps","_law_s","_law_y","_law_k","_law_ask","_law_to","_law_fills_here"] ["_law_script","_law_start","_law_signs_here"] (jj9 jv4):=mkS
theorem kw4:FnScope ["_law_machine"] ["_law_machine"] (jj9 jws):=mkS
theorem sc__law_many:FnScope ["_law_plain","_law_many_here","_law_room","_law_cases"] ["_law_plain"] (jj9 jwq):=mkS
theorem sc_law:FnScope ["_law_script","_law_signs_here","_law_machine","_law_plain","_law_told","_law_refused","_law_again","_law_pairs","_law_due"] ["_law_script"] (jj9 vqh):=mkS
structure Txt (K:PySem.W.Frag)(mg:Str->Option Value)(x_NotSingle x_TooGreat:Addr):Prop where
 b_all:mg "all"=none
 b_enumerate:mg "enumerate"=none
 b_int:mg "int"=none
 b_len:mg "len"=none
 b_list:mg "list"=none
 b_range:mg "range"=none
 b_repr:mg "repr"=none
 b_sorted:mg "sorted"=none
 b_sum:mg "sum"=none
 b_tuple:mg "tuple"=none
 b_zip:mg "zip"=none
 c_MOST_STEPS:Cst mg "MOST_STEPS" (V.int (120))
 c_SMALL_ROOMS:Cst mg "SMALL_ROOMS" (V.int (12))
 c_SMALL_KEEPERS:Cst mg "SMALL_KEEPERS" (V.int (3))
 n_NotSingle:PySem.W.nsIn K mainGlobals "NotSingle"=some (some (.ref x_NotSingle))
 m_NotSingle:mg "NotSingle"=some (.ref x_NotSingle)
 e_NotSingle:ECls K mg "NotSingle" x_NotSingle
 n_TooGreat:PySem.W.nsIn K mainGlobals "TooGreat"=some (some (.ref x_TooGreat))
 m_TooGreat:mg "TooGreat"=some (.ref x_TooGreat)
 e_TooGreat:ECls K mg "TooGreat" x_TooGreat
 h_NotSingle_NotSingle:PySem.W.exmOne K (.ref x_NotSingle) (.ref x_NotSingle)=some true
 h_TooGreat_TooGreat:PySem.W.exmOne K (.ref x_TooGreat) (.ref x_TooGreat)=some true
section
variable (P:Program)(w:PySem.World)(K:PySem.W.Frag)(mg:Str->Option Value)(base:Heap)
abbrev vkz:=jwh P w K mg base 1 "fits" ["step","kept","name"] (spF K mg 3 kjt)
abbrev kx9:=jwh P w K mg base 1 "held_by" ["fill","kept","name"] (spF K mg 3 jqh)
abbrev qjw:=jwh P w K mg base 2 "filled" ["step","kept","name"] (spF K mg 3 jv7)
abbrev jvi:=jwh P w K mg base 1 "first_standing" ["machine"] (spF K mg 1 m_first_standing)
abbrev jzk:=jwh P w K mg base 1 "steps_at" ["machine","standing"] (spF K mg 2 jkn)
abbrev kxa:=jwh P w K mg base 2 "fitting" ["machine","standing","sign","name"] (spF K mg 4 m_fitting)
abbrev qjx:=jwh P w K mg base 3 "behind" ["machine","standing","number","name"] (spF K mg 4 m_behind)
abbrev kqi:=jwh P w K mg base 1 "is_small" ["plain"] (spF K mg 1 jq3)
abbrev jqo:=jwh P w K mg base 1 "names_held" ["kept"] (spF K mg 1 jjo)
abbrev jwn:=jwh P w K mg base 1 "places_among" ["names","kept"] (spF K mg 2 jk0)
abbrev jzr:=jwh P w K mg base 2 "plain_case" ["standing","numbers"] (spM K mg 1 jju)
abbrev jxr:=jwh P w K mg base 4 "only_behind" ["machine","standing","sign","name"] (spF K mg 4 jka)
abbrev jxq:=jwh P w K mg base 5 "plain_cases" ["machine","pair","sign","numbers"] (spM K mg 3 jk9)
abbrev jzl:=jwh P w K mg base 6 "plain_of" ["machine"] (spF K mg 1 m_plain_of)
abbrev kkg:=jwh P w K mg base 7 "is_single" ["machine"] (spF K mg 1 jqg)
abbrev jzt:=jwh P w K mg base 1 "fills_told" ["fills","own"] (spF K mg 2 jkj)
abbrev kqh:=jwh P w K mg base 2 "steps_of" ["signs","room"] (spF K mg 2 jq2)
abbrev jzs:=jwh P w K mg base 3 "machine_of" ["plain"] (spF K mg 1 m_machine_of)
abbrev jx1:=jwh P w K mg base 1 "_law_draw" ["_law_script","_law_k"] (spF K mg 2 m__law_draw)
abbrev jvd:=jwh P w K mg base 1 "_law_digits" ["_law_x","_law_sizes"] (spF K mg 2 m__law_digits)
abbrev jzu:=jwh P w K mg base 2 "_law_signs" ["_law_x","_law_many_here"] (spF K mg 2 m__law_signs)
abbrev kkj:=jwh P w K mg base 1 "_law_asks" ["_law_y","_law_here","_law_apart"] (spF K mg 3 jks)
abbrev jzv:=jwh P w K mg base 1 "_law_fills" ["_law_z","_law_ask","_law_here","_law_there","_law_apart"] (spF K mg 5 jk8)
abbrev jxs:=jwh P w K mg base 2 "_law_single" ["_law_script","_law_start","_law_signs_here"] (spF K mg 3 m__law_single)
abbrev kki:=jwh P w K mg base 1 "_law_copy" ["_law_machine"] (spF K mg 1 m__law_copy)
abbrev kkh:=jwh P w K mg base 1 "_law_many" ["_law_plain"] (spF K mg 1 m__law_many)
end
section
variable {x_NotSingle x_TooGreat:Addr}
variable {P:Program}{w:PySem.World}{K:PySem.W.Frag}{mg:Str->Option Value}{base:Heap}{f:Addr}{fd:FuncData}
theorem vvo(T:Txt K mg x_NotSingle x_TooGreat)  (F:Fun K "fits" "fits" qqi f fd):FnOk P w K mg base (CXE P w) 1 f fd ["step","kept","name"] (spF K mg 3 kjt):=
 jjn F sc_fits (jjr rfl) λcdv A outer s H vs Q E hr h=>have nd:=sc_fits.nd;jkc rfl
  (jje (qA nd (jv1 (kx (vv 0) ki))) (jje (kqv (jjm (jqj hr.units) jqk (vv 3) ks (jjf _) jzi) (jjh (jkg (q_C kxo (λ_=>jzn)))) jvl) (jje (kqv (jjm (jqj hr.units) jqk (vv 3) ks (jjf _) jzi) (jjh (jkg (jxb (kqz hr.units) kvq (vv 2) (vv 1) (by rfl)))) jvl) (jjh (jkg (jxb (jqj hr.units) jqk (kx (vv 1) (vv 3)) (vv 2) (jjf _))))))) h
theorem qkb(T:Txt K mg x_NotSingle x_TooGreat)  (F:Fun K "held_by" "held_by" kjh f fd):FnOk P w K mg base (CXE P w) 1 f fd ["fill","kept","name"] (spF K mg 3 jqh):=
 jjn F qk6 (jjr rfl) λcdv A outer s H vs Q E hr h=>jkc rfl
  (jje (kqv (jjm qve qxi (vv 0) kn (jjf _) qxd) (jjh (jkg kN)) jvl) (jjh (jkg (qqw (jjm (jqj hr.units) jqk (vv 0) ks (jjf _) jzi) (cv 2) (jv1 (kx (vv 1) (vv 0))))))) h
theorem qvi(T:Txt K mg x_NotSingle x_TooGreat)(D_held_by:kx9 P w K mg base)(F:Fun K "filled" "filled" kqp f fd):FnOk P w K mg base (CXE P w) 2 f fd ["step","kept","name"] (spF K mg 3 jv7):=
 jjn F qqg (jjr rfl) λcdv A outer s H vs Q E hr h=>jkc rfl
  (jjh (jkg (qT (jjq (qxm (o:=.rt) (k:=1) (R:=[1,2]) ["fill","kept","name"] (jwu (jv1 (kx (vv 0) ki))) (λ_ _ _ _ _=>(kzy (jkh (i:=0) (show(["fill","kept","name"]:List Str).Nodup by decide +kernel) rfl (by first | exact Or.inl rfl | exact Or.inr rfl)))) (λ_ _ _ _ _=>kjm) (λ_ _ _ _ _=>(qC D_held_by hr (jjg (cv 0) (jjg (cv 1) (jjg (cv 2) jkk))))) jjl ⟨_,_,rfl,rfl⟩ (by decide) (show ∀j∈([1,2]:List Nat) ,j<3 by decide))) T.b_tuple))) h
theorem jza(T:Txt K mg x_NotSingle x_TooGreat)  (F:Fun K "first_standing" "first_standing" jq6 f fd):FnOk P w K mg base (CXE P w) 1 f fd ["machine"] (spF K mg 1 m_first_standing):=
 jjn F jxz (jjr rfl) λcdv A outer s H vs Q E hr h=>jkc rfl
  (jjh (jkg (jvk (o:=.no) (jjg kI (jjg (oX (jjq (jvk (o:=.no) (jjg kN jkk))) (kx (kx (kx (vv 0) ki) ki) ki)) jkk))))) h
theorem kxr(T:Txt K mg x_NotSingle x_TooGreat)  (F:Fun K "steps_at" "steps_at" jz1 f fd):FnOk P w K mg base (CXE P w) 1 f fd ["machine","standing"] (spF K mg 2 jkn):=
 jjn F kxf (jjr rfl) λcdv A outer s H vs Q E hr h=>jkc rfl
  (jjh (jkg (jv1 (kx (kx (kx (vv 0) ki) (kx (vv 1) ki)) ki)))) h
theorem qkc(T:Txt K mg x_NotSingle x_TooGreat)(D_steps_at:jzk P w K mg base)(D_fits:vkz P w K mg base)(F:Fun K "fitting" "fitting" kji f fd):FnOk P w K mg base (CXE P w) 2 f fd ["machine","standing","sign","name"] (spF K mg 4 m_fitting):=
 jjn F sc_fitting (jjr rfl) λcdv A outer s H vs Q E hr h=>have nd:=sc_fitting.nd;jkc rfl
  (jje (qA nd (jv1 (kx (vv 1) ki))) (jje (qA nd (qC D_steps_at hr (jjg (cv 0) (jjg (cv 1) jkk)))) (jjh (jkg (qxm (o:=.rt) (k:=2) (R:=[2,4,3]) ["number","step","sign","kept","name"] (qqt (cv 5) rfl T.b_enumerate) (λ_ _ _ _ _=>(vx8 (is:=[0,1]) (kkz K (t:=gNs [0,1]) (n:=2) (jkl (jkh (i:=0) (show(["number","step","sign","kept","name"]:List Str).Nodup by decide +kernel) rfl (by first | exact Or.inl rfl | exact Or.inr rfl)) (jkl (jkh (i:=1) (show(["number","step","sign","kept","name"]:List Str).Nodup by decide +kernel) rfl (by first | exact Or.inl rfl | exact Or.inr rfl)) jz8))))) (λ_ _ _ _ _=>(vqn (QW.pt (jzo (jjm (jqj hr.units) jqk (kx (vv 1) ki) (vv 2) (jjf _) jzi) (jw1 (jz6 (jjq (qC D_fits hr (jjg (cv 1) (jjg (cv 3) (jjg (cv 4) jkk))))))))))) (λ_ _ _ _ _=>(cv 0)) jjl ⟨_,_,rfl,rfl⟩ (by decide) (show ∀j∈([2,4,3]:List Nat) ,j<6 by decide)))))) h
theorem qvj(T:Txt K mg x_NotSingle x_TooGreat)(D_steps_at:jzk P w K mg base)(D_filled:qjw P w K mg base)(F:Fun K "behind" "behind" kqq f fd):FnOk P w K mg base (CXE P w) 3 f fd ["machine","standing","number","name"] (spF K mg 4 m_behind):=
 jjn F sc_behind (jjr rfl) λcdv A outer s H vs Q E hr h=>have nd:=sc_behind.nd;jkc rfl
  (jje (qA nd (jv1 (kx (jjq (qC D_steps_at hr (jjg (cv 0) (jjg (cv 1) jkk)))) (vv 2)))) (jjh (jkg (jvk (o:=.no) (jjg (jv1 (kx (vv 4) ki)) (jjg (qC D_filled hr (jjg (cv 4) (jjg (jv1 (kx (vv 1) ki)) (jjg (cv 3) jkk)))) jkk)))))) h
theorem kxt(T:Txt K mg x_NotSingle x_TooGreat)  (F:Fun K "is_small" "is_small" jz3 f fd):FnOk P w K mg base (CXE P w) 1 f fd ["plain"] (spF K mg 1 jq3):=
 jjn F kxg (jjr rfl) λcdv A outer s H vs Q E hr h=>jkc rfl
  (jjh (jkg (qza (jjq (jxb wje (jx0 (g:=λa b=>decide (a<=b))) (jjq (qL (kx (vv 0) ki) T.b_len)) (jjq (q_C (qva T.c_SMALL_ROOMS) (λ_=>jq1))) (jjf _))) (kzx (vju (vwr K) wq3 (jjq (qxm (o:=.rt) (k:=1) (R:=[]) ["room"] (jwu (jv1 (kx (vv 0) ki))) (λ_ _ _ _ _=>(kzy (jkh (i:=0) (show(["room"]:List Str).Nodup by decide +kernel) rfl (by first | exact Or.inl rfl | exact Or.inr rfl)))) (λ_ _ _ _ _=>kjm) (λ_ _ _ _ _=>(jxb wje (jx0 (g:=λa b=>decide (a<=b))) (kx (vv 0) ki) (jjq (q_C (qva T.c_SMALL_KEEPERS) (λ_=>jq1))) (jjf _))) jjl ⟨_,_,rfl,rfl⟩ (by decide) (show ∀j∈([]:List Nat) ,j<1 by decide))) T.b_all wky))))) h
theorem kv1(T:Txt K mg x_NotSingle x_TooGreat)  (F:Fun K "names_held" "names_held" jvu f fd):FnOk P w K mg base (CXE P w) 1 f fd ["kept"] (spF K mg 1 jjo):=
 jjn F sc_names_held (jjr rfl) λcdv A outer s H vs Q E hr h=>have nd:=sc_names_held.nd;jkc rfl
  (jje (qA nd (jw2 (o:=.rt) jkk)) (jje (qF (jwu (cv 0)) (gN nd) (jjh (kqv (QW.pt (jzo (jjm kqy kvr (vv 2) kn (jjf _) kvn) (jw1 (jjm (kqz hr.units) kvq (vv 2) (vv 1) (by rfl) qjs)))) (jjh (qP (cv 2))) jvl))) (jjh (jkg (vzj (pv 1)))))) h
theorem kjq(T:Txt K mg x_NotSingle x_TooGreat)  (F:Fun K "places_among" "places_among" jqs f fd):FnOk P w K mg base (CXE P w) 1 f fd ["names","kept"] (spF K mg 2 jk0):=
 jjn F kjg (jjr rfl) λcdv A outer s H vs Q E hr h=>jkc rfl
  (jjh (jkg (qT (jjq (qxm (o:=.rt) (k:=1) (R:=[0]) ["name","names"] (jwu (cv 1)) (λ_ _ _ _ _=>(kzy (jkh (i:=0) (show(["name","names"]:List Str).Nodup by decide +kernel) rfl (by first | exact Or.inl rfl | exact Or.inr rfl)))) (λ_ _ _ _ _=>kjm) (λ_ _ _ _ _=>(qqw (jjm qve qxi (vv 0) kn (jjf _) qxd) kN (vqs hr.units (vv 1) (vv 0)))) jjl ⟨_,_,rfl,rfl⟩ (by decide) (show ∀j∈([0]:List Nat) ,j<2 by decide))) T.b_tuple))) h
theorem kv0(T:Txt K mg x_NotSingle x_TooGreat)(D_names_held:jqo P w K mg base)(D_places_among:jwn P w K mg base)(F:Fun K "plain_case" "plain_case" jvt f fd):FnOk P w K mg base (CXE P w) 2 f fd ["standing","numbers"] (spM K mg 1 jju):=
 jjn F sc_plain_case (qqc rfl) λcdv A outer s H vs Q E hr h=>have nd:=sc_plain_case.nd;qwm rfl
  (jje (kqv (jjm qve qxi (vv 0) kn (jjf _) qxd) (jjh (jkg kN)) jvl) (jje (qA nd (qC D_names_held hr (jjg (jv1 (kx (vv 0) ki)) jkk))) (jje (qA nd (jvk (o:=.no) (jjg (jv1 (kx (vv 0) ki)) (jjg (qC D_places_among hr (jjg (cv 2) (jjg (jv1 (kx (vv 0) ki)) jkk))) jkk)))) (jjh (jkg (jvk (o:=.no) (jjg (vzi (i:=1) hr.units (pv 1) (vv 3) (jjq (vju (kx1 K) qxh (vv 1) T.b_len qxb))) (jjg (QE.weak (qT (vv 2) T.b_tuple)) wv8)))))))) h
theorem kko(T:Txt K mg x_NotSingle x_TooGreat)(D_fitting:kxa P w K mg base)(D_behind:qjx P w K mg base)(F:Fun K "only_behind" "only_behind" jv3 f fd):FnOk P w K mg base (CXE P w) 4 f fd ["machine","standing","sign","name"] (spF K mg 4 jka):=
 jjn F sc_only_behind (jjr rfl) λcdv A outer s H vs Q E hr h=>have nd:=sc_only_behind.nd;jkc rfl
  (jje (qA nd (qC D_fitting hr (jjg (cv 0) (jjg (cv 1) (jjg (cv 2) (jjg (cv 3) jkk)))))) (jje (kqv (jjm kjp (jx0 (g:=λa b=>decide (b<a))) (jjq (qL (vv 4) T.b_len)) ki (jjf _) kkd) (jjh (qqs T.e_NotSingle T.m_NotSingle jjl qv9)) jvl) (jjh (jkg (qqw (jz6 (vv 4)) (qC D_behind hr (jjg (cv 0) (jjg (cv 1) (jjg (jv1 (kx (vv 4) ki)) (jjg (cv 3) jkk))))) kN))))) h
theorem kkn(T:Txt K mg x_NotSingle x_TooGreat)(D_plain_case:jzr P w K mg base)(D_only_behind:jxr P w K mg base)(D_names_held:jqo P w K mg base)(F:Fun K "plain_cases" "plain_cases" jv2 f fd):FnOk P w K mg base (CXE P w) 5 f fd ["machine","pair","sign","numbers"] (spM K mg 3 jk9):=
 jjn F sc_plain_cases (qqc rfl) λcdv A outer s H vs Q E hr h=>have nd:=sc_plain_cases.nd;qwm rfl
  (jje (qA nd (vzk (jjq (oA (jjq (qL (jjq (qC D_names_held hr (jjg (jv1 (kx (vv 1) ki)) jkk))) T.b_len)) ki)) T.b_range T.b_list)) (jjh (jkg (qxm (o:=.rt) (k:=1) (R:=[0,1,2,3]) ["name","machine","pair","sign","numbers"] (jwu (QE.weak (cv 4))) (λ_ _ _ _ _=>(kzy (jkh (i:=0) (show(["name","machine","pair","sign","numbers"]:List Str).Nodup by decide +kernel) rfl (by first | exact Or.inl rfl | exact Or.inr rfl)))) (λ_ _ _ _ _=>kjm) (λ_ _ _ _ _=>(qqv (i:=4) D_plain_case (hr.mono (by decide)) jjl (wqc (qC D_only_behind hr (jjg (cv 1) (jjg (cv 2) (jjg (cv 3) (jjg (cv 0) jkk))))) (wwr (i:=4) (pv 4))))) jjl ⟨_,_,rfl,rfl⟩ (by decide) (show ∀j∈([0,1,2,3]:List Nat) ,j<5 by decide))))) h
theorem kxs(T:Txt K mg x_NotSingle x_TooGreat)(D_first_standing:jvi P w K mg base)(D_plain_cases:jxq P w K mg base)(D_names_held:jqo P w K mg base)(F:Fun K "plain_of" "plain_of" jz2 f fd):FnOk P w K mg base (CXE P w) 6 f fd ["machine"] (spF K mg 1 m_plain_of):=
 jjn F sc_plain_of (jjr rfl) λcdv A outer s H vs Q E hr h=>have nd:=sc_plain_of.nd;jkc rfl
  (jje (qA nd (vzm hr.units (qC D_first_standing hr (jjg (cv 0) jkk)) kI)) (jje (qA nd (jw2 (o:=.rt) jkk)) (jje (vqm (wjb ⟨_,_,rfl,rfl⟩) (jjm wjd (jx0 (g:=λa b=>decide (a<b))) (jjq (qL (vv 2) T.b_len)) (jjq (vju (kx1 K) qxh (vv 1) T.b_len qxb)) (jjf _) kkd) (jje (qA nd (jv1 (kx (jjq (qxl (kqg rfl) qju (vv 1) T.b_list jwb)) (jjq (qL (vv 2) T.b_len))))) (jje (kqu (i:=4) (o:=.rt) (k:=1) (R:=[0,3,1]) ["sign","machine","pair","numbers"] nd rfl (by first | exact Or.inl rfl | exact Or.inr rfl) (jwu (QE.weak (jv1 (kx (vv 0) ki)))) (λ_ _ _ _ _=>(kzy (jkh (i:=0) (show(["sign","machine","pair","numbers"]:List Str).Nodup by decide +kernel) rfl (by first | exact Or.inl rfl | exact Or.inr rfl)))) (λ_ _ _ _ _=>kjm) (λ_ _ _ _ _=>(qqv (i:=3) D_plain_cases (hr.mono (by decide)) jjl (wqc (cv 1) (wqc (cv 2) (wqc (cv 0) (wwr (i:=3) (pv 3))))))) jjl ⟨_,_,rfl,rfl⟩ (by decide) (show ∀j∈([0,3,1]:List Nat) ,j<5 by decide)) (jjh (qP (jvk (o:=.no) (jjg (qL (jjq (qC D_names_held hr (jjg (jv1 (kx (vv 3) ki)) jkk))) T.b_len) (jjg (jv1 (kx (kx (kx (vv 0) ki) (kx (vv 3) ki)) ki)) (jjg (cv 4) jkk))))))))) (jjh (jkg (jvk (o:=.no) (jjg (jvk (o:=.no) (jjg (qxl (jxo K) kkf (kx (vv 0) ki) T.b_list jwb) (jjg (cv 2) jkk))) (jjg (qxl (kqg rfl) qju (vv 1) T.b_list jwb) jkk)))))))) h
theorem kwe(T:Txt K mg x_NotSingle x_TooGreat)(D_plain_of:jzl P w K mg base)(F:Fun K "is_single" "is_single" jwp f fd):FnOk P w K mg base (CXE P w) 7 f fd ["machine"] (spF K mg 1 jqg):=
 jjn F kw3 (jjr rfl) λcdv A outer s H vs Q E hr h=>jkc rfl
  (jje (vzg (cs:=["NotSingle"]) ⟨_,_,rfl,rfl⟩ T.m_NotSingle rfl (kka T.e_NotSingle T.n_NotSingle T.h_NotSingle_NotSingle kqc) (qqu D_plain_of (hr.mono (by decide)) (jjg (cv 0) jkk)) (λx_x=>(jjh (jkg (q_C kxo (λ_=>jzn)))))) (jjh (jkg (q_C kxo (λ_=>jzn))))) h
theorem kv3(T:Txt K mg x_NotSingle x_TooGreat)  (F:Fun K "fills_told" "fills_told" jvw f fd):FnOk P w K mg base (CXE P w) 1 f fd ["fills","own"] (spF K mg 2 jkj):=
 jjn F kqo (jjr rfl) λcdv A outer s H vs Q E hr h=>jkc rfl
  (jjh (jkg (qT (jjq (qxm (o:=.rt) (k:=1) (R:=[1]) ["fill","own"] (jwu (cv 0)) (λ_ _ _ _ _=>(kzy (jkh (i:=0) (show(["fill","own"]:List Str).Nodup by decide +kernel) rfl (by first | exact Or.inl rfl | exact Or.inr rfl)))) (λ_ _ _ _ _=>kjm) (λ_ _ _ _ _=>(qqw (jjm (jqj hr.units) jqk (vv 0) (vv 1) (jjf _) jzi) kS (cv 0))) jjl ⟨_,_,rfl,rfl⟩ (by decide) (show ∀j∈([1]:List Nat) ,j<2 by decide))) T.b_tuple))) h
theorem kxq(T:Txt K mg x_NotSingle x_TooGreat)(D_fills_told:jzt P w K mg base)(F:Fun K "steps_of" "steps_of" jz0 f fd):FnOk P w K mg base (CXE P w) 2 f fd ["signs","room"] (spF K mg 2 jq2):=
 jjn F sc_steps_of (jjr rfl) λcdv A outer s H vs Q E hr h=>have nd:=sc_steps_of.nd;jkc rfl
  (jje (qA nd (jw2 (o:=.rt) jkk)) (jje (qF (vqr (cv 0) (jv1 (kx (vv 1) ki)) rfl T.b_zip) (vx8 (is:=[3,4]) (kkz K (t:=gNs [3,4]) (n:=2) (jkl (gn nd) (jkl (gn nd) jz8)))) (jjh (qF (qqt (cv 4) rfl T.b_enumerate) (vx8 (is:=[5,6]) (kkz K (t:=gNs [5,6]) (n:=2) (jkl (gn nd) (jkl (gn nd) jz8)))) (jjh (kqv (jjm kqy kvr (vv 6) kn (jjf _) kvn) (jje (qA nd (qqw (jjm (jqj hr.units) jqk (vv 5) (kx (vv 1) ki) (jjf _) jzi) kS (cv 5))) (jjh (qP (jvk (o:=.no) (jjg (cv 3) (jjg (cv 7) (jjg (jv1 (kx (vv 6) ki)) (jjg (qC D_fills_told hr (jjg (jv1 (kx (vv 6) ki)) (jjg (jv1 (kx (vv 1) ki)) jkk))) jkk)))))))) jvl))))) (jjh (jkg (vzj (pv 2)))))) h
theorem kv2(T:Txt K mg x_NotSingle x_TooGreat)(D_steps_of:kqh P w K mg base)(D_is_small:kqi P w K mg base)(F:Fun K "machine_of" "machine_of" jvv f fd):FnOk P w K mg base (CXE P w) 3 f fd ["plain"] (spF K mg 1 m_machine_of):=
 jjn F sc_machine_of (jjr rfl) λcdv A outer s H vs Q E hr h=>have nd:=sc_machine_of.nd;jkc rfl
  (jje (kqu (i:=1) (o:=.rt) (k:=1) (R:=[0]) ["room","plain"] nd rfl (by first | exact Or.inl rfl | exact Or.inr rfl) (jwu (jv1 (kx (vv 0) ki))) (λ_ _ _ _ _=>(kzy (jkh (i:=0) (show(["room","plain"]:List Str).Nodup by decide +kernel) rfl (by first | exact Or.inl rfl | exact Or.inr rfl)))) (λ_ _ _ _ _=>kjm) (λ_ _ _ _ _=>(jvk (o:=.no) (jjg (jv1 (kx (vv 0) ki)) (jjg (jv1 (kx (vv 0) ki)) (jjg (qC D_steps_of hr (jjg (jv1 (kx (vv 1) ki)) (jjg (cv 0) jkk))) jkk))))) jjl ⟨_,_,rfl,rfl⟩ (by decide) (show ∀j∈([0]:List Nat) ,j<2 by decide)) (jje (kqv (QW.pt (kxj (vzh (jz6 (jjq (qC D_is_small hr (jjg (cv 0) jkk))))) (kw9 (jjm kjp (jx0 (g:=λa b=>decide (b<a))) (jjq (vju (vwp K) wq0 (jjq (qxm (o:=.rt) (k:=1) (R:=[]) ["room"] (jwu (cv 1)) (λ_ _ _ _ _=>(kzy (jkh (i:=0) (show(["room"]:List Str).Nodup by decide +kernel) rfl (by first | exact Or.inl rfl | exact Or.inr rfl)))) (λ_ _ _ _ _=>kjm) (λ_ _ _ _ _=>(qL (kx (vv 0) ki) T.b_len)) jjl ⟨_,_,rfl,rfl⟩ (by decide) (show ∀j∈([]:List Nat) ,j<2 by decide))) T.b_sum wkx)) (jjq (q_C (qva T.c_MOST_STEPS) (λ_=>jq1))) (jjf _) kkd)))) (jjh (qqs T.e_TooGreat T.m_TooGreat jjl qv9)) jvl) (jjh (jkg (jvk (o:=.no) (jjg (qxl (jxo K) kkf (kx (vv 0) ki) T.b_list jwb) (jjg (cv 1) jkk))))))) h
theorem kwg(T:Txt K mg x_NotSingle x_TooGreat)  (F:Fun K "_law_draw" "_law_draw" jwr f fd):FnOk P w K mg base (CXE P w) 1 f fd ["_law_script","_law_k"] (spF K mg 2 m__law_draw):=
 jjn F sc__law_draw (jjr rfl) λcdv A outer s H vs Q E hr h=>have nd:=sc__law_draw.nd;jkc rfl
  (jje (qA nd (oX ki (jjq (vqq vk3 vkv ki ki)))) (jje (qA nd (oA (jjq (oX (jjq (oX (vv 1) (vv 1))) (vv 1))) ki)) (jje (kqv (jjm wjd (jx0 (g:=λa b=>decide (a<b))) (vv 1) (jjq (qL (vv 0) T.b_len)) (jjf _) kkd) (jjh (qA nd (jv1 (kx (vv 0) (vv 1))))) (jjh (kqv (jjm kjp (jx0 (g:=λa b=>decide (b<a))) (jjq (qL (vv 0) T.b_len)) ki (jjf _) kkd) (jjh (qA nd (oX (jjq (oA (jjq (oM (kx (vv 0) (jjq (oM (vv 1) (jjq (qL (vv 0) T.b_len))))) ki)) ki)) (vv 3)))) jvl))) (jjh (jkg (oM (jjq (oX (jjq (oM (vv 3) (vv 2))) (jjq (vqq vk3 vkv ki ki)))) (vv 2))))))) h
theorem kkq(T:Txt K mg x_NotSingle x_TooGreat)  (F:Fun K "_law_digits" "_law_digits" jv5 f fd):FnOk P w K mg base (CXE P w) 1 f fd ["_law_x","_law_sizes"] (spF K mg 2 m__law_digits):=
 jjn F sc__law_digits (jjr rfl) λcdv A outer s H vs Q E hr h=>have nd:=sc__law_digits.nd;jkc rfl
  (jje (qA nd (jw2 (o:=.rt) jkk)) (jje (qF (jwu (cv 1)) (gN nd) (jje (qP (oM (vv 0) (vv 3))) (jjh (qA nd (vqq qj1 vky (vv 0) (vv 3)))))) (jjh (jkg (vzj (pv 2)))))) h
theorem kv4(T:Txt K mg x_NotSingle x_TooGreat)(D__law_digits:jvd P w K mg base)(F:Fun K "_law_signs" "_law_signs" jvx f fd):FnOk P w K mg base (CXE P w) 2 f fd ["_law_x","_law_many_here"] (spF K mg 2 m__law_signs):=
 jjn F sc__law_signs (jjr rfl) λcdv A outer s H vs Q E hr h=>have nd:=sc__law_signs.nd;jkc rfl
  (jje (qA nd kS) (jje (vjt (qC D__law_digits hr (jjg (cv 0) (jjg (jw2 (o:=.rt) (jjg kI (jjg kI (jjg kI jkk)))) jkk))) (vx8 (is:=[3,4,5]) (kkz K (t:=gNs [3,4,5]) (n:=3) (jkl (gn nd) (jkl (gn nd) (jkl (gn nd) jz8)))))) (jje (qA nd (oM (vv 4) (jjq (oA (vv 3) ki)))) (jje (qA nd (jw2 (o:=.rt) jkk)) (jje (qF (kjn (vv 1) rfl T.b_range) (gN nd) (jje (qA nd kS) (jje (qF (kjn (jjq (oA (vv 3) ki)) rfl T.b_range) (gN nd) (jje (qA nd (oA (jjq (vqq qj1 vky (vv 0) (jjq (oA ki (jjq (oX (jjq (oX ki (vv 9))) (vv 9))))))) (jjq (oX (jjq (oX (vv 7) (jjq (oA (vv 5) ki)))) (jjq (qxl kx2 vkx (jjq (jxb (jqj hr.units) jqk (vv 9) (vv 4) (jjf _))) T.b_int vko)))))) (jjh (qA nd (oA (vv 8) (kx (vv 2) (jjq (oM (vv 10) ki)))))))) (jjh (qP (cv 8)))))) (jjh (jkg (vju (kz3 rfl) qxg (vv 6) T.b_sorted qx9)))))))) h
theorem kwi(T:Txt K mg x_NotSingle x_TooGreat)  (F:Fun K "_law_asks" "_law_asks" jwt f fd):FnOk P w K mg base (CXE P w) 1 f fd ["_law_y","_law_here","_law_apart"] (spF K mg 3 jks):=
 jjn F sc__law_asks (jjr rfl) λcdv A outer s H vs Q E hr h=>have nd:=sc__law_asks.nd;jkc rfl
  (jje (kqv (jjm (jqj hr.units) jqk (kx (vv 0) ki) ki (jjf _) jzi) (jjh (jkg (jw2 (o:=.rt) (jjg kS jkk)))) jvl) (jje (qA nd (jw2 (o:=.rt) jkk)) (jje (kqv (QW.pt (kxj (jjm kjp (jx0 (g:=λa b=>decide (b<a))) (kx (vv 0) ki) ki (jjf _) kkd) (kw9 (QW.pt (jzo (jjm (jqj hr.units) jqk (vv 1) ki (jjf _) jzi) (jw1 (jjm kjp (jx0 (g:=λa b=>decide (b<a))) (kx (vv 0) ki) ki (jjf _) kkd))))))) (jjh (qP kS)) jvl) (jje (kqv (QW.pt (jzo (jjm kjp (jx0 (g:=λa b=>decide (b<a))) (vv 1) ki (jjf _) kkd) (jw1 (jjm kjp (jx0 (g:=λa b=>decide (b<a))) (kx (vv 0) ki) ki (jjf _) kkd)))) (jje (qP (oM (kx (vv 0) ki) (vv 1))) (jjh (kqv (jz6 (vv 2)) (jjh (qA nd (oA (vv 3) (jjq (qxm (o:=.rt) (k:=1) (R:=[3,0]) ["_law_k","_law_some","_law_y"] (kjn (vv 1) rfl T.b_range) (λ_ _ _ _ _=>(kzy (jkh (i:=0) (show(["_law_k","_law_some","_law_y"]:List Str).Nodup by decide +kernel) rfl (by first | exact Or.inl rfl | exact Or.inr rfl)))) (λ_ _ _ _ _=>(vqn (QW.pt (jzo (jjm (kqz hr.units) kvq (vv 0) (vv 1) (by rfl) qjs) (jw1 (jjm (jqj hr.units) jqk (kx (vv 2) (jjq (oA ki (vv 0)))) ki (jjf _) jzi)))))) (λ_ _ _ _ _=>(cv 0)) jjl ⟨_,_,rfl,rfl⟩ (by decide) (show ∀j∈([3,0]:List Nat) ,j<4 by decide)))))) jvl))) jvl) (jje (kqv (jjm (jqj hr.units) jqk (kx (vv 0) ki) ki (jjf _) jzi) (jjh (wv3 (i:=3) (pv 3) rfl qke)) jvl) (jjh (jkg (vzj (pv 3))))))))) h
theorem kv5(T:Txt K mg x_NotSingle x_TooGreat)  (F:Fun K "_law_fills" "_law_fills" jvy f fd):FnOk P w K mg base (CXE P w) 1 f fd ["_law_z","_law_ask","_law_here","_law_there","_law_apart"] (spF K mg 5 jk8):=
 jjn F sc__law_fills (jjr rfl) λcdv A outer s H vs Q E hr h=>have nd:=sc__law_fills.nd;jkc rfl
  (jje (qA nd (oA (jjq (jw2 (o:=.rt) (jjg kS (jjg kN jkk)))) (jjq (vzk (vv 2) T.b_range T.b_list)))) (jje (qA nd (jw2 (o:=.rt) jkk)) (jje (qF (jwu (wwq (vv 0) wv4 (vqp (vv 3)))) (gN nd) (jje (qA nd (jv1 (kx (vv 5) (jjq (oM (vv 7) (jjq (qL (vv 5) T.b_len))))))) (jje (kqv (QW.pt (jzo (jz6 (vv 4)) (jw1 (jjm kqy kvr (vv 8) kn (jjf _) kvn)))) (jjh (kqv (QW.pt (kxj (jjm (vvl hr.units) vx3 (vv 8) (vv 6) (by rfl) vww) (kxj (QW.pt (jzo (jjm (jqj hr.units) jqk (vv 8) ks (jjf _) jzi) (jw1 (QW.pt (kxj (jjm (jqj hr.units) jqk (vv 1) ks (jjf _) jzi) (kw9 (jjm (vvl hr.units) vx3 (vv 1) (vv 6) (by rfl) vww))))))) (kw9 (QW.pt (jzo (jjm (jqj hr.units) jqk (vv 8) (vv 1) (jjf _) jzi) (jw1 (jjm (vvl hr.units) vx3 ks (vv 6) (by rfl) vww)))))))) (jjh (qA nd kN)) jvl)) jvl) (jjh (qP (cv 8)))))) (jjh (jkg (qT (vv 6) T.b_tuple)))))) h
theorem kkp(T:Txt K mg x_NotSingle x_TooGreat)(D__law_digits:jvd P w K mg base)(D__law_draw:jx1 P w K mg base)(D__law_asks:kkj P w K mg base)(D__law_fills:jzv P w K mg base)(F:Fun K "_law_single" "_law_single" jv4 f fd):FnOk P w K mg base (CXE P w) 2 f fd ["_law_script","_law_start","_law_signs_here"] (spF K mg 3 m__law_single):=
 jjn F sc__law_single (jjr rfl) λcdv A outer s H vs Q E hr h=>have nd:=sc__law_single.nd;jkc rfl
  (jje (qA nd (qC D__law_digits hr (jjg (qC D__law_draw hr (jjg (cv 0) (jjg (cv 1) jkk))) (jjg (oA (jjq (oA (jjq (jw2 (o:=.rt) (jjg kI (jjg kI (jjg kI jkk))))) (jjq (oX (jjq (jw2 (o:=.rt) (jjg kI jkk))) ki)))) (jjq (oX (jjq (jw2 (o:=.rt) (jjg kI jkk))) ki))) jkk)))) (jje (qA nd (oA ki (kx (vv 3) ki))) (jje (kqu (i:=5) (o:=.rt) (k:=1) (R:=[3]) ["_law_r","_law_head"] nd rfl (by first | exact Or.inl rfl | exact Or.inr rfl) (kjn (vv 4) rfl T.b_range) (λ_ _ _ _ _=>(kzy (jkh (i:=0) (show(["_law_r","_law_head"]:List Str).Nodup by decide +kernel) rfl (by first | exact Or.inl rfl | exact Or.inr rfl)))) (λ_ _ _ _ _=>kjm) (λ_ _ _ _ _=>(oM (kx (vv 1) (jjq (oA ki (vv 0)))) (jjq (oA ki (jjq (qxl kx2 vkx (jjq (jxb (jqj hr.units) jqk (kx (vv 1) ki) ki (jjf _))) T.b_int vko)))))) jjl ⟨_,_,rfl,rfl⟩ (by decide) (show ∀j∈([3]:List Nat) ,j<15 by decide)) (jje (qA nd (jw2 (o:=.rt) jkk)) (jje (qF (kjn (vv 4) rfl T.b_range) (gN nd) (jje (qA nd (jw2 (o:=.rt) jkk)) (jje (qF (kjn (jjq (qL (vv 2) T.b_len)) rfl T.b_range) (gN nd) (jje (qA nd (qC D__law_draw hr (jjg (cv 0) (jjg (oA (jjq (oA (jjq (oA (vv 1) ki)) (jjq (oX (vv 7) (jjq (qL (vv 2) T.b_len)))))) (vv 9)) jkk)))) (jje (qA nd (qC D__law_digits hr (jjg (cv 10) (jjg (oA (jjq (jw2 (o:=.rt) (jjg kI (jjg kI (jjg kI (jjg kI (jjg kI (jjg kI jkk)))))))) (jjq (oX (jjq (jw2 (o:=.rt) (jjg kI (jjg kI (jjg kI (jjg kI jkk)))))) ki))) jkk)))) (jjh (qF (qqt (qC D__law_asks hr (jjg (cv 10) (jjg (jv1 (kx (vv 5) (vv 7))) (jjg (jxb (jqj hr.units) jqk (kx (vv 3) ki) ki (jjf _)) jkk)))) rfl T.b_enumerate) (vx8 (is:=[11,12]) (kkz K (t:=gNs [11,12]) (n:=2) (jkl (gn nd) (jkl (gn nd) jz8)))) (jje (qA nd (oM (kx (vv 10) (jjq (oA ki (jjq (oX ki (vv 11)))))) (vv 4))) (jje (qA nd (qC D__law_fills hr (jjg (wwq (vv 10) (vqp (jjq (oA ki (jjq (oX ki (vv 11)))))) (vqp (jjq (oA ki (jjq (oX ki (vv 11))))))) (jjg (cv 12) (jjg (jv1 (kx (vv 5) (vv 7))) (jjg (jv1 (kx (vv 5) (vv 13))) (jjg (jxb (jqj hr.units) jqk (kx (vv 3) ki) ki (jjf _)) jkk))))))) (jjh (qP (jvk (o:=.no) (jjg (jv1 (kx (vv 2) (vv 9))) (jjg (cv 12) (jjg (cv 13) (jjg (cv 14) jkk)))))))))))))) (jjh (qP (jvk (o:=.no) (jjg (jv1 (kx (vv 5) (vv 7))) (jjg (jxb (jqj hr.units) jqk (kx (vv 3) (jjq (oA ki (vv 7)))) ki (jjf _)) (jjg (cv 8) jkk))))))))) (jjh (jkg (jvk (o:=.no) (jjg (jvk (o:=.no) (jjg (qxl (jxo K) kkf (vv 2) T.b_list jwb) (jjg (cv 6) jkk))) (jjg (oA (jjq (oA (vv 1) ki)) (jjq (oX (vv 4) (jjq (qL (vv 2) T.b_len))))) jkk)))))))))) h
theorem kwh(T:Txt K mg x_NotSingle x_TooGreat)  (F:Fun K "_law_copy" "_law_copy" jws f fd):FnOk P w K mg base (CXE P w) 1 f fd ["_law_machine"] (spF K mg 1 m__law_copy):=
 jjn F kw4 (jjr rfl) λcdv A outer s H vs Q E hr h=>jkc rfl
  (jjh (jkg (jvk (o:=.no) (jjg (qxl (jxo K) kkf (kx (vv 0) ki) T.b_list jwb) (jjg (qxm (o:=.rt) (k:=1) (R:=[]) ["_law_room"] (jwu (jv1 (kx (vv 0) ki))) (λ_ _ _ _ _=>(kzy (jkh (i:=0) (show(["_law_room"]:List Str).Nodup by decide +kernel) rfl (by first | exact Or.inl rfl | exact Or.inr rfl)))) (λ_ _ _ _ _=>kjm) (λ_ _ _ _ _=>(jvk (o:=.no) (jjg (jv1 (kx (vv 0) ki)) (jjg (jv1 (kx (vv 0) ki)) (jjg (qxl (jxo K) kkf (kx (vv 0) ki) T.b_list jwb) jkk))))) jjl ⟨_,_,rfl,rfl⟩ (by decide) (show ∀j∈([]:List Nat) ,j<1 by decide)) jkk))))) h
theorem kwf(T:Txt K mg x_NotSingle x_TooGreat)  (F:Fun K "_law_many" "_law_many" jwq f fd):FnOk P w K mg base (CXE P w) 1 f fd ["_law_plain"] (spF K mg 1 m__law_many):=
 jjn F sc__law_many (jjr rfl) λcdv A outer s H vs Q E hr h=>have nd:=sc__law_many.nd;jkc rfl
  (jje (qA nd kI) (jje (qF (jwu (jv1 (kx (vv 0) ki))) (gN nd) (jjh (qF (jwu (jv1 (kx (vv 2) ki))) (gN nd) (jjh (qA nd (oA (vv 1) (jjq (qL (jjq (qxm (o:=.rt) (k:=1) (R:=[]) ["_law_case"] (jwu (cv 3)) (λ_ _ _ _ _=>(kzy (jkh (i:=0) (show(["_law_case"]:List Str).Nodup by decide +kernel) rfl (by first | exact Or.inl rfl | exact Or.inr rfl)))) (λ_ _ _ _ _=>(vqn (jjm kqy kvr (vv 0) kn (jjf _) kvn))) (λ_ _ _ _ _=>(cv 0)) jjl ⟨_,_,rfl,rfl⟩ (by decide) (show ∀j∈([]:List Nat) ,j<4 by decide))) T.b_len)))))))) (jjh (jkg (vzj (pv 1)))))) h
theorem wjk(T:Txt K mg x_NotSingle x_TooGreat)(D__law_signs:jzu P w K mg base)(D_plain_of:jzl P w K mg base)(D__law_draw:jx1 P w K mg base)(D__law_single:jxs P w K mg base)(D_machine_of:jzs P w K mg base)(D_is_single:kkg P w K mg base)(D__law_copy:kki P w K mg base)(D__law_many:kkh P w K mg base)(F:Fun K "law" "law" vqh f fd):FnOk P w K mg base (CXE P w) 8 f fd ["_law_script"] (spF K mg 1 m_law):=
 jjn F sc_law (jjr rfl) λcdv A outer s H vs Q E hr h=>have nd:=sc_law.nd;jkc rfl
  (jje (qA nd (qC D__law_signs hr (jjg (qC D__law_draw hr (jjg (cv 0) (jjg kI jkk))) (jjg (oA ki (jjq (oM (jjq (qC D__law_draw hr (jjg (cv 0) (jjg kI jkk)))) ki))) jkk)))) (jje (qA nd (jv1 (kx (jjq (qC D__law_single hr (jjg (cv 0) (jjg kI (jjg (cv 1) jkk))))) ki))) (jje (qA nd (jv1 (kx (jjq (qC D_plain_of hr (jjg (qC D__law_copy hr (jjg (cv 2) jkk)) jkk))) ki))) (jje (qA nd kN) (jje (qA nd (q_C kxo (λ_=>jzn))) (jje (vqo (j:=4) (cs:=["TooGreat"]) nd ⟨_,_,rfl,rfl⟩ T.m_TooGreat rfl (kka T.e_TooGreat T.n_TooGreat T.h_TooGreat_TooGreat kqc) rfl (by first | exact Or.inl rfl | exact Or.inr rfl) (qqu D_machine_of (hr.mono (by decide)) (jjg (cv 3) jkk)) (λx_x=>(jjh (qA nd (q_C kxo (λ_=>jzn)))))) (jje (kqv (QW.pt (kxj (jz6 (vv 5)) (kxj (jjm kjp (jx0 (g:=λa b=>decide (b<a))) (jjq (qL (kx (vv 3) ki) T.b_len)) ki (jjf _) kkd) (kw9 (jjm kjp (jx0 (g:=λa b=>decide (b<a))) (jjq (qC D__law_many hr (jjg (cv 3) jkk))) ki (jjf _) kkd))))) (jjh (jkg (qza (vv 5) (kzx (q_or (jjq (jxb kjp (jx0 (g:=λa b=>decide (b<a))) (jjq (qL (kx (vv 3) ki) T.b_len)) ki (jjf _))) (kzx (jxb kjp (jx0 (g:=λa b=>decide (b<a))) (jjq (qC D__law_many hr (jjg (cv 3) jkk))) ki (jjf _)))))))) jvl) (jje (kqv (jjm wjf vx1 (jjq (qC D_is_single hr (jjg (cv 4) jkk))) (jjq (q_C kxo (λ_=>jzn))) (jjf _) vwv) (jjh (jkg (q_C kxo (λ_=>jzn)))) jvl) (jje (vjt (qC D_plain_of hr (jjg (cv 4) jkk)) (vx8 (is:=[6,7]) (kkz K (t:=gNs [6,7]) (n:=2) (jkl (gn nd) (jkl (gn nd) jz8))))) (jje (kqu (i:=8) (o:=.rt) (k:=1) (R:=[3]) ["_law_r","_law_plain"] nd rfl (by first | exact Or.inl rfl | exact Or.inr rfl) (kjn (jjq (qL (kx (vv 3) ki) T.b_len)) rfl T.b_range) (λ_ _ _ _ _=>(kzy (jkh (i:=0) (show(["_law_r","_law_plain"]:List Str).Nodup by decide +kernel) rfl (by first | exact Or.inl rfl | exact Or.inr rfl)))) (λ_ _ _ _ _=>kjm) (λ_ _ _ _ _=>(jvk (o:=.no) (jjg (cv 0) (jjg (wv2 (kx (kx (kx (vv 1) ki) (vv 0)) ki) T.b_range T.b_tuple) jkk)))) jjl ⟨_,_,rfl,rfl⟩ (by decide) (show ∀j∈([3]:List Nat) ,j<9 by decide)) (jjh (jkg (qza (jjq (jxb (jqj hr.units) jqk (vv 6) (vv 3) (jjf _))) (qza (jjq (jxb (jqj hr.units) jqk (jjq (vju (qjp K hr.gd hr.units) vku (vv 6) T.b_repr qxa)) (jjq (vju (qjp K hr.gd hr.units) vku (vv 3) T.b_repr qxa)) (jjf _))) (kzx (jxb (jqj hr.units) jqk (vv 7) (vv 8) (jjf _))))))))))))))))) h
end
theorem all_mk{l:PySem.W.OpenLaw}{w:PySem.World}{K:PySem.W.Frag}{h:Heap}{mg:Str->Option Value}{fa:Addr}(X:K.In h)(G:h.Ns mainGlobals mg)(hfa:mg "law"=some (.ref fa)){u_MOST_STEPS u_SMALL_ROOMS u_SMALL_KEEPERS:Value}{x_NotSingle x_TooGreat:Addr}
  (g0:Gf K "fits" qqi)
  (g1:Gf K "held_by" kjh)
  (g2:Gf K "filled" kqp)
  (g3:Gf K "first_standing" jq6)
  (g4:Gf K "steps_at" jz1)
  (g5:Gf K "fitting" kji)
  (g6:Gf K "behind" kqq)
  (g7:Gf K "is_small" jz3)
  (g8:Gf K "names_held" jvu)
  (g9:Gf K "places_among" jqs)
  (g10:Gf K "plain_case" jvt)
  (g11:Gf K "only_behind" jv3)
  (g12:Gf K "plain_cases" jv2)
  (g13:Gf K "plain_of" jz2)
  (g14:Gf K "is_single" jwp)
  (g15:Gf K "fills_told" jvw)
  (g16:Gf K "steps_of" jz0)
  (g17:Gf K "machine_of" jvv)
  (g18:Gf K "_law_draw" jwr)
  (g19:Gf K "_law_digits" jv5)
  (g20:Gf K "_law_signs" jvx)
  (g21:Gf K "_law_asks" jwt)
  (g22:Gf K "_law_fills" jvy)
  (g23:Gf K "_law_single" jv4)
  (g24:Gf K "_law_copy" jws)
  (g25:Gf K "_law_many" jwq)
  (g26:Gf K "law" vqh)
  (q_MOST_STEPS:PySem.W.nsIn K mainGlobals "MOST_STEPS"=some (some u_MOST_STEPS)) (r_MOST_STEPS:RelV (V.int (120)) u_MOST_STEPS)
  (q_SMALL_ROOMS:PySem.W.nsIn K mainGlobals "SMALL_ROOMS"=some (some u_SMALL_ROOMS)) (r_SMALL_ROOMS:RelV (V.int (12)) u_SMALL_ROOMS)
  (q_SMALL_KEEPERS:PySem.W.nsIn K mainGlobals "SMALL_KEEPERS"=some (some u_SMALL_KEEPERS)) (r_SMALL_KEEPERS:RelV (V.int (3)) u_SMALL_KEEPERS)
  (z_all:PySem.W.nsIn K mainGlobals "all"=some none)
  (z_enumerate:PySem.W.nsIn K mainGlobals "enumerate"=some none)
  (z_int:PySem.W.nsIn K mainGlobals "int"=some none)
  (z_len:PySem.W.nsIn K mainGlobals "len"=some none)
  (z_list:PySem.W.nsIn K mainGlobals "list"=some none)
  (z_range:PySem.W.nsIn K mainGlobals "range"=some none)
  (z_repr:PySem.W.nsIn K mainGlobals "repr"=some none)
  (z_sorted:PySem.W.nsIn K mainGlobals "sorted"=some none)
  (z_sum:PySem.W.nsIn K mainGlobals "sum"=some none)
  (z_tuple:PySem.W.nsIn K mainGlobals "tuple"=some none)
  (z_zip:PySem.W.nsIn K mainGlobals "zip"=some none)
  (n_NotSingle:PySem.W.nsIn K mainGlobals "NotSingle"=some (some (.ref x_NotSingle)))
  (ec_NotSingle:PySem.W.excIn K x_NotSingle bmV "ValueError.__new__"=true) (ga_NotSingle:PySem.W.findIn K (.ref x_NotSingle) "__getattribute__"=some (some (.builtin "BaseException.__getattribute__"))) (gt_NotSingle:PySem.W.findIn K (.ref x_NotSingle) "__getattr__"=some none) (fa_NotSingle:PySem.W.findIn K (.ref x_NotSingle) "__class__"=some (some (.builtin "object.__class__"))) (fg_NotSingle:PySem.W.specialIn K (.builtin "object.__class__") "__get__"=some (some (.builtin "getset_descriptor.__get__"))) (ft_NotSingle:PySem.W.takesIn K (.builtin "object.__class__")=some true) (ob_NotSingle:PySem.W.mroIn K x_NotSingle (.type "object")=some true) (bx_NotSingle:PySem.W.mroIn K x_NotSingle (.type "BaseException")=some true) (cl_NotSingle:PySem.W.isClsIn K x_NotSingle=true)
  (n_TooGreat:PySem.W.nsIn K mainGlobals "TooGreat"=some (some (.ref x_TooGreat)))
  (ec_TooGreat:PySem.W.excIn K x_TooGreat bmV "ValueError.__new__"=true) (ga_TooGreat:PySem.W.findIn K (.ref x_TooGreat) "__getattribute__"=some (some (.builtin "BaseException.__getattribute__"))) (gt_TooGreat:PySem.W.findIn K (.ref x_TooGreat) "__getattr__"=some none) (fa_TooGreat:PySem.W.findIn K (.ref x_TooGreat) "__class__"=some (some (.builtin "object.__class__"))) (fg_TooGreat:PySem.W.specialIn K (.builtin "object.__class__") "__get__"=some (some (.builtin "getset_descriptor.__get__"))) (ft_TooGreat:PySem.W.takesIn K (.builtin "object.__class__")=some true) (ob_TooGreat:PySem.W.mroIn K x_TooGreat (.type "object")=some true) (bx_TooGreat:PySem.W.mroIn K x_TooGreat (.type "BaseException")=some true) (cl_TooGreat:PySem.W.isClsIn K x_TooGreat=true)
  (h_NotSingle_NotSingle:PySem.W.exmOne K (.ref x_NotSingle) (.ref x_NotSingle)=some true)
  (h_TooGreat_TooGreat:PySem.W.exmOne K (.ref x_TooGreat) (.ref x_TooGreat)=some true)
  : ∃fd:FuncData,(∀(s:Shared) (v:Value),BindsTo s fd ⟨[v],[]⟩ [("_law_script",v)])/\∀base:Heap,K.In base->base.Ns mainGlobals mg->FnOk l.prog w K mg base (CXE l.prog w) 8 fa fd ["_law_script"] (spF K mg 1 m_law):=by
 have T:Txt K mg x_NotSingle x_TooGreat:=⟨Y3 X G z_all,Y3 X G z_enumerate,Y3 X G z_int,Y3 X G z_len,Y3 X G z_list,Y3 X G z_range,Y3 X G z_repr,Y3 X G z_sorted,Y3 X G z_sum,Y3 X G z_tuple,Y3 X G z_zip,⟨_,Yr X G q_MOST_STEPS,r_MOST_STEPS⟩,⟨_,Yr X G q_SMALL_ROOMS,r_SMALL_ROOMS⟩,⟨_,Yr X G q_SMALL_KEEPERS,r_SMALL_KEEPERS⟩,n_NotSingle,Yr X G n_NotSingle,⟨Yr X G n_NotSingle,ec_NotSingle,qkz ga_NotSingle gt_NotSingle fa_NotSingle fg_NotSingle ft_NotSingle ob_NotSingle bx_NotSingle cl_NotSingle⟩,n_TooGreat,Yr X G n_TooGreat,⟨Yr X G n_TooGreat,ec_TooGreat,qkz ga_TooGreat gt_TooGreat fa_TooGreat fg_TooGreat ft_TooGreat ob_TooGreat bx_TooGreat cl_TooGreat⟩,h_NotSingle_NotSingle,h_TooGreat_TooGreat⟩;refine g26.law X G hfa fun {base _ _} F=>?_
 have D_fits:vkz l.prog w K mg base:=g0.d X G (vvo T );have D_held_by:kx9 l.prog w K mg base:=g1.d X G (qkb T );have D_filled:qjw l.prog w K mg base:=g2.d X G (qvi T D_held_by);have D_first_standing:jvi l.prog w K mg base:=g3.d X G (jza T );have D_steps_at:jzk l.prog w K mg base:=g4.d X G (kxr T );have D_fitting:kxa l.prog w K mg base:=g5.d X G (qkc T D_steps_at D_fits);have D_behind:qjx l.prog w K mg base:=g6.d X G (qvj T D_steps_at D_filled);have D_is_small:kqi l.prog w K mg base:=g7.d X G (kxt T );have D_names_held:jqo l.prog w K mg base:=g8.d X G (kv1 T );have D_places_among:jwn l.prog w K mg base:=g9.d X G (kjq T );have D_plain_case:jzr l.prog w K mg base:=g10.d X G (kv0 T D_names_held D_places_among);have D_only_behind:jxr l.prog w K mg base:=g11.d X G (kko T D_fitting D_behind);have D_plain_cases:jxq l.prog w K mg base:=g12.d X G (kkn T D_plain_case D_only_behind D_names_held);have D_plain_of:jzl l.prog w K mg base:=g13.d X G (kxs T D_first_standing D_plain_cases D_names_held);have D_is_single:kkg l.prog w K mg base:=g14.d X G (kwe T D_plain_of);have D_fills_told:jzt l.prog w K mg base:=g15.d X G (kv3 T );have D_steps_of:kqh l.prog w K mg base:=g16.d X G (kxq T D_fills_told);have D_machine_of:jzs l.prog w K mg base:=g17.d X G (kv2 T D_steps_of D_is_small);have D__law_draw:jx1 l.prog w K mg base:=g18.d X G (kwg T );have D__law_digits:jvd l.prog w K mg base:=g19.d X G (kkq T );have D__law_signs:jzu l.prog w K mg base:=g20.d X G (kv4 T D__law_digits);have D__law_asks:kkj l.prog w K mg base:=g21.d X G (kwi T );have D__law_fills:jzv l.prog w K mg base:=g22.d X G (kv5 T );have D__law_single:jxs l.prog w K mg base:=g23.d X G (kkp T D__law_digits D__law_draw D__law_asks D__law_fills);have D__law_copy:kki l.prog w K mg base:=g24.d X G (kwh T );have D__law_many:kkh l.prog w K mg base:=g25.d X G (kwf T );exact wjk T D__law_signs D_plain_of D__law_draw D__law_single D_machine_of D_is_single D__law_copy D__law_many F
end Nk37
namespace PySem.W.Fast
theorem tw12345732661482482638:True:=⟨⟩
theorem tw17664572074434402765:True:=⟨⟩
theorem tw9426284793787066160:True:=⟨⟩
theorem tw11626409643355162176:True:=⟨⟩
theorem tw8654830061305242723:True:=⟨⟩
theorem tw4980235632028178276:True:=⟨⟩
theorem tw11945867348331044317:True:=⟨⟩
theorem tw6485024108072809977:True:=⟨⟩
theorem tw18260832329573913388:True:=⟨⟩
theorem tw2670512895868673149:True:=⟨⟩
theorem tw11815145416731266099:True:=⟨⟩
theorem tw10979654352965210280:True:=⟨⟩
theorem tw2420620744229804455:True:=⟨⟩
theorem tw15252796895572084165:True:=⟨⟩
theorem tw7879780347431891767:True:=⟨⟩
theorem tw5947181410399299764:True:=⟨⟩
theorem tw17706736692665430871:True:=⟨⟩
theorem tw15941100259532750612:True:=⟨⟩
theorem tw38595309690551502:True:=⟨⟩
theorem tw4557265275548168815:True:=⟨⟩
theorem tw3809330277334922188:True:=⟨⟩
theorem tw12629487877465661168:True:=⟨⟩
theorem tw8626790592351030404:True:=⟨⟩
theorem tw16337091958865964050:True:=⟨⟩
theorem tw1258353510540738950:True:=⟨⟩
theorem tw8865316407248911621:True:=⟨⟩
theorem tw961603253330833790:True:=⟨⟩
theorem tw14957572884030250530:True:=⟨⟩
theorem tw9078880127946710970:True:=⟨⟩
theorem tw5803102365499141667:True:=⟨⟩
theorem tw12703919988366852662:True:=⟨⟩
theorem tw16935417324523823438:True:=⟨⟩
theorem tw18095525668731585722:True:=⟨⟩
theorem tw373912598268505547:True:=⟨⟩
theorem tw13856504071248677029:True:=⟨⟩
theorem tw18067392581267761215:True:=⟨⟩
theorem tw18245485573268236838:True:=⟨⟩
theorem tw13172337844449126949:True:=⟨⟩
theorem tw1124940755755533008:True:=⟨⟩
theorem tw13214921090905856635:True:=⟨⟩
theorem tw12672524840282273646:True:=⟨⟩
theorem tw16003384917879976504:True:=⟨⟩
theorem tw13506302448040562496:True:=⟨⟩
theorem tw3106068270630302904:True:=⟨⟩
theorem tw18411986777297547917:True:=⟨⟩
theorem tw14985830920890292698:True:=⟨⟩
theorem tw15493354254755544658:True:=⟨⟩
theorem tw614292602755670927:True:=⟨⟩
theorem tw12200198513783455918:True:=⟨⟩
theorem tw1715414714809094456:True:=⟨⟩
theorem tw16731352138903915960:True:=⟨⟩
theorem tw4352241546126645098:True:=⟨⟩
theorem tw1412540671680640965:True:=⟨⟩
theorem tw13918389899300514086:True:=⟨⟩
theorem tw4743741268484962704:True:=⟨⟩
theorem tw1929440315440037418:True:=⟨⟩
theorem tw7957596354134609125:True:=⟨⟩
theorem tw9436132765267377575:True:=⟨⟩
theorem tw246155440778449770:True:=⟨⟩
theorem tw17603950207845235755:True:=⟨⟩
theorem tw1627382604791252766:True:=⟨⟩
theorem tw16681679250032714698:True:=⟨⟩
theorem tw1812602069735418654:True:=⟨⟩
theorem tw9000891637327523200:True:=⟨⟩
theorem tw4680127752790430912:True:=⟨⟩
theorem tw15066317540295842582:True:=⟨⟩
theorem tw14596561412132557413:True:=⟨⟩
theorem tw468029174114413526:True:=⟨⟩
theorem tw12622378150801049777:True:=⟨⟩
theorem tw10984883772521019888:True:=⟨⟩
theorem tw14321332623335141032:True:=⟨⟩
theorem tw16060085046179088420:True:=⟨⟩
theorem tw5326827082189662683:True:=⟨⟩
theorem tw17746075360659996965:True:=⟨⟩
theorem tw18237622958188590129:True:=⟨⟩
theorem tw2823228933551363537:True:=⟨⟩
theorem tw17904372415255641207:True:=⟨⟩
theorem tw8295138099953879049:True:=⟨⟩
theorem tw14858694178012873596:True:=⟨⟩
theorem tw5027468956199868732:True:=⟨⟩
theorem tw2661553376845084911:True:=⟨⟩
theorem tw2927603714729858010:True:=⟨⟩
theorem tw5701329343286857492:True:=⟨⟩
theorem tw13594624361881495400:True:=⟨⟩
end PySem.W.Fast
open PySem PySem.W PyProof.Rows
set_option maxRecDepth 100000 in
set_option maxHeartbeats 0 in
theorem PySem.Challenge.cw_freshrooms_k37_there_and_back_holds : PySem.Challenge.rw_freshrooms_k37_there_and_back.Holds := by
 w_on;o_law;k_head;(case hw=>w_witness2)
 k_fill
 refine Q.walkQ (l:=PySem.Challenge.rw_freshrooms_k37_there_and_back) (n:=63) (k:=8) (x:="_law_script") (f:=Nk37.m_law) rfl (by decide) rfl ⟨rfl,by decide,by decide,rfl⟩ (fun w h Y=>PySem.W.kIn_of Y) ?F Nk37.law_true
 case F =>
  intro w mg fa h KX G hmg
  refine' Nk37.all_mk KX G hmg ?_ ?_ ?_ ?_ ?_ ?_ ?_ ?_ ?_ ?_ ?_ ?_ ?_ ?_ ?_ ?_ ?_ ?_ ?_ ?_ ?_ ?_ ?_ ?_ ?_ ?_ ?_ ?q_MOST_STEPS ?r_MOST_STEPS ?q_SMALL_ROOMS ?r_SMALL_ROOMS ?q_SMALL_KEEPERS ?r_SMALL_KEEPERS ?z_all ?z_enumerate ?z_int ?z_len ?z_list ?z_range ?z_repr ?z_sorted ?z_sum ?z_tuple ?z_zip ?n_NotSingle ?ec_NotSingle ?ga_NotSingle ?gt_NotSingle ?fa_NotSingle ?fg_NotSingle ?ft_NotSingle ?ob_NotSingle ?bx_NotSingle ?cl_NotSingle ?n_TooGreat ?ec_TooGreat ?ga_TooGreat ?gt_TooGreat ?fa_TooGreat ?fg_TooGreat ?ft_TooGreat ?ob_TooGreat ?bx_TooGreat ?cl_TooGreat ?h_NotSingle_NotSingle ?h_TooGreat_TooGreat
  all_goals try (refine' Q.Gf.mk ?a ?b ?c ?d;(case a=>k_is);(case b=>k_is);(case c=>k_is);(case d=>k_is))
  (case q_MOST_STEPS=>k_is)
  (case r_MOST_STEPS=>exact ⟨_,rfl⟩)
  (case q_SMALL_ROOMS=>k_is)
  (case r_SMALL_ROOMS=>exact ⟨_,rfl⟩)
  (case q_SMALL_KEEPERS=>k_is)
  (case r_SMALL_KEEPERS=>exact ⟨_,rfl⟩)
  (case z_all=>k_is)
  (case z_enumerate=>k_is)
  (case z_int=>k_is)
  (case z_len=>k_is)
  (case z_list=>k_is)
  (case z_range=>k_is)
  (case z_repr=>k_is)
  (case z_sorted=>k_is)
  (case z_sum=>k_is)
  (case z_tuple=>k_is)
  (case z_zip=>k_is)
  (case n_NotSingle=>k_is)
  (case ec_NotSingle=>k_exc)
  (case ga_NotSingle=>k_is)
  (case gt_NotSingle=>k_is)
  (case fa_NotSingle=>k_is)
  (case fg_NotSingle=>k_is)
  (case ft_NotSingle=>k_is)
  (case ob_NotSingle=>k_is)
  (case bx_NotSingle=>k_is)
  (case cl_NotSingle=>k_is)
  (case n_TooGreat=>k_is)
  (case ec_TooGreat=>k_exc)
  (case ga_TooGreat=>k_is)
  (case gt_TooGreat=>k_is)
  (case fa_TooGreat=>k_is)
  (case fg_TooGreat=>k_is)
  (case ft_TooGreat=>k_is)
  (case ob_TooGreat=>k_is)
  (case bx_TooGreat=>k_is)
  (case cl_TooGreat=>k_is)
  (case h_NotSingle_NotSingle=>kts_exm)
  (case h_TooGreat_TooGreat=>kts_exm)
