import PyProof.Rows.All
import Wide.All
import OpenK.AllK
import Wide.FinOn
import Lean
import PySem.Challenge.RW_freshrooms_k33_the_plain_form
set_option Elab.async false
set_option linter.all false
set_option bootstrap.genMatcherCode false
set_option compiler.extract_closed false
set_option maxRecDepth 100000
theorem oq9{α : Type _}{a b : α}(h:some a=some b):a=b:=Option.some.inj h
theorem lr9{α : Type _}{a : α}{b : List α}(c : List α)(h:a ∈ b):a ∈ c ++ b:=List.mem_append_right c h
theorem ll9{α : Type _}{a : α}{b : List α}(c : List α)(h:a ∈ b):a ∈ b ++ c:=List.mem_append_left c h
theorem lc9{α : Type _}{a : α}{l : List α}(b : α)(h:a ∈ l):a ∈ b::l:=List.mem_cons_of_mem b h
section
open PySem PySem.Spec PyProof.Rows
theorem X0:type_of% @wpAny_bind:=@wpAny_bind
theorem X1:type_of% @List.getElem?_eq_getElem:=@List.getElem?_eq_getElem
theorem X2:type_of% @List.mem_cons_self:=@List.mem_cons_self
theorem X3:type_of% @List.length_map:=@List.length_map
theorem X4:type_of% @wpAny_pure:=@wpAny_pure
theorem X5:type_of% @List.getD_eq_getElem?_getD:=@List.getD_eq_getElem?_getD
theorem X6:type_of% @List.nodup_append:=@List.nodup_append
theorem X7:type_of% @List.size_toArray:=@List.size_toArray
theorem X8:type_of% @Nat.le_refl:=@Nat.le_refl
theorem X9:type_of% @Heap.get?_push_of_some:=@Heap.get?_push_of_some
theorem Xa:type_of% @decide_eq_false:=@decide_eq_false
theorem Xb:type_of% @if_pos:=@if_pos
theorem Xd:type_of% @decide_eq_true:=@decide_eq_true
theorem Xe:type_of% @if_neg:=@if_neg
theorem Xf:type_of% @Heap.lt_size:=@Heap.lt_size
theorem Xg:type_of% @Nat.lt_of_lt_of_le:=@Nat.lt_of_lt_of_le
theorem Xh:type_of% @List.mem_of_getElem?:=@List.mem_of_getElem?
theorem Xi:type_of% @List.getElem_mem:=@List.getElem_mem
theorem Xj:type_of% @Heap.get?_push_size:=@Heap.get?_push_size
theorem Xk:type_of% @List.mem_map_of_mem:=@List.mem_map_of_mem
theorem Xl:type_of% @List.length_cons:=@List.length_cons
theorem Xm:type_of% @List.not_mem_nil:=@List.not_mem_nil
theorem Xn:type_of% @List.length_append:=@List.length_append
theorem Xp:type_of% @List.append_nil:=@List.append_nil
theorem Xq:type_of% @List.append_assoc:=@List.append_assoc
theorem Xr:type_of% @List.nodup_nil:=@List.nodup_nil
theorem Xs:type_of% @List.getElem?_set_ne:=@List.getElem?_set_ne
theorem Xu:type_of% @Int.emod_lt_of_pos:=@Int.emod_lt_of_pos
theorem Xv:type_of% @Nat.zero_le:=@Nat.zero_le
theorem Xw:type_of% @List.mem_cons:=@List.mem_cons
theorem Xx:type_of% @List.map_append:=@List.map_append
theorem Xy:type_of% @Nat.ne_of_lt:=@Nat.ne_of_lt
theorem Xz:type_of% @List.length_set:=@List.length_set
theorem Y0:type_of% @Nat.le_trans:=@Nat.le_trans
theorem Y1:type_of% @List.getElem?_set_self:=@List.getElem?_set_self
theorem Y2:type_of% @List.getElem?_map:=@List.getElem?_map
theorem Y3:type_of% @PySem.W.kia_one:=@PySem.W.kia_one
theorem Y4:type_of% @Int.emod_nonneg:=@Int.emod_nonneg
theorem Y5:type_of% @wpAny_newObj_type:=@wpAny_newObj_type
theorem Y6:type_of% @Array.length_toList:=@Array.length_toList
theorem Y7:type_of% @List.getElem?_append_right:=@List.getElem?_append_right
theorem Y8:type_of% @PySem.W.mg_none_of:=@PySem.W.mg_none_of
theorem Y9:type_of% @List.getElem?_append_left:=@List.getElem?_append_left
theorem Ya:type_of% @Int.toNat_natCast:=@Int.toNat_natCast
theorem Yb:type_of% @List.length_replicate:=@List.length_replicate
theorem Yc:type_of% @List.singleton_append:=@List.singleton_append
theorem Yd:type_of% @wpAny_call_entry:=@wpAny_call_entry
theorem Ye:type_of% @PyProof.Rows.callWith_type1:=@PyProof.Rows.callWith_type1
theorem Yf:type_of% @List.map_map:=@List.map_map
theorem Yg:type_of% @List.length_range:=@List.length_range
theorem Yh:type_of% @PySem.mem_of_lookup:=@PySem.mem_of_lookup
theorem Yi:type_of% @List.drop_eq_getElem_cons:=@List.drop_eq_getElem_cons
theorem Yj:type_of% @Nat.lt_irrefl:=@Nat.lt_irrefl
theorem Yk:type_of% @wpAny_typeNameOfWhole_keyiter:=@wpAny_typeNameOfWhole_keyiter
theorem Yl:type_of% @List.flatten_cons:=@List.flatten_cons
theorem Ym:type_of% @PySem.F.plainAttrs_list:=@PySem.F.plainAttrs_list
theorem Yn:type_of% @Heap.get?_update_ne:=@Heap.get?_update_ne
theorem Yo:type_of% @Calls.callWith_builtin:=@Calls.callWith_builtin
theorem Yp:type_of% @wpAny_holding:=@wpAny_holding
theorem Yq:type_of% @Array.getElem?_toList:=@Array.getElem?_toList
theorem Yr:type_of% @wpAny_passesOwn:=@wpAny_passesOwn
theorem Ys:type_of% @List.flatMap_cons:=@List.flatMap_cons
theorem Yt:type_of% @List.lookup_cons:=@List.lookup_cons
theorem Yu:type_of% @wpAny_field:=@wpAny_field
end
noncomputable section
namespace L2
open PySem PySem.Spec PyProof.Rows
abbrev Key:=Sum Int Str
def wjd:Key->Value->Bool
 |.inl k,v=>Value.isInt k v
 |.inr x,v=>Value.isStrOf x v
def keyH(w:World):Key->Int
 |.inl k=>hashInt k
 |.inr x=>hashStr w x
theorem Q1:∀{k:Key} {v:Value},wjd k v=true->(∃i t,k=Sum.inl i/\v=Value.int i t)\/(∃x t,k=Sum.inr x/\v=Value.str x t)
 |.inl i,v,h=>by
  obtain⟨t,e⟩:=Value.isInt_shape (k:=i) (v:=v) h;exact .inl ⟨i,t,rfl,e⟩
 |.inr x,v,h=>by
  obtain⟨t,e⟩:=Value.isStrOf_shape (x:=x) (v:=v) h;exact .inr ⟨x,t,rfl,e⟩
theorem wjc(a b:Int):decide ((Sum.inl a:Key)=Sum.inl b)=(a==b):=by
 by_cases e:a=b
 ·subst e;simp
 ·have h:¬(Sum.inl a:Key)=Sum.inl b:=λq=>e (Sum.inl.inj q)
  rw[Xa h];exact(beq_eq_false_iff_ne.mpr e).symm
theorem wj9(a b:Str):decide ((Sum.inr a:Key)=Sum.inr b)=decide (a=b):=by
 by_cases e:a=b
 ·subst e;simp
 ·have h:¬(Sum.inr a:Key)=Sum.inr b:=λq=>e (Sum.inr.inj q)
  rw[Xa h,Xa e]
theorem wjb(a:Int)(b:Str):decide ((Sum.inl a:Key)=Sum.inr b)=false:=Xa (λq=>nomatch q)
theorem wja(a:Str)(b:Int):decide ((Sum.inr a:Key)=Sum.inl b)=false:=Xa (λq=>nomatch q)
def kqz(prog:Program)(w:World):PySem.KeyKind prog w Key where
 is:=wjd
 hash:=keyH w
 inj:=λv a b ha hb=>by
  rcases Q1 ha with⟨i,t,rfl,rfl⟩|⟨x,t,rfl,rfl⟩
  ·rcases Q1 hb with⟨j,u,rfl,e⟩|⟨y,u,rfl,e⟩
   ·injection e with e1 _;rw[e1]
   ·exact nomatch e
  ·rcases Q1 hb with⟨j,u,rfl,e⟩|⟨y,u,rfl,e⟩
   ·exact nomatch e
   ·injection e with e1 _;rw[e1]
 byValue:=λk v h=>by
  rcases Q1 h with⟨i,t,rfl,rfl⟩|⟨x,t,rfl,rfl⟩<;>rfl
 pyHash:=λhv h=>by
  rcases Q1 hv with⟨i,t,rfl,rfl⟩|⟨x,t,rfl,rfl⟩
  ·exact wpAny_pyHash_int h
  ·exact wpAny_pyHash_str h
 eqBool:=λhu hv h=>by
  rcases Q1 hu with⟨i,t,rfl,rfl⟩|⟨x,t,rfl,rfl⟩
  ·rcases Q1 hv with⟨j,u,rfl,rfl⟩|⟨y,u,rfl,rfl⟩
   ·rw[wjc]at h;exact wpAny_eqBool_int h
   ·rw[wjb]at h;exact SeqAt.EqAt.int_str i t y u _ _ _ _ h
  ·rcases Q1 hv with⟨j,u,rfl,rfl⟩|⟨y,u,rfl,rfl⟩
   ·rw[wja]at h;exact SeqAt.EqAt.str_int x t j u _ _ _ _ h
   ·rw[wj9]at h;exact wpAny_eqBool_str h
 «strs»:=λk x t v h=>by
  rcases Q1 h with⟨i,u,rfl,e⟩|⟨y,u,rfl,e⟩
  ·exact nomatch e
  ·injection e with e1 _;subst e1;cases v<;>rfl
inductive V where
 |non|bl (b:Bool)|int (i:Int)|str (x:Str)|byt (b:Array UInt8)|flt (b:UInt64)|ref (a:Addr)|ty (n:String)
 deriving DecidableEq
def RelV:V->Value->Prop
 |.non,u=>u=Value.none
 |.bl b,u=>u=Value.bool b
 |.int i,u=>∃t,u=Value.int i t
 |.str x,u=>∃t,u=Value.str x t
 |.byt b,u=>∃t,u=Value.bytes b t
 |.flt b,u=>∃t,u=Value.float b t
 |.ref a,u=>u=Value.ref a
 |.ty n,u=>u=Value.type n
abbrev Vals:List V->List Value->Prop:=Paired RelV
theorem Vals.length{xs:List V}{us:List Value}(r:Vals xs us):xs.length=us.length:=Paired.length r
theorem Vals.get:∀{xs:List V} {us:List Value} {i:Nat} {x:V},Vals xs us->xs[i]?=some x->∃u,us[i]?=some u/\RelV x u
 |_,_,_,_,.nil,e=>by simp at e
 |_,_,0,_,.cons r _,e=>by simp at e;subst e;exact⟨_,rfl,r⟩
 |_,_,i+1,x,.cons _ t,e=>by
  obtain⟨u,h1,h2⟩:=Vals.get (i:=i) (x:=x) t (by simpa using e);exact⟨u,by simpa using h1,h2⟩
theorem Vals.append:∀{xs ys:List V} {us ws:List Value},Vals xs us->Vals ys ws->Vals (xs++ys) (us++ws)
 |_,_,_,_,.nil,s=>s
 |_,_,_,_,.cons r t,s=>.cons r (Vals.append t s)
theorem Vals.take:∀{xs:List V} {us:List Value} (n:Nat),Vals xs us->Vals (xs.take n) (us.take n)
 |_,_,0,_=>.nil
 |_,_,_+1,.nil=>.nil
 |_,_,n+1,.cons r t=>.cons r (Vals.take n t)
theorem Vals.drop:∀{xs:List V} {us:List Value} (n:Nat),Vals xs us->Vals (xs.drop n) (us.drop n)
 |_,_,0,r=>r
 |_,_,_+1,.nil=>.nil
 |_,_,n+1,.cons _ t=>Vals.drop n t
def wv7:Option V->Option Value->Prop
 |some v,some u=>RelV v u
 |none,none=>True
 |_,_=>False
def KV{κ:Type}:List (κ×V)->List (κ×Value)->Prop:=Paired λ(p:κ×V) (q:κ×Value)=>p.1=q.1/\RelV p.2 q.2
def kV:Key->V
 |.inl i=>.int i
 |.inr x=>.str x
inductive HO where
 |lst (xs:List V)
 |tup (xs:List V)
 |dK (kvs:List (Key×V))|dT (kvs:List (List Key×V))
 |set (S:Int->Bool) (n:Nat)
 |ins (C dx:Addr) (fs:List (Str×V))
 |own (x:Addr)
 |xd (fs:List (Str×V))
 |met (f x:Addr)
 |rng (lo hi:Int)
 |frz (o:Obj) (u:HO)
 |tbl (ps:Array Value)
 |ext (φ:Heap->Prop)
abbrev Hp:=Addr->Option HO
def IsTupD(h:Heap)(a:Addr)(items:Array Value):Prop:=∃o,h.get? a=some o/\o.cls=.type "tuple"/\o.dict=none/\∃n,o.data=.seq items n
theorem IsTupD.tup{h:Heap}{a:Addr}{items:Array Value}(p:IsTupD h a items):IsTup h a items:=by
 obtain⟨o,e,c,_,n,d⟩:=p;exact⟨o,e,c,n,d⟩
theorem IsTupD.new(h:Heap)(xs:Array Value):IsTupD (h.push { cls:=.type "tuple",data:=.seq xs }) h.objs.size xs:=⟨_,Xj _ rfl,rfl,rfl,0,rfl⟩
def upd(H:Hp)(a:Addr)(o:HO):Hp:=λb=>if b=a then some o else H b
theorem wQ{H:Hp}{a:Addr}{o:HO}:upd H a o a=some o:=by unfold upd;rw[Xb rfl]
theorem qz{H:Hp}{a b:Addr}{o:HO}(h:b≠a):upd H a o b=H b:=by unfold upd;rw[Xe h]
theorem zW{H:Hp}{a b:Addr}{o:HO}(h:H a=some o)(h':H b=none):a≠b:=by
 intro e;subst e;rw[h]at h';cases h'
section
variable (P:Program)(w:World)
def ObjOk(H : Hp)(h : Heap)(a : Addr): HO -> Prop
  |.lst xs=>xs.length<=sizeLine /\ ∃(a9 : List Value) (n : Nat), Vals xs a9 /\ h.get? a = some { cls:= .type "list", data:= .seq a9.toArray n }
  |.tup xs=>xs.length<=sizeLine /\ ∃a9 : List Value, Vals xs a9 /\ IsTupD h a a9.toArray
  |.dK kvs=>kvs.length<=sizeLine /\ (a==sysModules) = false /\ ∃vs, KV kvs vs /\ h.DictOf (kqz P w) a vs
  |.dT kvs=>kvs.length<=sizeLine /\ (a==sysModules) = false /\ ∃xs : List (List Key × Addr × Value),
      Paired (λ(p : List Key × V) (q : List Key × Addr × Value)=>p.1 = q.1 /\ H q.2.1 = some (.tup (p.1.map kV)) /\ RelV p.2 q.2.2) kvs xs /\
      ∃o es ep, h.get? a = some o /\ o.ExactDict /\ o.data = .dict es ep /\ es.toList = xs.map (entryOfKey (tupleKind (kqz P w))) /\ (xs.map (·.1)).Nodup
  |.set S n=>h.SetOf (intKind P w) a S n
  |.ins C dx fs=>H dx = some (.own a) /\ fs.length<=1000 /\ dx≠a /\ h.get? a = some (PySem.W.instObj C dx) /\
      ∃mA, h.Ns1 dx mA /\ (∀f, wv7 (fs.lookup f) (mA f)) /\ PySem.Within mA (fs.map (·.1))
  |.own _=> ∃o, h.get? a = some o
  |.xd fs=> ∃mA, h.Ns1 a mA /\ ∀f, wv7 (fs.lookup f) (mA f)
  |.rng lo hi=> ∃t u v, h.get? a = some { cls:= .type "range", data:= .fields #[.int lo t, .int hi u, .int 1 v] }
  |.frz o u=>h.get? a = some o /\ ObjOk H h a u
  |.tbl ps=>h.get? a = some { cls:= .none, data:= .fields ps }
  |.met f x=>h.get? a = some (PySem.W.methodObj (.ref f) (.ref x))
  |.ext φ=>φ h /\ (∃o, h.get? a = some o) /\ ∀h1 h2 : Heap, φ h1 -> (∀o, h1.get? a = some o -> h2.get? a = some o) -> φ h2
def HOk(H:Hp)(h:Heap):Prop:=∀a o,H a=some o->ObjOk P w H h a o
end
section
variable {P:Program}{w:World}{H H':Hp}{h h':Heap}{a:Addr}{o:HO}
theorem ObjOk.lt(x:ObjOk P w H h a o):a<h.objs.size:=by
 cases o with
 |lst xs=>obtain⟨_,_,_,_,e⟩:=x;exact Xf e
 |tup xs=>obtain⟨_,_,_,p⟩:=x;exact p.tup.lt
 |dK kvs=>obtain⟨_,_,_,_,o,_,_,e,_⟩:=x;exact Xf e
 |dT kvs=>obtain⟨_,_,_,_,o,_,_,e,_⟩:=x;exact Xf e
 |set S n=>obtain⟨o,_,_,_,e,_⟩:=x;exact Xf e
 |ins C dx fs=>obtain⟨_,_,_,e,_⟩:=x;exact Xf e
 |own y=>obtain⟨_,e⟩:=x;exact Xf e
 |xd fs=>obtain⟨_,⟨_,_,_,e,_⟩,_⟩:=x;exact Xf e
 |rng lo hi=>obtain⟨_,_,_,e⟩:=x;exact Xf e
 |frz ob u=>obtain⟨e,_⟩:=x;exact Xf e
 |tbl ps=>exact Xf (show h.get? a=some _ from x)
 |met f y=>exact Xf (show h.get? a=some _ from x)
 |ext φ=>obtain⟨_,⟨_,e⟩,_⟩:=x;exact Xf e
theorem Paired.mapP{α β:Type}{F G:α->β->Prop}:∀{l₁:List α} {l₂:List β},Paired F l₁ l₂->(∀a b,F a b->G a b)->Paired G l₁ l₂
 |_,_,.nil,_=>.nil
 |_,_,.cons r t,f=>.cons (f _ _ r) (Paired.mapP t f)
theorem ObjOk.stay(x:ObjOk P w H h a o)(k:∀b u,(b=a\/H b=some (.own a))->h.get? b=some u->h'.get? b=some u)
  (ho:∀b,H b=some (.own a)->H' b=some (.own a)) (ht:∀b xs,H b=some (.tup xs)->H' b=some (.tup xs)):ObjOk P w H' h' a o:=by
 induction o with
 |lst xs=>obtain⟨z,a9,n,r,e⟩:=x;exact⟨z,a9,n,r,k _ _ (.inl rfl) e⟩
 |tup xs=>obtain⟨z,a9,r,ob,e,c⟩:=x;exact⟨z,a9,r,ob,k _ _ (.inl rfl) e,c⟩
 |dK kvs=>obtain⟨z,y,vs,r,ob,es,ep,e,c⟩:=x;exact⟨z,y,vs,r,ob,es,ep,k _ _ (.inl rfl) e,c⟩
 |dT kvs=>
  obtain⟨z,y,xs,r,ob,es,ep,e,c⟩:=x;exact⟨z,y,xs,Paired.mapP r λp q z=>⟨z.1,ht _ _ z.2.1,z.2.2⟩,ob,es,ep,k _ _ (.inl rfl) e,c⟩
 |set S n=>obtain⟨ob,es,ep,t,e,c⟩:=x;exact⟨ob,es,ep,t,k _ _ (.inl rfl) e,c⟩
 |ins C dx fs=>
  obtain⟨d,z,ne,e,mA,⟨od,es,ep,e2,c⟩,r⟩:=x;exact⟨ho _ d,z,ne,k _ _ (.inl rfl) e,mA,⟨od,es,ep,k _ _ (.inr d) e2,c⟩,r⟩
 |own y=>obtain⟨ob,e⟩:=x;exact⟨ob,k _ _ (.inl rfl) e⟩
 |xd fs=>obtain⟨mA,⟨od,es,ep,e,c⟩,r⟩:=x;exact⟨mA,⟨od,es,ep,k _ _ (.inl rfl) e,c⟩,r⟩
 |rng lo hi=>obtain⟨t,u,v,e⟩:=x;exact⟨t,u,v,k _ _ (.inl rfl) e⟩
 |frz ob u ih=>obtain⟨e,q⟩:=x;exact⟨k _ _ (.inl rfl) e,ih q⟩
 |tbl ps=>
  have e:h.get? a=some { cls:=.none,data:=.fields ps }:=x;show h'.get? a=some { cls:=.none,data:=.fields ps };exact k a _ (.inl rfl) e
 |met f y=>
  have e:h.get? a=some (PySem.W.methodObj (.ref f) (.ref y)):=x;show h'.get? a=some (PySem.W.methodObj (.ref f) (.ref y));exact k a _ (.inl rfl) e
 |ext φ=>obtain⟨p,⟨o,e⟩,st⟩:=x;exact⟨st _ _ p λo q=>k _ _ (.inl rfl) q,⟨o,k _ _ (.inl rfl) e⟩,st⟩
theorem HOk.lt(x:HOk P w H h)(e:H a=some o):a<h.objs.size:=(x a o e).lt
theorem HOk.fresh(x:HOk P w H h)(e:h.objs.size<=a):H a=none:=by
 cases q:H a with
 |none=>rfl
 |some u=>exact absurd (Xg (x.lt q) e) (Yj _)
theorem HOk.kept(x:HOk P w H h)(k:∀b u,h.get? b=some u->h'.get? b=some u):HOk P w H h':=λa o e=>
 (x a o e).stay (λb u _ q=>k b u q) (λ_ q=>q) λ_ _ q=>q
theorem HOk.laid(x:HOk P w H h)(k:∀b u,h.get? b=some u->h'.get? b=some u)(hp:h.objs.size<=a)(new:ObjOk P w (upd H a o) h' a o):HOk P w (upd H a o) h':=λb u e=>by
 have hn:=x.fresh hp
 by_cases hb:b=a
 ·subst hb;rw[wQ]at e;cases e;exact new
 ·rw[qz hb]at e;exact(x b u e).stay (λc v _ q=>k c v q) (λc q=>by rw[qz (zW q hn)];exact q) λc xs q=>by rw[qz (zW q hn)];exact q
end
def Rd(H:Hp)(a:Addr)(u:HO):Prop:=H a=some u\/∃o,H a=some (.frz o u)
theorem Rd.ok{P:Program}{w:World}{H:Hp}{h:Heap}{a:Addr}{u:HO}(r:Rd H a u)(x:HOk P w H h):ObjOk P w H h a u:=by
 rcases r with r|⟨o,r⟩
 ·exact x a u r
 ·obtain⟨_,q⟩:=x a _ r;exact q
def Mut:Option HO->Prop
 |some (.lst _)=>True
 |some (.dK _)=>True
 |some (.dT _)=>True
 |some (.set _ _)=>True
 |some (.ins _ _ _)=>True
 |some (.ext _)=>True
 |_=>False
section
variable {P:Program}{w:World}{H:Hp}{h h':Heap}{x e:Addr}{o':HO}
theorem HOk.write(ok:HOk P w H h)(mu:Mut (H x))(he:e=x\/H e=some (.own x))(k:∀b u,b≠e->h.get? b=some u->h'.get? b=some u)(oe:∃u,h'.get? e=some u)
  (new:ObjOk P w (upd H x o') h' x o'):HOk P w (upd H x o') h':=λb u q=>by
 have qi:∀c y,H c=some (.own y)->c≠x:=λc y r z=>by subst z;rw[r]at mu;exact mu
 have ntup:∀c xs,H c=some (.tup xs)->c≠x:=λc xs r z=>by subst z;rw[r]at mu;exact mu
 by_cases hb:b=x
 ·subst hb;rw[wQ]at q;cases q;exact new
 ·rw[qz hb]at q
  by_cases hbe:b=e
  ·have q':H b=some (.own x):=by
    rcases he with z|z
    ·exact absurd (hbe.trans z) hb
    ·rw[hbe];exact z
   rw[q]at q';cases q';obtain⟨v,hv⟩:=oe;exact⟨v,by rw[hbe];exact hv⟩
  ·refine(ok b u q).stay (λc v hc r=>k c v ?_ r) (λc r=>by rw[qz (qi c b r)];exact r) λc xs r=>by rw[qz (ntup c xs r)];exact r
   rcases hc with rfl|hc
   ·exact hbe
   ·rintro rfl;rcases he with z|z
    ·exact qi c b hc z
    ·rw[hc]at z;cases z;exact hb rfl
end
structure Un (fs ex:List Addr)(H H':Hp)(h h':Heap):Prop where
 keep:∀b o,h.get? b=some o->H b=none->b∉fs->b∉ex->h'.get? b=some o
 slot:∀b o,h.get? b=some o->H b=none->b∈fs->b∉ex->∃sl,h'.get? b=some { o with slots:=sl }
 free:∀b o,h.get? b=some o->H b=none->b∉ex->H' b=none
 there:∀b o,h.get? b=some o->b∉ex->∃o',h'.get? b=some o'
 tups:∀b xs,H b=some (.tup xs)->H' b=some (.tup xs)
 frzs:∀b o u,H b=some (.frz o u)->H' b=some (.frz o u)
 tbls:∀b ps,H b=some (.tbl ps)->∃more,H' b=some (.tbl (ps++more))
section
variable {fs fs' ex ex':List Addr}{H H1 H2:Hp}{h h1 h2 h':Heap}{a x e:Addr}{o:HO}
theorem Un.any(u:Un fs ex H H1 h h1){b:Addr}{ob:Obj}(q:h.get? b=some ob)(n:H b=none)(hx:b∉ex):∃sl,h1.get? b=some { ob with slots:=sl }:=by
 by_cases hb:b∈fs
 ·exact u.slot b ob q n hb hx
 ·exact⟨ob.slots,u.keep b ob q n hb hx⟩
theorem Un.kept(k:∀b u,h.get? b=some u->h'.get? b=some u):Un fs ex H H h h':=
 ⟨λb ob q _ _ _=>k b ob q,λb ob q _ _ _=>⟨ob.slots,k b ob q⟩,λ_ _ _ n _=>n,λb ob q _=>⟨ob,k b ob q⟩,λ_ _ q=>q,λ_ _ _ q=>q,λ_ ps q=>⟨#[],by rw[q];simp⟩⟩
theorem Un.refl:Un fs ex H H h h:=Un.kept λ_ _ q=>q
theorem Un.laid(k:∀b u,h.get? b=some u->h'.get? b=some u)(hp:h.objs.size<=a)(hn:H a=none):Un fs ex H (upd H a o) h h' where
 keep:=λb u q _ _ _=>k b u q
 slot:=λb u q _ _ _=>⟨u.slots,k b u q⟩
 free:=λb u q n _=>by rw[qz (Xy (Xg (Xf q) hp))];exact n
 there:=λb u q _=>⟨u,k b u q⟩
 tups:=λb xs q=>by rw[qz (zW q hn)];exact q
 frzs:=λb u xs q=>by rw[qz (zW q hn)];exact q
 tbls:=λb ps q=>⟨#[],by rw[qz (zW q hn),q];simp⟩
theorem Un.write(mu:Mut (H x))(he:e=x\/H e=some (.own x))(k:∀b u,b≠e->h.get? b=some u->h'.get? b=some u)(oe:∃u,h'.get? e=some u):Un fs ex H (upd H x o) h h':=by
 have hx:∀b,H b=none->b≠x:=λb n z=>by subst z;rw[n]at mu;exact mu
 have hb:∀b,H b=none->b≠e:=λb n z=>by
  subst z;rcases he with r|r
  ·exact hx b n r
  ·rw[n]at r;cases r
 have hm:∀b u,H b=some u->¬Mut (some u)->b≠x:=λb u q nm z=>by subst z;rw[q]at mu;exact nm mu
 refine⟨λb u q n _ _=>k b u (hb b n) q,λb u q n _ _=>⟨u.slots,k b u (hb b n) q⟩,λb u q n _=>by rw[qz (hx b n)];exact n,λb u q _=>?_,
  λb xs q=>by rw[qz (hm b _ q λz=>z)];exact q,λb u xs q=>by rw[qz (hm b _ q λz=>z)];exact q,λb ps q=>⟨#[],by rw[qz (hm b _ q λz=>z),q];simp⟩⟩
 by_cases hbe:b=e
 ·subst hbe;exact oe
 ·exact⟨u,k b u hbe q⟩
end
def trk(h:Heap)(H:Hp):List Addr:=(List.range h.objs.size).filter λa=>(H a).isSome
def JY(h:Heap)(H:Hp):Heap:=PySem.W.hideAll h (trk h H)
theorem qwb(h:Heap)(H:Hp):(JY h H).objs.size=h.objs.size:=PySem.W.hideAll_size _ _
theorem qzy{h:Heap}{H:Hp}{b:Addr}{o:Obj}(e:h.get? b=some o)(n:H b=none):(JY h H).get? b=some o:=
 PySem.W.hideAll_get _ e λhm=>by
  have q:(H b).isSome=true:=(List.mem_filter.mp hm).2;rw[n]at q;simp at q
theorem vvd{h:Heap}{H:Hp}{b:Addr}{o:Obj}(e:(JY h H).get? b=some o):h.get? b=some o/\H b=none:=by
 have e':h.get? b=some o:=PySem.W.of_hideAll (trk h H) e;refine⟨e',?_⟩;cases q:H b with
 |none=>rfl
 |some x=>
  have hm:b∈trk h H:=List.mem_filter.mpr ⟨List.mem_range.mpr (Xf e'),by simp[q]⟩;have z:(JY h H).get? b=none:=PySem.W.hideAll_none (trk h H) hm;rw[z]at e;cases e
def vwe(g h:Heap)(L:Addr):List (Addr×Obj):=(List.range h.objs.size).filterMap λa=>if a=L\/(g.get? a).isSome=true then none else(h.get? a).map λo=>(a,o)
def rest(g h:Heap)(L d:Addr):List (Addr×Obj):=(vwe g h L).filter λp=>decide (p.1≠d)
structure Mod (K:PySem.W.Frag)(mg:Str->Option Value)(base:Heap):Prop where
 kin:K.In base
 glob:base.Ns mainGlobals mg
 blt:∃mb,base.Ns builtinsNs mb/\∀x:Str,x≠"__name__"->mb x=bootBuiltins x
 nolimit:base.NoLimit
structure Cx where
 prog:Program
 w:World
 K:PySem.W.Frag
 mg:Str->Option Value
 base:Heap
 A:Around
 N:List Str
 s₀:Shared
 H₀:Hp
 env:Env
 outer:List Env
 stack:List Env
 ex:List Addr
 fn:Str->Bool
 calm:Bool
 pn:List (Addr×Obj)
 xe:Value->Shared->Prop
def frs(l:List Env):List Addr:=l.filterMap (·.frame)
abbrev Cx.fs(X:Cx):List Addr:=frs X.outer
def Vis(sc:Scope)(x:Str):Prop:=sc.names.lookup x=some .local\/sc.names.lookup x=some .cell\/sc.names.lookup x=some .free
def Loc(sc:Scope)(x:Str):Prop:=sc.names.lookup x=some .local\/sc.names.lookup x=some .cell
def Look(env:Env)(h:Heap)(m:Str->Option Value)(x:Str)(u:Value):Prop:=
 (env.kindOf x=some .local/\m x=some u)\/((env.kindOf x=some .cell\/env.kindOf x=some .free)/\∃c,env.cells.lookup x=some c/\h.IsCell c (some u))
structure Cx.Ok (X:Cx):Prop where
 mod:Mod X.K X.mg X.base
 kind:X.env.scope.kind=.function
 glob:X.env.globals=mainGlobals
 blt:X.env.builtins=builtinsNs
 above:X.s₀.heap.objs.size<=X.env.locals
 inj:∀x y c,X.env.cells.lookup x=some c->X.env.cells.lookup y=some c->x=y
 has:∀x,(X.env.kindOf x=some .cell\/X.env.kindOf x=some .free)->∃c,X.env.cells.lookup x=some c
 cab:∀x c,X.fn x=true->X.env.cells.lookup x=some c->X.s₀.heap.objs.size<=c
 hd:X.calm=true->X.A.handled=none
 frames:X.A.frames=some X.stack
 stk:X.stack=X.outer\/(X.stack=X.env::X.outer/\X.env.frame=some X.env.locals)
 exf:∀b∈X.ex,b≠X.env.locals/\∀x c,X.env.cells.lookup x=some c->c≠b
 bs:∀b o,X.base.get? b=some o->X.s₀.heap.get? b=some o/\X.H₀ b=none
 bsz:X.base.objs.size<=X.s₀.heap.objs.size
 noex:∀b o,X.base.get? b=some o->b∉X.ex
 exfs:∀b∈X.ex,b∉X.fs
 funs:X.s₀.heap.FunFrames X.base X.outer
 frf:∀b∈X.fs,X.H₀ b=none
structure Inv (X:Cx)(pins:List (Addr×Obj))(σ:List (Option V))(H:Hp)(s:Shared):Prop where
 ok:X.Ok
 os:s.os=X.s₀.os
 bare:AllBare s.gens
 base:Un X.fs X.ex X.H₀ H X.s₀.heap s.heap
 loc:∃m,s.heap.Ns X.env.locals m/\∀(i:Nat) (x:Str) (v:V),X.N[i]?=some x->σ[i]?=some (some v)->Vis X.env.scope x->∃u,RelV v u/\Look X.env s.heap m x u
 cell:∀x c,X.env.cells.lookup x=some c->∃v,s.heap.IsCell c v
 free:H X.env.locals=none
 freeC:∀x c,X.env.cells.lookup x=some c->H c=none
 pin:∀p∈X.pn++pins,s.heap.get? p.1=some p.2/\H p.1=none/\p.1≠X.env.locals/\p.1∉X.fs/\∀v,p.2.data≠.cell v
 hok:HOk X.prog X.w H s.heap
 len:σ.length=X.N.length
section
variable {X:Cx}{pins:List (Addr×Obj)}{σ:List (Option V)}{H H':Hp}{s:Shared}{h':Heap}
theorem Cx.Ok.nofr(ok:X.Ok){b:Addr}{o:Obj}(e:X.base.get? b=some o):b∉X.fs:=λhb=>by
 have:=(ok.funs.mem hb).1;rw[e]at this;cases this
theorem Inv.bs(I:Inv X pins σ H s):∀b o,X.base.get? b=some o->s.heap.get? b=some o/\H b=none:=λb o e=>
 ⟨I.base.keep b o (I.ok.bs b o e).1 (I.ok.bs b o e).2 (I.ok.nofr e) (I.ok.noex b o e),I.base.free b o (I.ok.bs b o e).1 (I.ok.bs b o e).2 (I.ok.noex b o e)⟩
theorem Inv.bk(I:Inv X pins σ H s):∀b o,X.base.get? b=some o->s.heap.get? b=some o:=λb o e=>(I.bs b o e).1
theorem Inv.mod(I:Inv X pins σ H s):Mod X.K X.mg X.base:=I.ok.mod
theorem Inv.kIn(I:Inv X pins σ H s):X.K.In s.heap:=I.ok.mod.kin.keeps I.bk
theorem Inv.lt(I:Inv X pins σ H s):X.env.locals<s.heap.objs.size:=let ⟨_,hn,_⟩:=I.loc;hn.lt
theorem Inv.sz(I:Inv X pins σ H s):X.s₀.heap.objs.size<=s.heap.objs.size:=Y0 I.ok.above (Nat.le_of_lt I.lt)
theorem Inv.nofs(I:Inv X pins σ H s){a:Addr}(h:s.heap.objs.size<=a):a∉X.fs:=λhb=>by
 obtain⟨_,o,ho,_⟩:=I.ok.funs.mem hb;exact absurd (Xg (Xf ho) (Y0 I.sz h)) (Yj _)
theorem Inv.cne(I:Inv X pins σ H s):∀x c,X.env.cells.lookup x=some c->c≠X.env.locals:=λx c e z=>by
 obtain⟨v,o,ho,hd⟩:=I.cell x c e;obtain⟨m,⟨o',es,ep,kr,lu,_⟩,_⟩:=I.loc;rw[z,kr]at ho;cases ho;rw[lu]at hd;cases hd
theorem Inv.funs(I:Inv X pins σ H s):s.heap.FunFrames X.base X.outer:=by
 have all:∀(l:List Env),(∀b∈frs l,b∈X.fs)->X.s₀.heap.FunFrames X.base l->s.heap.FunFrames X.base l:=by
  intro l
  induction l with
  |nil=>intro _ _;trivial
  |cons env r ih=>
   intro hs hl;obtain⟨hk,⟨L,o,hf,hn,ho,hd⟩,hr⟩:=hl;have hL:L∈X.fs:=hs L (by unfold frs;rw[List.filterMap_cons,hf];exact X2);obtain⟨sl,e⟩:=I.base.slot L o ho (I.ok.frf L hL) hL λz=>I.ok.exfs L z hL
   exact⟨hk,⟨L,_,hf,hn,e,hd⟩,ih (λb hb=>hs b (by unfold frs;rw[List.filterMap_cons,hf];exact lc9 _ hb)) hr⟩
 exact all X.outer (λ_ hb=>hb) I.ok.funs
theorem Inv.stack(I:Inv X pins σ H s):s.heap.FunFrames X.base X.stack:=by
 rcases I.ok.stk with e|⟨e,hf⟩
 ·rw[e];exact I.funs
 ·rw[e];obtain⟨m,hn,_⟩:=I.loc;refine .cons (by rw[I.ok.kind];decide) hf hn ?_ I.funs;exact Heap.get?_none_of_le (Y0 I.ok.bsz I.ok.above)
theorem Inv.stkSub(I:Inv X pins σ H s):∀b∈frs X.stack,b∈X.env.locals::X.fs:=λb hb=>by
 rcases I.ok.stk with e|⟨e,hf⟩
 ·rw[e]at hb;exact lc9 _ hb
 ·rw[e]at hb;unfold frs at hb;rw[List.filterMap_cons,hf]at hb;exact hb
theorem Inv.stkFree(I:Inv X pins σ H s):∀b∈frs X.stack,H b=none:=λb hb=>by
 rcases List.mem_cons.mp (I.stkSub b hb)with e|hb
 ·rw[e];exact I.free
 ·obtain⟨_,o,ho,_⟩:=I.ok.funs.mem hb;exact I.base.free b o ho (I.ok.frf b hb) λz=>I.ok.exfs b z hb
theorem Inv.step{g':Array GenState}{t':Nat}{d':Drawn}{ch:List Addr}(I:Inv X pins σ H s)
  (ff:∀b∈ch,(b∈X.ex\/X.s₀.heap.objs.size<=b)/\b≠X.env.locals/\(∀x c,X.env.cells.lookup x=some c->c≠b)/\∀p∈X.pn++pins,p.1≠b)
  (keep:∀b o,b≠X.env.locals->b∉X.fs->b∉ch->s.heap.get? b=some o->H b=none->h'.get? b=some o)
  (slot:∀b o,b≠X.env.locals->b∈X.fs->b∉ch->s.heap.get? b=some o->H b=none->∃sl,h'.get? b=some { o with slots:=sl }) (free:∀b o,b∉ch->s.heap.get? b=some o->H b=none->H' b=none)
  (there:∀b o,b∉ch->s.heap.get? b=some o->∃o',h'.get? b=some o')
  (tups:∀b xs,H b=some (.tup xs)->H' b=some (.tup xs)) (frzs:∀b o u,H b=some (.frz o u)->H' b=some (.frz o u)) (tbls:∀b ps,H b=some (.tbl ps)->∃more,H' b=some (.tbl (ps++more)))
  (ns:∀m,s.heap.Ns X.env.locals m->h'.Ns X.env.locals m) (hok:HOk X.prog X.w H' h') (hg:AllBare g'):
  Inv X pins σ H' { s with heap:=h',gens:=g',drawn:=d',toks:=t' }:=by
 have om:∀b o,X.s₀.heap.get? b=some o->b≠X.env.locals:=λb o e=>Xy (Xg (Xf e) I.ok.above)
 have lh:∀b o,X.s₀.heap.get? b=some o->b∉X.ex->b∉ch:=λb o e hx hb=>by
  rcases(ff b hb).1 with z|z
  ·exact hx z
  ·exact absurd (Xg (Xf e) z) (Yj _)
 have gl:∀x c,X.env.cells.lookup x=some c->∀v,s.heap.IsCell c v->h'.IsCell c v:=λx c e v ⟨o,ho,hd⟩=>by
  have jm:c∉ch:=λz=>(ff c z).2.2.1 x c e rfl
  by_cases hc:c∈X.fs
  ·obtain⟨sl,q⟩:=slot c o (I.cne x c e) hc jm ho (I.freeC x c e);exact⟨_,q,hd⟩
  ·exact⟨o,keep c o (I.cne x c e) hc jm ho (I.freeC x c e),hd⟩
 refine⟨I.ok,I.os,hg,⟨λb o e n hb hx=>?_,λb o e n hb hx=>?_,λb o e n hx=>?_,λb o e hx=>?_,λb xs e=>tups b xs (I.base.tups b xs e),λb o xs e=>frzs b o xs (I.base.frzs b o xs e),λb ps e=>?_⟩,?_,λx c e=>?_,?_,λx c e=>?_,λp hp=>?_,hok,I.len⟩
 ·exact keep b o (om b o e) hb (lh b o e hx) (I.base.keep b o e n hb hx) (I.base.free b o e n hx)
 ·obtain⟨sl,e1⟩:=I.base.slot b o e n hb hx;obtain⟨sl',e2⟩:=slot b _ (om b o e) hb (lh b o e hx) e1 (I.base.free b o e n hx);exact⟨sl',e2⟩
 ·obtain⟨o',e1⟩:=I.base.there b o e hx;exact free b o' (lh b o e hx) e1 (I.base.free b o e n hx)
 ·obtain⟨o',e1⟩:=I.base.there b o e hx;exact there b o' (lh b o e hx) e1
 ·obtain⟨m1,e1⟩:=I.base.tbls b ps e;obtain⟨m2,e2⟩:=tbls b _ e1;exact⟨m1++m2,by rw[e2,Array.append_assoc]⟩
 ·obtain⟨m,hn,hl⟩:=I.loc;refine⟨m,ns m hn,λi x v e1 e2 e3=>?_⟩;obtain⟨u,r,l⟩:=hl i x v e1 e2 e3;refine⟨u,r,?_⟩;rcases l with l|⟨k,c,e,z⟩
  ·exact .inl l
  ·exact .inr ⟨k,c,e,gl x c e _ z⟩
 ·obtain⟨v,z⟩:=I.cell x c e;exact⟨v,gl x c e v z⟩
 ·obtain⟨m,⟨o,_,_,ho,_⟩,_⟩:=I.loc;exact free _ o (λz=>(ff _ z).2.1 rfl) ho I.free
 ·obtain⟨v,o,ho,hd⟩:=I.cell x c e;exact free c o (λz=>(ff c z).2.2.1 x c e rfl) ho (I.freeC x c e)
 ·obtain⟨e,n,ne,nf,d⟩:=I.pin p hp;have jm:p.1∉ch:=λz=>(ff p.1 z).2.2.2 p hp rfl
  exact⟨keep p.1 p.2 ne nf jm e n,free p.1 p.2 jm e n,ne,nf,d⟩
theorem Inv.un{t':Nat}(I:Inv X pins σ H s)(u:Un X.fs [] H H' s.heap h')(hok:HOk X.prog X.w H' h'):Inv X pins σ H' { s with heap:=h',toks:=t' }:=by
 obtain⟨m,⟨o,es,ep,ho,r⟩,_⟩:=id I.loc;obtain⟨sl,hL⟩:=u.any ho I.free (by simp);exact I.step (g':=s.gens) (d':=s.drawn) (ch:=[]) (λ_ z=>nomatch z) (λb o _ hb _ e n=>u.keep b o e n hb (by simp)) (λb o _ hb _ e n=>u.slot b o e n hb (by simp)) (λb o _ e n=>u.free b o e n (by simp)) (λb o _ e=>u.there b o e (by simp)) u.tups u.frzs u.tbls (λm' hm=>by
  obtain⟨o',es',ep',kr,r'⟩:=hm;rw[ho]at kr;cases kr;exact⟨_,es',ep',hL,r'⟩) hok I.bare
theorem Inv.call{g':Array GenState}{t':Nat}{d':Drawn}{ch:List Addr}(I:Inv X pins σ H s)(u:Un (frs X.stack) ch H H' s.heap h')(hok:HOk X.prog X.w H' h')(hg:AllBare g')
  (ff:∀b∈ch,(b∈X.ex\/X.s₀.heap.objs.size<=b)/\b≠X.env.locals/\(∀x c,X.env.cells.lookup x=some c->c≠b)/\∀p∈X.pn++pins,p.1≠b):
  Inv X pins σ H' { s with heap:=h',gens:=g',drawn:=d',toks:=t' }:=by
 obtain⟨m,⟨o,es,ep,ho,r⟩,_⟩:=id I.loc;obtain⟨sl,hL⟩:=u.any ho I.free λz=>(ff _ z).2.1 rfl
 exact I.step (ch:=ch) ff (λb o hL hb hc e n=>u.keep b o e n (λz=>(List.mem_cons.mp (I.stkSub b z)).elim hL hb) hc) (λb o _ _ hc e n=>u.any e n hc) (λb o hc e n=>u.free b o e n hc) (λb o hc e=>u.there b o e hc) u.tups u.frzs u.tbls (λm' hm=>by
  obtain⟨o',es',ep',kr,r'⟩:=hm;rw[ho]at kr;cases kr;exact⟨_,es',ep',hL,r'⟩) hok hg
theorem Inv.turned{t':Nat}{it:Addr}(I:Inv X pins σ H s)(k:∀b o,b≠it->s.heap.get? b=some o->h'.get? b=some o)(hn:H it=none)(hL:it≠X.env.locals)
  (h1:it∈X.ex\/X.s₀.heap.objs.size<=it) (h2:∀x c,X.env.cells.lookup x=some c->c≠it) (h3:∀p∈X.pn++pins,p.1≠it):Inv X pins σ H { s with heap:=h',toks:=t' }:=by
 have pc:∀b u,H b=some u->b≠it:=λb u e z=>by rw[z,hn]at e;cases e
 refine I.step (g':=s.gens) (d':=s.drawn) (ch:=[it]) (λb hb=>?_) (λb o _ _ hc e _=>k b o (λz=>hc (by simp[z])) e) (λb o _ _ hc e _=>⟨o.slots,k b o (λz=>hc (by simp[z])) e⟩) (λ_ _ _ _ n=>n)
  (λb o hc e=>⟨o,k b o (λz=>hc (by simp[z])) e⟩) (λ_ _ e=>e) (λ_ _ _ e=>e) (λb ps e=>⟨#[],by rw[e];simp⟩) (λm hm=>?_) (λb u e=>?_) I.bare
 ·have e:b=it:=by simpa using hb
  subst e;exact⟨h1,hL,h2,h3⟩
 ·obtain⟨o,es,ep,ho,r⟩:=hm;exact⟨o,es,ep,k _ o (Ne.symm hL) ho,r⟩
 ·refine(I.hok b u e).stay (λc v hc q=>k c v ?_ q) (λ_ q=>q) λ_ _ q=>q
  rcases hc with z|z
  ·rw[z];exact pc b u e
  ·exact pc c _ z
theorem Inv.tok(I:Inv X pins σ H s)(t:Nat):Inv X pins σ H { s with toks:=t }:=I.un (h':=s.heap) (t':=t) Un.refl I.hok
theorem Inv.kept{t':Nat}(I:Inv X pins σ H s)(k:∀b u,s.heap.get? b=some u->h'.get? b=some u):Inv X pins σ H { s with heap:=h',toks:=t' }:=I.un (Un.kept k) (I.hok.kept k)
theorem Inv.laid{a:Addr}{o:HO}{t':Nat}(I:Inv X pins σ H s)(k:∀b u,s.heap.get? b=some u->h'.get? b=some u)(hp:s.heap.objs.size<=a)(new:ObjOk X.prog X.w (upd H a o) h' a o):
  Inv X pins σ (upd H a o) { s with heap:=h',toks:=t' }:=I.un (Un.laid k hp (I.hok.fresh hp)) (I.hok.laid k hp new)
theorem Inv.write{x e:Addr}{o:HO}{t':Nat}(I:Inv X pins σ H s)(mu:Mut (H x))(he:e=x\/H e=some (.own x))(k:∀b u,b≠e->s.heap.get? b=some u->h'.get? b=some u)(oe:∃u,h'.get? e=some u)
  (new:ObjOk X.prog X.w (upd H x o) h' x o):Inv X pins σ (upd H x o) { s with heap:=h',toks:=t' }:=I.un (Un.write mu he k oe) (I.hok.write mu he k oe new)
theorem Inv.pins_of{cf:List (Addr×Obj)}(I:Inv X pins σ H s)(h:∀p∈cf,s.heap.get? p.1=some p.2/\H p.1=none/\p.1≠X.env.locals/\p.1∉X.fs/\∀v,p.2.data≠.cell v):Inv X cf σ H s:=
 ⟨I.ok,I.os,I.bare,I.base,I.loc,I.cell,I.free,I.freeC,λp hp=>(List.mem_append.mp hp).elim (λz=>I.pin p (ll9 _ z)) (h p),I.hok,I.len⟩
theorem qjb{N:List Str}(hN:N.Nodup){i j:Nat}{x:Str}(a:N[i]?=some x)(b:N[j]?=some x):i=j:=by
 obtain⟨h1,e1⟩:=List.getElem?_eq_some_iff.mp a;obtain⟨h2,e2⟩:=List.getElem?_eq_some_iff.mp b;exact(List.getElem_inj hN).mp (e1.trans e2.symm)
theorem qqc{M:Model}{A:Around}{E:Value->Shared->Prop}{i:Nat}{x:Str}{v:V}{u:Value}{Q:Unit->Shared->Prop}(I:Inv X pins σ H s)(hN:X.N.Nodup)(hi:X.N[i]?=some x)(hx:Loc X.env.scope x)(r:RelV v u)
  (h:∀s',Inv X pins (σ.set i (some v)) H s'->(∃a,Heap.SameBut a s.heap s'.heap/\(a=X.env.locals\/X.env.cells.lookup x=some a))->Q () s') (hf:X.fn x=true\/X.env.scope.names.lookup x=some .local:=by first|exact .inl rfl|exact .inr rfl|assumption):wpAny M A (storeName X.env x u) Q E s:=by
 obtain⟨m,hn,hl⟩:=id I.loc;have hcls:(X.env.scope.kind == .class||(X.env.scope.kind == .module&&X.env.locals != X.env.globals))=false:=by rw[I.ok.kind];rfl
 have hiσ:i < σ.length:=by rw[I.len];exact(List.getElem?_eq_some_iff.mp hi).1
 have cne:=I.cne;have ib:∀{a:Addr} {h':Heap},(∃o,s.heap.get? a=some o/\H a=none)->Heap.SameBut a s.heap h'->HOk X.prog X.w H h':=fun {a h'} ha hs b ob e=>by
  obtain⟨_,_,b9⟩:=ha;refine(I.hok b ob e).stay (λc w' hc q=>(hs.2 c ?_).trans q) (λ_ q=>q) λ_ _ q=>q
  rintro rfl;rcases hc with rfl|hc
  ·rw[b9]at e;cases e
  ·rw[b9]at hc;cases hc
 rcases hx with hk|hk
 ·refine wpAny_storeName_local hk hn (λh' hn' hs=>?_) hcls;obtain⟨oL,_,_,hoL,_⟩:=id hn;refine h _ ⟨I.ok,I.os,I.bare,⟨λb o e n hb hx=>?_,λb o e n hb hx=>?_,I.base.free,λb o e hx=>?_,I.base.tups,I.base.frzs,I.base.tbls⟩,⟨_,hn',λj y v' e1 e2 e3=>?_⟩,λy c e=>?_,I.free,I.freeC,λp hp=>?_,ib ⟨oL,hoL,I.free⟩ hs,by simpa using I.len⟩ ⟨_,hs,.inl rfl⟩
  ·exact(hs.2 b (Xy (Xg (Xf e) I.ok.above))).trans (I.base.keep b o e n hb hx)
  ·obtain⟨sl,e1⟩:=I.base.slot b o e n hb hx;exact⟨sl,(hs.2 b (Xy (Xg (Xf e) I.ok.above))).trans e1⟩
  ·obtain⟨o',e1⟩:=I.base.there b o e hx;exact⟨o',(hs.2 b (Xy (Xg (Xf e) I.ok.above))).trans e1⟩
  ·by_cases hj:j=i
   ·subst hj;rw[hi]at e1;cases e1;rw[Y1 hiσ]at e2;cases e2;exact⟨u,r,.inl ⟨hk,by simp⟩⟩
   ·rw[Xs (Ne.symm hj)]at e2;obtain⟨u',r',q⟩:=hl j y v' e1 e2 e3;refine⟨u',r',?_⟩;rcases q with⟨k,e⟩|⟨k,c,e,z⟩
    ·refine .inl ⟨k,?_⟩;have:y≠x:=λe=>hj (qjb hN e1 (e▸hi))
     simp[this,e]
    ·exact .inr ⟨k,c,e,z.sameBut hs (cne y c e)⟩
  ·obtain⟨w',z⟩:=I.cell y c e;exact⟨w',z.sameBut hs (cne y c e)⟩
  ·obtain⟨e,n,ne,nf,d⟩:=I.pin p hp;exact⟨(hs.2 p.1 ne).trans e,n,ne,nf,d⟩
 ·have hfn:X.fn x=true:=by
   rcases hf with z|z
   ·exact z
   ·rw[z]at hk;cases hk
  obtain⟨c,hc⟩:=I.ok.has x (.inl hk);obtain⟨w',z⟩:=I.cell x c hc;refine wpAny_storeName_cell I.ok.kind hk hc z (λh' iz hs=>?_);obtain⟨oc,hoc,hocd⟩:=id z;refine h { s with heap:=h' } ⟨I.ok,I.os,I.bare,⟨λb o e n hb hx=>?_,λb o e n hb hx=>?_,I.base.free,λb o e hx=>?_,I.base.tups,I.base.frzs,I.base.tbls⟩,⟨m,hn.sameBut hs (Ne.symm (cne x c hc)),λj y v' e1 e2 e3=>?_⟩,λy c' e=>?_,I.free,I.freeC,λp hp=>?_,ib ⟨oc,hoc,I.freeC x c hc⟩ hs,by simpa using I.len⟩ ⟨c,hs,.inr hc⟩
  ·exact(hs.2 b (Xy (Xg (Xf e) (I.ok.cab x c hfn hc)))).trans (I.base.keep b o e n hb hx)
  ·obtain⟨sl,e1⟩:=I.base.slot b o e n hb hx;exact⟨sl,(hs.2 b (Xy (Xg (Xf e) (I.ok.cab x c hfn hc)))).trans e1⟩
  ·obtain⟨o',e1⟩:=I.base.there b o e hx;exact⟨o',(hs.2 b (Xy (Xg (Xf e) (I.ok.cab x c hfn hc)))).trans e1⟩
  ·by_cases hj:j=i
   ·subst hj;rw[hi]at e1;cases e1;rw[Y1 hiσ]at e2;cases e2;exact⟨u,r,.inr ⟨.inl hk,c,hc,iz⟩⟩
   ·rw[Xs (Ne.symm hj)]at e2;obtain⟨u',r',q⟩:=hl j y v' e1 e2 e3;refine⟨u',r',?_⟩;rcases q with q|⟨k,c',e,z'⟩
    ·exact .inl q
    ·refine .inr ⟨k,c',e,z'.sameBut hs ?_⟩;rintro rfl;exact hj (qjb hN e1 (I.ok.inj _ _ _ e hc▸hi))
  ·by_cases bj:c'=c
   ·subst bj;exact⟨_,iz⟩
   ·obtain⟨w2,z2⟩:=I.cell y c' e;exact⟨w2,z2.sameBut hs bj⟩
  ·obtain⟨e,n,ne,nf,d⟩:=I.pin p hp;refine⟨(hs.2 p.1 ?_).trans e,n,ne,nf,d⟩;intro q;rw[q,hoc]at e;have q':oc=p.2:=oq9 e;exact d w' (by rw[<-q'];exact hocd)
theorem kqi{M:Model}{A:Around}{E:Value->Shared->Prop}{i:Nat}{x:Str}{v:V}{u:Value}{Q:Unit->Shared->Prop}(I:Inv X pins σ H s)(hN:X.N.Nodup)(hi:X.N[i]?=some x)(hx:Loc X.env.scope x)(r:RelV v u)
  (h:∀s',Inv X pins (σ.set i (some v)) H s'->Q () s') (hf:X.fn x=true\/X.env.scope.names.lookup x=some .local:=by first|exact .inl rfl|exact .inr rfl|assumption):wpAny M A (storeName X.env x u) Q E s:=
 qqc I hN hi hx r (λs' I' _=>h s' I') hf
theorem Inv.call'{s':Shared}{ch:List Addr}(I:Inv X pins σ H s)(ho:s'.os=s.os)(u:Un (frs X.stack) ch H H' s.heap s'.heap)(hok:HOk X.prog X.w H' s'.heap)(hg:AllBare s'.gens)
  (ff:∀b∈ch,(b∈X.ex\/X.s₀.heap.objs.size<=b)/\b≠X.env.locals/\(∀x c,X.env.cells.lookup x=some c->c≠b)/\∀p∈X.pn++pins,p.1≠b):Inv X pins σ H' s':=by
 obtain⟨h',g',d',t',o'⟩:=s';have e:o'=s.os:=ho;subst e;exact I.call (g':=g') (t':=t') (d':=d') u hok hg ff
end
abbrev XK:=Value->Option Addr->Hp->Prop
abbrev St:=List (Option V)
abbrev VK:=V->Hp->Prop
abbrev TE:=St->Hp->VK->Prop
abbrev TT:=St->Hp->(Bool->Hp->Prop)->Prop
abbrev TA:=St->Hp->(List V->Hp->Prop)->Prop
structure Ends where
 nx:St->Hp->Prop
 rt:VK
 bk:St->Hp->Prop:=λ_ _=>False
 ct:St->Hp->Prop:=λ_ _=>False
abbrev TS:=Ends->St->Hp->Prop
def EP(X:Cx)(pins:List (Addr×Obj))(σ:St)(Q:VK)(u:Value)(s':Shared):Prop:=∃v H',Inv X pins σ H' s'/\RelV v u/\Q v H'
def TP(X:Cx)(pins:List (Addr×Obj))(σ:St)(Q:Bool->Hp->Prop)(b:Bool)(s':Shared):Prop:=∃H',Inv X pins σ H' s'/\Q b H'
def AP(X:Cx)(pins:List (Addr×Obj))(σ:St)(Q:List V->Hp->Prop)(us:List Value)(s':Shared):Prop:=∃vs H',Inv X pins σ H' s'/\Vals vs us/\Q vs H'
def SP(X:Cx)(pins:List (Addr×Obj))(D:Ends)(f:Flow)(s':Shared):Prop:=
 match f with
 |.next=>∃ σ' H',Inv X pins σ' H' s'/\D.nx σ' H'
 |.brk=>∃ σ' H',Inv X pins σ' H' s'/\D.bk σ' H'
 |.cont=>∃ σ' H',Inv X pins σ' H' s'/\D.ct σ' H'
 |.ret u=>∃v σ' H',Inv X pins σ' H' s'/\RelV v u/\D.rt v H'
def PE(X:Cx)(e:Expr)(t:TE):Prop:=
 ∀(pins:List (Addr×Obj)) (s:Shared) (σ:St) (H:Hp) (Q:VK),Inv X pins σ H s->t σ H Q->wpAny (model X.prog X.w) X.A (eval e X.env) (EP X pins σ Q) X.xe s
def PT(X:Cx)(e:Expr)(t:TT):Prop:=
 ∀(pins:List (Addr×Obj)) (s:Shared) (σ:St) (H:Hp) (Q:Bool->Hp->Prop),Inv X pins σ H s->t σ H Q->wpAny (model X.prog X.w) X.A (isTrue e X.env (eval e X.env)) (TP X pins σ Q) X.xe s
def PW(X:Cx)(e:Expr)(t:TT):Prop:=
 ∀(dy:Sem Value) (pins:List (Addr×Obj)) (s:Shared) (σ:St) (H:Hp) (Q:Bool->Hp->Prop),Inv X pins σ H s->t σ H Q->wpAny (model X.prog X.w) X.A (isTrue e X.env dy) (TP X pins σ Q) X.xe s
theorem PW.pt{X:Cx}{e:Expr}{t:TT}(h:PW X e t):PT X e t:=h _
def PA(X:Cx)(es:List Expr)(t:TA):Prop:=
 ∀(pos:Pos) (pins:List (Addr×Obj)) (s:Shared) (σ:St) (H:Hp) (Q:List V->Hp->Prop),Inv X pins σ H s->t σ H Q->wpAny (model X.prog X.w) X.A (spliced (backTo pos (starEach es X.env))) (AP X pins σ Q) X.xe s
def PS(X:Cx)(st:Stmt)(t:TS):Prop:=
 ∀(pins:List (Addr×Obj)) (s:Shared) (σ:St) (H:Hp) (D:Ends),Inv X pins σ H s->t D σ H->wpAny (model X.prog X.w) X.A (exec st X.env) (SP X pins D) X.xe s
def PSs(X:Cx)(st:List Stmt)(t:TS):Prop:=
 ∀(pins:List (Addr×Obj)) (s:Shared) (σ:St) (H:Hp) (D:Ends),Inv X pins σ H s->t D σ H->wpAny (model X.prog X.w) X.A (execs st X.env) (SP X pins D) X.xe s
theorem thn{α:Type}{t:Sem α}{Q Q':α->Shared->Prop}{M:Model}{A:Around}{E:Value->Shared->Prop}{s:Shared}(h:wpAny M A t Q E s)(hQ:∀a s,Q a s->Q' a s):wpAny M A t Q' E s:=wpAny_mono h hQ λ_ _ x=>x
section
variable {X:Cx}
abbrev J9(i:Nat):TE:=fun σ H Q=>∃v,σ[i]?=some (some v)/\Q v H
abbrev tC(v:V):TE:=λ_ H Q=>Q v H
theorem vzb{i:Nat}{x:Str}{pos:Pos}(hN:X.N[i]?=some x)(hv:Vis X.env.scope x)(hd:(x==("__debug__":Str))=false:=by decide)(i7:(x==("__classdict__":Str))=false:=by decide):PE X (.Name x pos) (J9 i):=by
 intro pins s σ H Q I h;obtain⟨v,e,h⟩:=h;obtain⟨m,hn,hl⟩:=I.loc;obtain⟨u,r,l⟩:=hl i x v hN e hv;have fin:EP X pins σ Q u s:=⟨v,H,I,r,h⟩;rcases l with⟨hk,hm⟩|⟨hk,c,hc,hcell⟩
 ·exact wpAny_Name (wpAny_loadName_local I.ok.kind hk hn hm fin) hd
 ·rcases hk with hk|hk
  ·exact wpAny_Name (wpAny_loadName_cell I.ok.kind hk hc hcell fin) hd
  ·exact wpAny_Name (wpAny_loadName_free I.ok.kind hk hc hcell fin i7) hd
theorem vjx{i j pos}:PE X (.Constant (.int i) j pos) (tC (.int i)):=λ_ _ _ H _ I h=>wpAny_Constant_int ⟨.int i,H,I.tok _,⟨_,rfl⟩,h⟩
theorem Zj{b j pos}:PE X (.Constant (.bool b) j pos) (tC (.bl b)):=λ_ _ _ H _ I h=>Constant_bool ⟨.bl b,H,I,rfl,h⟩
theorem vjw{j pos}:PE X (.Constant .none j pos) (tC .non):=λ_ _ _ H _ I h=>Constant_none ⟨.non,H,I,rfl,h⟩
theorem vjv{x j pos}:PE X (.Constant (.str x) j pos) (tC (.str x)):=λ_ _ _ H _ I h=>Calls.Constant_str ⟨.str x,H,I.tok _,⟨_,rfl⟩,h⟩
def Gl(X:Cx)(x:Str):Prop:=X.env.kindOf x=some .globalImplicit
theorem kv3{E:Value->Shared->Prop}{pins:List (Addr×Obj)}{s:Shared}{σ:St}{H:Hp}{x:Str}{u:Value}{pos:Pos}{Q:Value->Shared->Prop}(I:Inv X pins σ H s)(hg:Gl X x)(hm:X.mg x=some u)(h:Q u s)
  (hd:(x==("__debug__":Str))=false:=by decide):wpAny (model X.prog X.w) X.A (eval (.Name x pos) X.env) Q E s:=
 Calls.Name_function_global I.ok.kind hg (Calls.loadGlobal_global (by rw[I.ok.glob];exact I.mod.glob.keeps I.bk) hm h) hd
theorem Vw{E:Value->Shared->Prop}{pins:List (Addr×Obj)}{s:Shared}{σ:St}{H:Hp}{x:Str}{u:Value}{pos:Pos}{Q:Value->Shared->Prop}(I:Inv X pins σ H s)(hg:Gl X x)(hm:X.mg x=none)(hv:bootBuiltins x=some u)(h:Q u s)
  (hn:x≠"__name__":=by decide) (hd:(x==("__debug__":Str))=false:=by decide):wpAny (model X.prog X.w) X.A (eval (.Name x pos) X.env) Q E s:=by
 obtain⟨mb,h1,h2⟩:=I.mod.blt;exact Calls.Name_function_global I.ok.kind hg (Calls.loadGlobal_builtin (by rw[I.ok.glob];exact I.mod.glob.keeps I.bk) hm (by rw[I.ok.blt];exact h1.keeps I.bk) ((h2 x hn).trans hv) h) hd
theorem vv0{x:Str}{v:V}{u:Value}{pos:Pos}(hg:Gl X x)(hm:X.mg x=none)(hv:bootBuiltins x=some u)(r:RelV v u)(hn:x≠"__name__":=by decide)(hd:(x==("__debug__":Str))=false:=by decide):PE X (.Name x pos) (tC v):=
 λ_ _ _ H _ I h=>Vw I hg hm hv ⟨v,H,I,r,h⟩ hn hd
variable {a b:Expr}{ta tb:TE}{pos:Pos}
variable {tA tB':TT}{rest:List Expr}
abbrev tAnd(t u:TT):TT:=fun σ H Q=>t σ H λc H1=>if c=true then u σ H1 Q else Q false H1
abbrev tOr(t u:TT):TT:=fun σ H Q=>t σ H λc H1=>if c=true then Q true H1 else u σ H1 Q
abbrev tNot(t:TT):TT:=fun σ H Q=>t σ H λc H1=>Q (!c) H1
theorem vqj(ha:PT X a tA):PW X (.BoolOp .And [a] pos) tA:=by
 intro wh pins s σ H Q I h;refine isTrue_and (thn (ha pins s σ H Q I h) λc s1 e=>?_);cases c with
 |true=>exact isTrue_and_nil e
 |false=>exact e
theorem vz3(ha:PT X a tA):PW X (.BoolOp .Or [a] pos) tA:=by
 intro wh pins s σ H Q I h;refine isTrue_or (thn (ha pins s σ H Q I h) λc s1 e=>?_);cases c with
 |false=>exact isTrue_or_nil e
 |true=>exact e
theorem vz4(ha:PT X a tA)(hb:PW X (.BoolOp .And (b::rest) pos) tB'):PW X (.BoolOp .And (a::b::rest) pos) (tAnd tA tB'):=by
 intro wh pins s σ H Q I h;refine isTrue_and (thn (ha pins s σ H _ I h) λc s1 ⟨H1,I1,q1⟩=>?_);cases c with
 |true=>exact hb wh pins s1 σ H1 Q I1 q1
 |false=>exact⟨H1,I1,q1⟩
theorem wq2(ha:PT X a tA)(hb:PW X (.BoolOp .Or (b::rest) pos) tB'):PW X (.BoolOp .Or (a::b::rest) pos) (tOr tA tB'):=by
 intro wh pins s σ H Q I h;refine isTrue_or (thn (ha pins s σ H _ I h) λc s1 ⟨H1,I1,q1⟩=>?_);cases c with
 |true=>exact⟨H1,I1,q1⟩
 |false=>exact hb wh pins s1 σ H1 Q I1 q1
theorem vz5(ha:PT X a tA):PT X (.UnaryOp .Not a pos) (tNot tA):=by
 intro pins s σ H Q I h;exact isTrue_not (ha pins s σ H (λc H1=>Q (!c) H1) I h)
abbrev wkl(ta tb:TE):TE:=fun σ H Q=>ta σ H λx H1=>∃c,x=.bl c/\if c=true then tb σ H1 Q else Q (.bl false) H1
abbrev tOrV(ta tb:TE):TE:=fun σ H Q=>ta σ H λx H1=>∃c,x=.bl c/\if c=true then Q (.bl true) H1 else tb σ H1 Q
theorem vzd{op}{t:TE}(h:PE X a t):PE X (.BoolOp op [a] pos) t:=λpins s σ H Q I hw=>BoolOp_one (h pins s σ H Q I hw)
theorem vzi(ha:PE X a ta)(hb:PE X (.BoolOp .And (b::rest) pos) tb):PE X (.BoolOp .And (a::b::rest) pos) (wkl ta tb):=by
 intro pins s σ H Q I h;refine BoolOp_and (thn (ha pins s σ H _ I h) λv s1 ⟨x,H1,I1,r1,q1⟩=>?_);obtain⟨c,rfl,q1⟩:=q1;cases r1;refine wpAny_truthy_bool ?_;cases c with
 |true=>exact hb pins s1 σ H1 Q I1 q1
 |false=>exact⟨.bl false,H1,I1,rfl,q1⟩
theorem wq6(ha:PE X a ta)(hb:PE X (.BoolOp .Or (b::rest) pos) tb):PE X (.BoolOp .Or (a::b::rest) pos) (tOrV ta tb):=by
 intro pins s σ H Q I h;refine BoolOp_or (thn (ha pins s σ H _ I h) λv s1 ⟨x,H1,I1,r1,q1⟩=>?_);obtain⟨c,rfl,q1⟩:=q1;cases r1;refine wpAny_truthy_bool ?_;cases c with
 |false=>exact hb pins s1 σ H1 Q I1 q1
 |true=>exact⟨.bl true,H1,I1,rfl,q1⟩
abbrev tIf(t:TT)(ta tb:TE):TE:=fun σ H Q=>t σ H λc H1=>if c=true then ta σ H1 Q else tb σ H1 Q
theorem qzg{c:Expr}(hc:PT X c tA)(ha:PE X a ta)(hb:PE X b tb):PE X (.IfExp c a b pos) (tIf tA ta tb):=by
 intro pins s σ H Q I h;refine wpAny_IfExp (thn (hc pins s σ H _ I h) λd s1 ⟨H1,I1,q1⟩=>?_);cases d with
 |true=>exact ha pins s1 σ H1 Q I1 q1
 |false=>exact hb pins s1 σ H1 Q I1 q1
end
def SqL(K:PySem.W.Frag)(H:Hp)(a:Addr)(xs:List V):Prop:=
 Rd H a (.lst xs) \/
  ∃(o:Obj) (a9:Array Value) (n:Nat),K.lookup a=some o/\o.cls=.type "list"/\o.dict=none/\o.data=.seq a9 n/\a9.size<=sizeLine/\Vals xs a9.toList
def SqT(K:PySem.W.Frag)(H:Hp)(a:Addr)(xs:List V):Prop:=
 Rd H a (.tup xs) \/
  ∃(o:Obj) (a9:Array Value) (n:Nat),K.lookup a=some o/\o.cls=.type "tuple"/\o.dict=none/\o.data=.seq a9 n/\a9.size<=sizeLine/\Vals xs a9.toList
def absV:Value->Option V
 |.none=>some .non
 |.bool b=>some (.bl b)
 |.int i _=>some (.int i)
 |.str x _=>some (.str x)
 |.bytes b _=>some (.byt b)
 |.float b _=>some (.flt b)
 |.ref a=>some (.ref a)
 |.type n=>some (.ty n)
 |_=>none
theorem RelV.abs{x:V}{u:Value}(r:RelV x u):absV u=some x:=by
 cases x with
 |non=>cases r;rfl
 |bl _=>cases r;rfl
 |int _=>obtain⟨t,rfl⟩:=r;rfl
 |str _=>obtain⟨t,rfl⟩:=r;rfl
 |byt _=>obtain⟨t,rfl⟩:=r;rfl
 |flt _=>obtain⟨t,rfl⟩:=r;rfl
 |ref _=>cases r;rfl
 |ty _=>cases r;rfl
theorem RelV.inj{x y:V}{u:Value}(r:RelV x u)(q:RelV y u):x=y:=oq9 (r.abs.symm.trans q.abs)
theorem Vals.inj:∀{xs ys:List V} {us:List Value},Vals xs us->Vals ys us->xs=ys
 |_,_,_,.nil,.nil=>rfl
 |_,_,_,.cons r t,.cons r' t'=>by rw[r.inj r',Vals.inj t t']
section
variable {X:Cx}{pins:List (Addr×Obj)}{σ:St}{H:Hp}{s:Shared}{a:Addr}{xs ys:List V}
theorem SqL.of{K:PySem.W.Frag}(h:H a=some (.lst xs)):SqL K H a xs:=.inl (.inl h)
theorem SqT.of{K:PySem.W.Frag}(h:H a=some (.tup xs)):SqT K H a xs:=.inl (.inl h)
theorem Inv.list(I:Inv X pins σ H s)(h:SqL X.K H a xs):∃a9:List Value,Vals xs a9/\PlainL s.heap a a9.toArray/\xs.length<=sizeLine:=by
 rcases h with h|⟨o,a9,n,hk,hc,hd,hs,hz,r⟩
 ·obtain⟨z,a9,n,r,e⟩:=h.ok I.hok;exact⟨a9,r,⟨_,n,e,rfl,rfl,rfl⟩,z⟩
 ·refine⟨a9.toList,r,⟨o,n,I.kIn a o hk,hc,hd,by simpa using hs⟩,?_⟩;have e:=r.length;simp only[Y6]at e;omega
theorem Inv.tuple(I:Inv X pins σ H s)(h:SqT X.K H a xs):∃a9:List Value,Vals xs a9/\IsTup s.heap a a9.toArray/\xs.length<=sizeLine:=by
 rcases h with h|⟨o,a9,n,hk,hc,_,hs,hz,r⟩
 ·obtain⟨z,a9,r,p⟩:=h.ok I.hok;exact⟨a9,r,p.tup,z⟩
 ·refine⟨a9.toList,r,⟨o,I.kIn a o hk,hc,n,by simpa using hs⟩,?_⟩;have e:=r.length;simp only[Y6]at e;omega
theorem Inv.tupleD(I:Inv X pins σ H s)(h:SqT X.K H a xs):∃o,s.heap.get? a=some o/\o.dict=none:=by
 rcases h with h|⟨o,a9,n,hk,hc,hd,hs,hz,r⟩
 ·obtain⟨z,a9,r,o,e,_,d,_⟩:=h.ok I.hok;exact⟨o,e,d⟩
 ·exact⟨o,I.kIn a o hk,hd⟩
theorem Inv.list_inj(I:Inv X pins σ H s)(h:SqL X.K H a xs)(h':SqL X.K H a ys):xs=ys:=by
 obtain⟨a9,r,⟨o,n,e,_,_,d⟩,_⟩:=I.list h;obtain⟨its',r',⟨o',n',e',_,_,d'⟩,_⟩:=I.list h';rw[e]at e';cases e';rw[d]at d';injection d' with d1 _;have:a9=its':=by simpa using congrArg Array.toList d1
 subst this;exact r.inj r'
theorem Inv.tuple_inj(I:Inv X pins σ H s)(h:SqT X.K H a xs)(h':SqT X.K H a ys):xs=ys:=by
 obtain⟨a9,r,⟨o,e,_,n,d⟩,_⟩:=I.tuple h;obtain⟨its',r',⟨o',e',_,n',d'⟩,_⟩:=I.tuple h';rw[e]at e';cases e';rw[d]at d';injection d' with d1 _;have:a9=its':=by simpa using congrArg Array.toList d1
 subst this;exact r.inj r'
end
abbrev Cx.wish(X:Cx)(E:Value->Shared->Prop):Cx:={ X with xe:=E }
abbrev Cx.nox(X:Cx):Cx:=X.wish λ_ _=>False
theorem Cx.Ok.wish{X:Cx}(ok:X.Ok)(E:Value->Shared->Prop):(X.wish E).Ok:=
 ⟨ok.mod,ok.kind,ok.glob,ok.blt,ok.above,ok.inj,ok.has,ok.cab,ok.hd,ok.frames,ok.stk,ok.exf,ok.bs,ok.bsz,ok.noex,ok.exfs,ok.funs,ok.frf⟩
theorem Cx.Ok.unwish{X:Cx}{E:Value->Shared->Prop}(ok:(X.wish E).Ok):X.Ok:=
 ⟨ok.mod,ok.kind,ok.glob,ok.blt,ok.above,ok.inj,ok.has,ok.cab,ok.hd,ok.frames,ok.stk,ok.exf,ok.bs,ok.bsz,ok.noex,ok.exfs,ok.funs,ok.frf⟩
section
variable {X:Cx}{pins:List (Addr×Obj)}{σ:St}{H:Hp}{s:Shared}{E:Value->Shared->Prop}
theorem Inv.wish(I:Inv X pins σ H s)(E:Value->Shared->Prop):Inv (X.wish E) pins σ H s:=⟨I.ok.wish E,I.os,I.bare,I.base,I.loc,I.cell,I.free,I.freeC,I.pin,I.hok,I.len⟩
theorem Inv.unwish(I:Inv (X.wish E) pins σ H s):Inv X pins σ H s:=⟨I.ok.unwish,I.os,I.bare,I.base,I.loc,I.cell,I.free,I.freeC,I.pin,I.hok,I.len⟩
theorem SP.unwish{D:Ends}{f:Flow}{s':Shared}(h:SP (X.wish E) pins D f s'):SP X pins D f s':=by
 cases f with
 |next=>obtain⟨σ',H',I,q⟩:=h;exact⟨σ',H',I.unwish,q⟩
 |brk=>obtain⟨σ',H',I,q⟩:=h;exact⟨σ',H',I.unwish,q⟩
 |cont=>obtain⟨σ',H',I,q⟩:=h;exact⟨σ',H',I.unwish,q⟩
 |ret u=>obtain⟨v,σ',H',I,r,q⟩:=h;exact⟨v,σ',H',I.unwish,r,q⟩
end
section
variable {X:Cx}{st:Stmt}{rest:List Stmt}{t u:TS}{e:Expr}{te:TE}{pos:Pos}
abbrev wki:TS:=λD σ H=>D.nx σ H
abbrev tSeq(t u:TS):TS:=λD σ H=>t { D with nx:=u D } σ H
theorem vqo:PSs X [] wki:=λ_ _ σ H _ I h=>wpAny_execs_nil ⟨σ,H,I,h⟩
theorem qz8(h1:PS X st t)(h2:PSs X rest u):PSs X (st::rest) (tSeq t u):=by
 intro pins s σ H D I h;refine wpAny_execs_cons (thn (h1 pins s σ H { D with nx:=u D } I h) λf s1 q=>?_);cases f with
 |next=>
  obtain⟨σ',H',I',q⟩:=q;exact h2 pins s1 σ' H' D I' q
 |ret v=>exact q
 |brk=>exact q
 |cont=>exact q
theorem kxk(h1:PS X st t):PSs X [st] t:=by
 intro pins s σ H D I h;refine wpAny_execs_cons (thn (h1 pins s σ H D I h) λf s1 q=>?_);cases f with
 |next=>exact wpAny_execs_nil q
 |ret v=>exact q
 |brk=>exact q
 |cont=>exact q
abbrev wkk:TS:=λD σ H=>D.ct σ H
theorem kxl:PS X (.Continue pos) wkk:=λ_ _ σ H _ I h=>wpAny_Continue ⟨σ,H,I,h⟩
theorem Inv.quiet{pins:List (Addr×Obj)}{σ:St}{H:Hp}{s:Shared}(I:Inv X pins σ H s):interactive X.env=false:=by simp[interactive,I.ok.kind]
abbrev vx6(te:TE):TS:=λD σ H=>te σ H λ_ H1=>D.nx σ H1
theorem kja(he:PE X e te)(hs:swapsWith e none pos.line X.env=pure false:=by rfl):PS X (.Expr e pos) (vx6 te):=by
 intro pins s σ H D I h;exact wpAny_Expr_any (thn (he pins s σ H _ I h) λv s1 ⟨x,H1,I1,r1,q1⟩=>⟨σ,H1,I1,q1⟩) I.quiet hs
abbrev tRet(te:TE):TS:=λD σ H=>te σ H D.rt
theorem vz7(he:PE X e te):PS X (.Return (some e) pos) (tRet te):=by
 intro pins s σ H D I h;exact wpAny_Return_some (thn (he pins s σ H _ I h) λv s1 ⟨x,H1,I1,r1,q1⟩=>⟨x,σ,H1,I1,r1,q1⟩)
abbrev tIfS(c:TT)(t u:TS):TS:=λD σ H=>c σ H λb H1=>if b=true then t D σ H1 else u D σ H1
theorem wq3{c:Expr}{a b:List Stmt}{tc:TT}(hc:PT X c tc)(ha:PSs X a t)(hb:PSs X b u):PS X (.If c a b pos) (tIfS tc t u):=by
 intro pins s σ H D I h;refine wpAny_If (thn (hc pins s σ H _ I h) λd s1 ⟨H1,I1,q1⟩=>?_);cases d with
 |true=>exact ha pins s1 σ H1 D I1 q1
 |false=>exact hb pins s1 σ H1 D I1 q1
end
abbrev TG:=V->St->Hp->(St->Hp->Prop)->Prop
abbrev TGs:=List V->St->Hp->(St->Hp->Prop)->Prop
def PG(X:Cx)(cz:Expr)(t:TG):Prop:=
 ∀(pins:List (Addr×Obj)) (s:Shared) (σ:St) (H:Hp) (v:V) (u:Value) (Q:St->Hp->Prop),Inv X pins σ H s->RelV v u->t v σ H Q ->
  wpAny (model X.prog X.w) X.A (assign cz X.env u) (λ_ s'=>∃ σ' H',Inv X pins σ' H' s'/\Q σ' H') X.xe s
def PGs(X:Cx)(ts:List Expr)(t:TGs):Prop:=
 ∀(pins:List (Addr×Obj)) (s:Shared) (σ:St) (H:Hp) (vs:List V) (us:List Value) (Q:St->Hp->Prop),Inv X pins σ H s->Vals vs us->t vs σ H Q ->
  wpAny (model X.prog X.w) X.A (assignInOrder ((assignEach ts X.env).map (·.2)) us) (λ_ s'=>∃ σ' H',Inv X pins σ' H' s'/\Q σ' H') X.xe s
section
variable {X:Cx}{pos:Pos}
abbrev W3(i:Nat):TG:=λv σ H Q=>Q (σ.set i (some v)) H
theorem JK{i:Nat}{x:Str}(hN:X.N.Nodup)(hi:X.N[i]?=some x)(hx:Loc X.env.scope x)(hf:X.fn x=true\/X.env.scope.names.lookup x=some .local:=by first|exact .inl rfl|exact .inr rfl|assumption):PG X (.Name x pos) (W3 i):=by
 intro pins s σ H v u Q I r h;exact wpAny_assign_Name (kqi I hN hi hx r (λs' I'=>⟨_,H,I',h⟩) hf)
abbrev ww2:TGs:=λvs σ H Q=>vs=[]/\Q σ H
abbrev wjj(t:TG)(u:TGs):TGs:=λvs σ H Q=>∃v r,vs=v::r/\t v σ H fun σ' H'=>u r σ' H' Q
theorem kqq:PGs X [] ww2:=by
 intro pins s σ H vs us Q I r h;obtain⟨e,h⟩:=h;subst e;cases r;exact assignInOrder_nil ⟨σ,H,I,h⟩
theorem K3{e:Expr}{es:List Expr}{t:TG}{u:TGs}(h1:PG X e t)(h2:PGs X es u)
  (hs:(assignEach (e::es) X.env).map (·.2)=assign e X.env::(assignEach es X.env).map (·.2):=by rfl):PGs X (e::es) (wjj t u):=by
 intro pins s σ H vs us Q I r h;obtain⟨v,vr,e1,h⟩:=h;subst e1;cases r with
 |cons r rr=>
  rw[hs];refine assignInOrder_cons (thn (h1 pins s σ H _ _ _ I r h) λ_ s1 ⟨σ1,H1,I1,q1⟩=>?_);exact h2 pins s1 σ1 H1 _ _ Q I1 rr q1
abbrev wvd(te:TE)(g:TG):TS:=λD σ H=>te σ H λx H1=>g x σ H1 D.nx
theorem vz8{tg e:Expr}{te:TE}{g:TG}(he:PE X e te)(hg:PG X tg g)(hs:swapsWithSole [tg] e pos.line X.env=pure false:=by rfl)(hw:swappedStores [tg] e X.env=pure none:=by rfl)
  (h1:(assignEach [tg] X.env).map (·.2)=[assign tg X.env]:=by rfl):PS X (.Assign [tg] e pos) (wvd te g):=by
 intro pins s σ H D I h;refine wpAny_Assign_stores (thn (he pins s σ H _ I h) λv s1 ⟨x,H1,I1,r1,q1⟩=>?_) hs hw;rw[h1];exact thn (hg pins s1 σ H1 x v _ I1 r1 q1) λ_ s2 q=>q
theorem vz6{i:Nat}{x:Str}{e:Expr}{te:TE}{cw:Pos}(hN:X.N.Nodup)(hi:X.N[i]?=some x)(hx:Loc X.env.scope x)(he:PE X e te)(hs:swapsWith e (some (.Name x cw)) pos.line X.env=pure false:=by rfl)(hf:X.fn x=true\/X.env.scope.names.lookup x=some .local:=by first|exact .inl rfl|exact .inr rfl|assumption):
  PS X (.Assign [.Name x cw] e pos) (wvd te (W3 i)):=by
 intro pins s σ H D I h;refine wpAny_Assign_Name (thn (he pins s σ H _ I h) λv s1 ⟨y,H1,I1,r1,q1⟩=>?_) hs;exact kqi I1 hN hi hx r1 (λs2 I2=>⟨_,H1,I2,q1⟩) hf
end
section
variable {X:Cx}{pos:Pos}
abbrev vx2(c:TT)(tb:TS):TS:=λD σ H=>∃W:Nat->St->Hp->Prop,(∃m,W m σ H)/\∀m σ H,W m σ H ->
 c σ H λb H1=>if b=true then ∃N:St->Hp->Prop,(∀ σ' H',N σ' H'->∃m',m'<m/\W m' σ' H')/\tb { D with nx:=N,ct:=N,bk:=D.nx } σ H1 else D.nx σ H1
theorem qz9{c:Expr}{body:List Stmt}{tc:TT}{tb:TS}(hp:PassesOwn (model X.prog X.w) X.A X.env X.xe)(hc:PT X c tc)(hb:PSs X body tb):PS X (.While c body [] pos) (vx2 tc tb):=by
 intro pins s σ H D I h;obtain⟨W,⟨m0,w0⟩,dw⟩:=h;refine wpAny_While (codeAny_whileLoop (λn s'=>∃ σ' H',Inv X pins σ' H' s'/\W n σ' H') ?_ m0 ⟨σ,H,I,w0⟩);rintro n s1 ⟨σ1,H1,I1,w1⟩;refine Yr hp (thn (hc pins s1 σ1 H1 _ I1 (dw n σ1 H1 w1)) λb s2 ⟨H2,I2,q2⟩=>?_);cases b with
 | true=>
  obtain⟨N,hN,q2⟩:=q2;rw[Xb rfl];refine Yr hp (thn (hb pins s2 σ1 H2 _ I2 q2) λf s3 q3=>?_);cases f with
  |next=>
   obtain⟨σ3,H3,I3,n3⟩:=q3;obtain⟨m',hm,w3⟩:=hN σ3 H3 n3;exact⟨m',hm,σ3,H3,I3,w3⟩
  |cont=>
   obtain⟨σ3,H3,I3,n3⟩:=q3;obtain⟨m',hm,w3⟩:=hN σ3 H3 n3;exact⟨m',hm,σ3,H3,I3,w3⟩
  |brk=>exact q3
  |ret v=>exact q3
 |false=>
  rw[Xe Bool.false_ne_true];exact wpAny_execs_nil ⟨σ1,H2,I2,q2⟩
end
structure It where
 go:Nat->Hp->Prop
 yld:Nat->Hp->V->Hp->Prop
 stop:Nat->Hp->Prop
def wq(X:Cx)(pins:List (Addr×Obj))(H:Hp)(b:Addr):Prop:=
 H b=none/\b≠X.env.locals/\b∉X.fs/\(b∈X.ex\/X.s₀.heap.objs.size<=b)/\(∀x c,X.env.cells.lookup x=some c->c≠b)/\∀p∈X.pn++pins,p.1≠b
theorem Inv.fpOk{X:Cx}{pins:List (Addr×Obj)}{σ:St}{H H':Hp}{s:Shared}{b:Addr}(I:Inv X pins σ H s)(hb:s.heap.objs.size<=b)(hn:H' b=none):wq X pins H' b:=by
 refine⟨hn,Nat.ne_of_gt (Xg I.lt hb),I.nofs hb,.inr (Y0 I.sz hb),λx c e z=>?_,λp hp z=>?_⟩
 ·obtain⟨v,q⟩:=I.cell x c e;exact absurd (Xg q.lt (by rw[z];exact hb)) (Yj _)
 ·exact absurd (Xg (Xf (I.pin p hp).1) (by rw[z];exact hb)) (Yj _)
structure Turn (P:Program)(w:World)(K:PySem.W.Frag)(tg:Expr)(J:It)(fp:List Addr)(it:Addr)(tn:Nat->Heap->Prop):Prop where
 mem:it∈fp
 obj:∀i h,tn i h->∀b∈fp,∃o,h.get? b=some o/\∀v,o.data≠.cell v
 keep:∀i h h',tn i h->(∀b∈fp,∀o,h.get? b=some o->h'.get? b=some o)->tn i h'
 item:∀(X:Cx),X.prog=P->X.w=w->X.K=K->X.calm=true->∀(i:Nat) (pins:List (Addr×Obj)) (s:Shared) (σ:St) (H:Hp) (E:Value->Shared->Prop),Inv X pins σ H s->(∀b∈fp,wq X pins H b)->tn i s.heap->J.go i H ->
  wpAny (model P w) X.A (pyNext (.ref it)) (λr s1=>∃u,r=some u /\
   wpAny (model P w) X.A (letOwnedTupleGo tg (.ref it) u) (λ_ s2=>∃x H',Inv X pins σ H' s2/\RelV x u/\J.yld i H x H'/\tn (i+1) s2.heap/\∀b∈fp,H' b=none) E s1) E s
 done:∀(X:Cx),X.prog=P->X.w=w->X.K=K->X.calm=true->∀(i:Nat) (pins:List (Addr×Obj)) (s:Shared) (σ:St) (H:Hp) (E:Value->Shared->Prop),Inv X pins σ H s->(∀b∈fp,wq X pins H b)->tn i s.heap->J.stop i H ->
  wpAny (model P w) X.A (pyNext (.ref it)) (λr s1=>r=none/\Inv X pins σ H s1) E s
 self:∀(A:Around) (i:Nat) (s:Shared) (Q:Value->Shared->Prop) (E:Value->Shared->Prop),tn i s.heap->Q (.ref it) s->wpAny (model P w) A (pyIter (.ref it)) Q E s
abbrev TI:=St->Hp->(It->Hp->Prop)->Prop
def PIE(X:Cx)(pins:List (Addr×Obj))(σ:St)(tg:Expr)(R:It->Hp->Prop)(itv:Value)(s2:Shared):Prop:=
 ∃(it:Addr) (fp:List Addr) (tn:Nat->Heap->Prop) (J:It) (H':Hp),itv=.ref it/\Inv X pins σ H' s2/\Turn X.prog X.w X.K tg J fp it tn/\tn 0 s2.heap/\(∀b∈fp,wq X pins H' b)/\R J H'
def PI(X:Cx)(tg iter:Expr)(wi:TI):Prop:=
 ∀(pins:List (Addr×Obj)) (s:Shared) (σ:St) (H:Hp) (R:It->Hp->Prop),Inv X pins σ H s->wi σ H R ->
  wpAny (model X.prog X.w) X.A (eval iter X.env) (λv s1=>wpAny (model X.prog X.w) X.A (pyIter v) (PIE X pins σ tg R) X.xe s1) X.xe s
theorem vj1 {M : Model} {A : Around} {E : Value -> Shared -> Prop} {s : Shared} {tg : Expr} {it : Addr} {u : Value} {o : Obj} {n : String} {vs : Array Value} {Q : Unit -> Shared -> Prop} (ho : s.heap.get? it = some o) (hc : o.cls = .type n) (hd : o.data = .fields vs)
    (hn : ["enumerate", "zip", "dict_itemiterator", "dict_reverseitemiterator", "odict_iterator", "itertools.zip_longest", "itertools.pairwise"].contains n = false) (hQ : Q () s): wpAny M A (letOwnedTupleGo tg (.ref it) u) Q E s:= by
  unfold letOwnedTupleGo;cases tg <;> first
    |exact X4 hQ
    |(cases u <;> first
        |exact X4 hQ
        | (refine X0 (wpAny_load ho ?_)
           rw[hc, hd];show wpAny M A (if(["enumerate", "zip", "dict_itemiterator", "dict_reverseitemiterator", "odict_iterator", "itertools.zip_longest", "itertools.pairwise"].contains n&&vs[0]? == some (rawInt _)) = true then _ else _) Q E s;rw[Xe (by intro h; rw[hn, Bool.false_and]at h; cases h)];exact X4 hQ))
def Itl(K:PySem.W.Frag)(a:Addr):It:=
 ⟨λi H=>∃xs x,SqL K H a xs/\xs[i]?=some x,λi H x H'=>H'=H/\∀xs,SqL K H a xs->xs[i]?=some x,λi H=>∃xs,SqL K H a xs/\xs.length<=i⟩
def Itt(K:PySem.W.Frag)(a:Addr):It:=
 ⟨λi H=>∃xs x,SqT K H a xs/\xs[i]?=some x,λi H x H'=>H'=H/\∀xs,SqT K H a xs->xs[i]?=some x,λi H=>∃xs,SqT K H a xs/\xs.length<=i⟩
def Itr(lo:Int)(n:Nat):It:=⟨λi _=>i<n,λi H x H'=>H'=H/\x=.int (lo+i),λi _=>n<=i⟩
theorem kvq{P:Program}{w:World}{K:PySem.W.Frag}{tg:Expr}(a it:Addr):Turn P w K tg (Itl K a) [it] it (λi h=>h.IsListIter it a i) where
 mem:=by simp
 obj:=λi h st b hb=>by
  have e:b=it:=by simpa using hb
  subst e;obtain⟨o,e,c,d⟩:=st;exact⟨o,e,λv z=>by rw[d]at z;cases z⟩
 keep:=λi h h' st k=>st.at λo e=>k it (by simp) o e
 item:=by
  intro X hP hw hK hc i pins s σ H E I hf st hg;subst hP hw hK;obtain⟨xs,x,hq,hx⟩:=hg;obtain⟨a9,rv,p,hz⟩:=I.list hq;obtain⟨u,hu,ru⟩:=rv.get hx;obtain⟨f0,f1,f2,f3,f4,f5⟩:=hf it (by simp);refine wpAny_pyNext_list_item st p.isList (x:=u) (by simpa using hu) λh' df sb=>?_
  have I1:Inv X pins σ H { s with heap:=h' }:=I.turned (t':=s.toks) (λb o hb e=>(sb.2 b hb).trans e) f0 f1 f3 f4 f5;obtain⟨o,e,c,d⟩:=id df;exact⟨u,rfl,vj1 (s:={ s with heap:=h' }) e c d (by decide) ⟨x,H,I1,ru,⟨rfl,λys hy=>by rw[I.list_inj hy hq];exact hx⟩,df,λb hb=>(hf b hb).1⟩⟩
 done:=by
  intro X hP hw hK hc i pins s σ H E I hf st hg;subst hP hw hK;obtain⟨xs,hq,hx⟩:=hg;obtain⟨a9,rv,p,hz⟩:=I.list hq;obtain⟨f0,f1,f2,f3,f4,f5⟩:=hf it (by simp);have hl:=rv.length;exact wpAny_pyNext_list_end (I.ok.hd hc) st p.isList (by simp;omega) λh' eb=>⟨rfl,I.turned (t':=s.toks) (λb o hb e=>eb b o hb e) f0 f1 f3 f4 f5⟩
 self:=λ_ _ _ _ _ st h=>wpAny_pyIter_listiter st h
theorem qk4{P:Program}{w:World}{K:PySem.W.Frag}{tg:Expr}(a it:Addr):Turn P w K tg (Itt K a) [it] it (λi h=>h.IsTupleIter it a i) where
 mem:=by simp
 obj:=λi h st b hb=>by
  have e:b=it:=by simpa using hb
  subst e;obtain⟨o,e,c,d⟩:=st;exact⟨o,e,λv z=>by rw[d]at z;cases z⟩
 keep:=λi h h' st k=>st.at λo e=>k it (by simp) o e
 item:=by
  intro X hP hw hK hc i pins s σ H E I hf st hg;subst hP hw hK;obtain⟨xs,x,hq,hx⟩:=hg;obtain⟨a9,rv,p,hz⟩:=I.tuple hq;obtain⟨u,hu,ru⟩:=rv.get hx;obtain⟨f0,f1,f2,f3,f4,f5⟩:=hf it (by simp);refine wpAny_pyNext_tuple_item st (show s.heap.IsTuple a a9.toArray from p) (x:=u) (by simpa using hu) λh' df sb=>?_
  have I1:Inv X pins σ H { s with heap:=h' }:=I.turned (t':=s.toks) (λb o hb e=>(sb.2 b hb).trans e) f0 f1 f3 f4 f5;obtain⟨o,e,c,d⟩:=id df;exact⟨u,rfl,vj1 (s:={ s with heap:=h' }) e c d (by decide) ⟨x,H,I1,ru,⟨rfl,λys hy=>by rw[I.tuple_inj hy hq];exact hx⟩,df,λb hb=>(hf b hb).1⟩⟩
 done:=by
  intro X hP hw hK hc i pins s σ H E I hf st hg;subst hP hw hK;obtain⟨xs,hq,hx⟩:=hg;obtain⟨a9,rv,p,hz⟩:=I.tuple hq;obtain⟨f0,f1,f2,f3,f4,f5⟩:=hf it (by simp);have hl:=rv.length;exact wpAny_pyNext_tuple_end (I.ok.hd hc) st (show s.heap.IsTuple a a9.toArray from p) (by simp;omega) λh' eb=>⟨rfl,I.turned (t':=s.toks) (λb o hb e=>eb b o hb e) f0 f1 f3 f4 f5⟩
 self:=λ_ _ _ _ _ st h=>wpAny_pyIter_tupleiter st h
theorem qk5{P:Program}{w:World}{K:PySem.W.Frag}{tg:Expr}(it:Addr)(lo:Int)(n:Nat):Turn P w K tg (Itr lo n) [it] it (λi h=>IsRangeIter h it (lo+(i:Nat)*1) ((n:Int) - (i:Nat)) 1) where
 mem:=by simp
 obj:=λi h st b hb=>by
  have e:b=it:=by simpa using hb
  subst e;exact⟨_,st,λv z=>by
   have z':Data.fields _=Data.cell v:=z;cases z'⟩
 keep:=λi h h' st k=>k it (by simp) _ st
 item:=by
  intro X hP hw hK hc i pins s σ H E I hf st hg;subst hP hw hK;obtain⟨f0,f1,f2,f3,f4,f5⟩:=hf it (by simp);have W:=Walks.range (prog:=X.prog) (w:=X.w) (I.ok.hd hc) it lo 1 n;refine W.item i s _ _ hg st λv h' tk hv df kk=>?_
  obtain⟨t,rfl⟩:=hv;have I1:Inv X pins σ H { s with heap:=h',toks:=tk }:=I.turned (λb o hb e=>kk b o (by simpa using hb) e) f0 f1 f3 f4 f5;refine⟨_,rfl,vj1 (s:={ s with heap:=h',toks:=tk }) (n:="range_iterator") df rfl rfl (by decide) ⟨.int (lo+i),H,I1,⟨t,?_⟩,⟨rfl,rfl⟩,df,λb hb=>(hf b hb).1⟩⟩;rw[Int.mul_one]
 done:=by
  intro X hP hw hK hc i pins s σ H E I hf st hg;subst hP hw hK;obtain⟨f0,f1,f2,f3,f4,f5⟩:=hf it (by simp);exact wpAny_pyNext_range_end (I.ok.hd hc) st (by have:n<=i:=hg;omega) λh' eb=>⟨rfl,I.turned (t':=s.toks) (λb o hb e=>eb b o hb e) f0 f1 f3 f4 f5⟩
 self:=λ_ _ _ _ _ st h=>wpAny_pyIter_rangeiter st h
section
variable {X:Cx}{tg:Expr}
abbrev wqm(K:PySem.W.Frag)(tl:TE):TI:=fun σ H R=>tl σ H λx H1=>∃a,x=.ref a/\(∃xs,SqL K H1 a xs)/\R (Itl K a) H1
theorem qv5{l:Expr}{tl:TE}(hl:PE X l tl):PI X tg l (wqm X.K tl):=by
 intro pins s σ H R I h;refine thn (hl pins s σ H _ I h) λv s1 ⟨x,H1,I1,r1,q1⟩=>?_
 obtain⟨a,e,⟨xs,hq⟩,q⟩:=q1;subst e;cases r1;obtain⟨a9,rv,p,hz⟩:=I1.list hq;refine wpAny_pyIter_list p.isList ?_;refine⟨s1.heap.objs.size,[s1.heap.objs.size],_,_,H1,rfl,I1.kept (t':=s1.toks) λb o e=>X9 _ e,kvq a _,⟨_,Xj _ rfl,rfl,rfl⟩,λb hb=>?_,q⟩;have e:b=s1.heap.objs.size:=by simpa using hb
 subst e;exact I1.fpOk (X8 _) (I1.hok.fresh (X8 _))
theorem qz2{pins:List (Addr×Obj)}{σ:St}{H:Hp}{s:Shared}{R:It->Hp->Prop}{E:Value->Shared->Prop}{lo hi:Int}{t u v:Tok}{tk:Nat}(I:Inv X pins σ H s)(h1:-(2 ^ 62)<=lo)(h2:lo<2 ^ 62)(h3:-(2 ^ 62)<=hi)(h4:hi<2 ^ 62)
  (q:R (Itr lo (hi - lo).toNat) H):wpAny (model X.prog X.w) X.A (pyIter (.ref s.heap.objs.size)) (PIE X pins σ tg R) E { s with heap:=s.heap.push { cls:=.type "range",data:=.fields #[.int lo t,.int hi u,.int 1 v] },toks:=tk }:=by
 refine wpAny_pyIter_range (IsRange.new ..) (small_one h1 h2 h3 h4) ?_;have I1:Inv X pins σ H { s with heap:=s.heap.push { cls:=.type "range",data:=.fields #[.int lo t,.int hi u,.int 1 v] },toks:=tk }:=I.kept λb o e=>X9 _ e
 refine⟨(s.heap.push { cls:=.type "range",data:=.fields #[.int lo t,.int hi u,.int 1 v] }).objs.size,[(s.heap.push { cls:=.type "range",data:=.fields #[.int lo t,.int hi u,.int 1 v] }).objs.size],_,_,H,rfl,
  I1.kept (t':=tk) λb o e=>X9 _ e,qk5 _ lo (hi - lo).toNat,?_,λb hb=>?_,q⟩
 ·have e1:lo+((0:Nat):Int)*1=lo:=by simp
  have e2:(((hi - lo).toNat:Nat):Int) - ((0:Nat):Int)=Builtin.Range.rangeSize lo hi 1:=by rw[rangeSize_one];split<;>omega
  show IsRangeIter _ _ (lo+((0:Nat):Int)*1) ((((hi - lo).toNat:Nat):Int) - ((0:Nat):Int)) 1;rw[e1,e2];exact Xj _ rfl
 ·have e:b=(s.heap.push { cls:=.type "range",data:=.fields #[.int lo t,.int hi u,.int 1 v] }).objs.size:=by simpa using hb
  subst e;exact I1.fpOk (X8 _) (I1.hok.fresh (X8 _))
abbrev wql(ta:TA):TI:=fun σ H R=>ta σ H λvs H1=>∃j:Int,vs=[.int j]/\-(2 ^ 62)<=j/\j<2 ^ 62/\R (Itr 0 j.toNat) H1
theorem qv4{a:Expr}{ta:TA}{p pos:Pos}(hg:Gl X "range")(hm:X.mg "range"=none)(ha:PA X [a] ta)(hs:starEach [a] X.env=[(false,eval a X.env)]:=by rfl):PI X tg (.Call (.Name "range" p) [a] [] pos) (wql ta):=by
 intro pins s σ H R I h;refine Call_ (Vw I hg hm boot_range (Ye (thn (ha pos pins s σ H _ I h) λus s1 ⟨vs,H1,I1,r1,q1⟩=>?_) hs rfl));obtain⟨j,e,q1,q2,q⟩:=q1;subst e;cases r1 with
 |cons r rr=>
  cases rr;obtain⟨t,rfl⟩:=r;exact call_range_1 (qz2 I1 (by omega) (by omega) q1 q2 (by simpa using q))
abbrev tFor(wi:TI)(g:TG)(tb:TS):TS:=λD σ H=>wi σ H λJ H1=>∃W:Nat->Nat->St->Hp->Prop,(∃m,W 0 m σ H1)/\∀i m σ H,W i m σ H ->
 (J.stop i H/\D.nx σ H)\/(J.go i H/\∃N:St->Hp->Prop,(∀ σ' H',N σ' H'->∃m',m'<m/\W (i+1) m' σ' H')/\∀x H',J.yld i H x H'->g x σ H' fun σ2 H2=>tb { D with nx:=N,ct:=N,bk:=D.nx } σ2 H2)
def KK(fp:List Addr)(h:Heap):List (Addr×Obj):=fp.filterMap λb=>(h.get? b).map λo=>(b,o)
theorem jz4{fp:List Addr}{h:Heap}{b:Addr}{o:Obj}(hb:b∈fp)(e:h.get? b=some o):(b,o)∈KK fp h:=List.mem_filterMap.mpr ⟨b,hb,by rw[e];rfl⟩
theorem kwc{fp:List Addr}{h:Heap}{p:Addr×Obj}(hp:p∈KK fp h):p.1∈fp/\h.get? p.1=some p.2:=by
 obtain⟨b,hb,e⟩:=List.mem_filterMap.mp hp;cases q:h.get? b with
 |none=>rw[q]at e;cases e
 |some o=>
  rw[q]at e;have e':(b,o)=p:=oq9 e;subst e';exact⟨hb,q⟩
theorem Inv.pinned{pins:List (Addr×Obj)}{σ:St}{H:Hp}{s:Shared}{fp:List Addr}(I:Inv X pins σ H s)(hf:∀b∈fp,wq X pins H b)(ho:∀b∈fp,∃o,s.heap.get? b=some o/\∀v,o.data≠.cell v):Inv X (pins++KK fp s.heap) σ H s:=
 I.pins_of λp hp=>(List.mem_append.mp hp).elim (λz=>I.pin p (lr9 _ z)) λz=>by
  obtain⟨hb,e⟩:=kwc z;obtain⟨f0,f1,f2,_⟩:=hf p.1 hb;obtain⟨o,e',d⟩:=ho p.1 hb;rw[e]at e';cases e';exact⟨e,f0,f1,f2,d⟩
theorem Inv.unpinned{pins pl:List (Addr×Obj)}{σ:St}{H:Hp}{s:Shared}(I:Inv X (pins++pl) σ H s):Inv X pins σ H s:=I.pins_of λp hp=>I.pin p (lr9 _ (ll9 _ hp))
theorem qv1{iter:Expr}{body:List Stmt}{wi:TI}{g:TG}{tb:TS}{pos:Pos}(hp:PassesOwn (model X.prog X.w) X.A X.env X.xe)(hc:X.calm=true)(hi:PI X tg iter wi)(hg:PG X tg g)(hb:PSs X body tb)
  (hs:∀x,foldedSetIterable iter X.env x=pure x:=by intro _;rfl):PS X (.For tg iter body [] pos) (tFor wi g tb):=by
 intro pins s σ H D I h;refine wpAny_For (thn (hi pins s σ H _ I h) λv s1 h1=>thn h1 λitv s2 h2=>?_) hs;obtain⟨it,fp,tn,J,H2,e,I2,T,bg,f2,W,⟨m0,w0⟩,dw⟩:=h2;subst e;have i8:∀{H':Hp},(∀b∈fp,H' b=none)->∀b∈fp,wq X pins H' b:=λhn b hb=>⟨hn b hb,(f2 b hb).2⟩
 refine codeAny_forLoop_any (λn s'=>∃i σ' H',Inv X pins σ' H' s'/\tn i s'.heap/\(∀b∈fp,H' b=none)/\W i n σ' H') ?_ m0 ⟨0,σ,H2,I2,bg,λb hb=>(f2 b hb).1,w0⟩;rintro n s3 ⟨i,σ3,H3,I3,cn,nu,w3⟩;rcases dw i n σ3 H3 w3 with⟨stop,qn⟩|⟨go,N,hN,step⟩
 ·refine Yr hp (thn (T.done X rfl rfl rfl hc i pins s3 σ3 H3 X.xe I3 (i8 nu) cn stop) λr s4 ⟨hr,I4⟩=>?_);subst hr;exact wpAny_execs_nil ⟨σ3,H3,I4,qn⟩
 ·refine Yr hp (thn (T.item X rfl rfl rfl hc i pins s3 σ3 H3 X.xe I3 (i8 nu) cn go) λr s4 ⟨u,hr,h4⟩=>?_);subst hr;refine Yr hp (thn h4 λ_ s5 ⟨x,H5,I5,r5,y5,st5,fr5⟩=>?_);have I5':=I5.pinned (i8 fr5) (T.obj _ _ st5);refine Yr hp (thn (hg _ s5 σ3 H5 x u _ I5' r5 (step x H5 y5)) λ_ s6 ⟨σ6,H6,I6,q6⟩=>?_);refine Yr hp (thn (hb _ s6 σ6 H6 _ I6 q6) λf s7 q7=>?_);have bi:∀{σ7:St} {H7:Hp},Inv X (pins++KK fp s5.heap) σ7 H7 s7->N σ7 H7->∃m,m<n/\∃i σ' H',Inv X pins σ' H' s7/\tn i s7.heap/\(∀b∈fp,H' b=none)/\W i m σ' H':=fun {σ7 H7} I7 n7=>by
   obtain⟨m',hm,w7⟩:=hN σ7 H7 n7;refine⟨m',hm,i+1,σ7,H7,I7.unpinned,T.keep _ _ _ st5 λb hb o e=>(I7.pin (b,o) (lr9 _ (lr9 _ (jz4 hb e)))).1,λb hb=>?_,w7⟩;obtain⟨o,e,d⟩:=T.obj _ _ st5 b hb;exact(I7.pin (b,o) (lr9 _ (lr9 _ (jz4 hb e)))).2.1
  cases f with
  |next=>obtain⟨σ7,H7,I7,n7⟩:=q7;exact bi I7 n7
  |cont=>obtain⟨σ7,H7,I7,n7⟩:=q7;exact bi I7 n7
  |brk=>obtain⟨σ7,H7,I7,q7⟩:=q7;exact⟨σ7,H7,I7.unpinned,q7⟩
  |ret v=>obtain⟨x7,σ7,H7,I7,r7,q7⟩:=q7;exact⟨x7,σ7,H7,I7.unpinned,r7,q7⟩
end
abbrev R2:=V->V->Hp->VK->Prop
def OpR(X:Cx)(f:Value->Value->Sem Value)(r:R2):Prop:=
 ∀(pins:List (Addr×Obj)) (s:Shared) (σ:St) (H:Hp) (x y:V) (v u:Value) (Q:VK),Inv X pins σ H s->RelV x v->RelV y u->r x y H Q ->
  wpAny (model X.prog X.w) X.A (f v u) (EP X pins σ Q) X.xe s
def CallR(X:Cx)(f:Value)(r:List V->Hp->VK->Prop):Prop:=
 ∀(pins:List (Addr×Obj)) (s:Shared) (σ:St) (H:Hp) (xs:List V) (us:List Value) (Q:VK),Inv X pins σ H s->Vals xs us->r xs H Q ->
  wpAny (model X.prog X.w) X.A (call f us) (EP X pins σ Q) X.xe s
def TruR(X:Cx)(r:V->Hp->(Bool->Hp->Prop)->Prop):Prop:=
 ∀(pins:List (Addr×Obj)) (s:Shared) (σ:St) (H:Hp) (x:V) (v:Value) (Q:Bool->Hp->Prop),Inv X pins σ H s->RelV x v->r x H Q ->
  wpAny (model X.prog X.w) X.A (truthy v) (TP X pins σ Q) X.xe s
abbrev tOp(r:R2)(ta tb:TE):TE:=fun σ H Q=>ta σ H λx H1=>tb σ H1 λy H2=>r x y H2 Q
abbrev tUn(r:V->Hp->VK->Prop)(ta:TE):TE:=fun σ H Q=>ta σ H λx H1=>r x H1 Q
def rI(C:Int->Int->Prop)(g:Int->Int->V):R2:=λx y H Q=>∃i j,x=.int i/\y=.int j/\C i j/\Q (g i j) H
def rI0(g:Int->Int->V):R2:=λx y H Q=>∃i j,x=.int i/\y=.int j/\Q (g i j) H
section
variable {X:Cx}{a b c:Expr}{ta tb tc:TE}{pos:Pos}
theorem wv3(ha:PE X a ta)(hb:PE X b tb){pins:List (Addr×Obj)}{s:Shared}{σ:St}{H:Hp}{R:V->V->Hp->Prop}(I:Inv X pins σ H s)
  (h:ta σ H λx H1=>tb σ H1 λy H2=>R x y H2) {Q:Value->Shared->Prop} {f:Value->Value->Sem Value}
  (hf:∀v u s2 x y H2,Inv X pins σ H2 s2->RelV x v->RelV y u->R x y H2->wpAny (model X.prog X.w) X.A (f v u) Q X.xe s2):
  wpAny (model X.prog X.w) X.A (eval a X.env) (λv s₁=>wpAny (model X.prog X.w) X.A (eval b X.env) (λu s₂=>wpAny (model X.prog X.w) X.A (f v u) Q X.xe s₂) X.xe s₁) X.xe s:=by
 refine thn (ha pins s σ H _ I h) λv s1 ⟨x,H1,I1,r1,q1⟩=>?_
 refine thn (hb pins s1 σ H1 _ I1 q1) λu s2 ⟨y,H2,I2,r2,q2⟩=>?_
 exact hf v u s2 x y H2 I2 r1 r2 q2
theorem wq7{op:Operator}{r:R2}(ho:OpR X (binaryOp op) r)(ha:PE X a ta)(hb:PE X b tb):PE X (.BinOp a op b pos) (tOp r ta tb):=by
 intro pins s σ H Q I h;exact wpAny_BinOp (wv3 ha hb I h λv u s2 x y H2 I2 rx ry q=>ho pins s2 σ H2 x y v u Q I2 rx ry q)
theorem opI{f:Value->Value->Sem Value}{C:Int->Int->Prop}{g:Int->Int->Int}
  (jc:∀(i j:Int) (t u:Tok) (s:Shared) (Q:Value->Shared->Prop) (E:Value->Shared->Prop),C i j->Q (.int (g i j) s.toks) { s with toks:=s.toks+1 }->wpAny (model X.prog X.w) X.A (f (.int i t) (.int j u)) Q E s):
  OpR X f (rI C λi j=>.int (g i j)):=by
 intro pins s σ H x y v u Q I rx ry h;obtain⟨i,j,rfl,rfl,hc,q⟩:=h;obtain⟨t,rfl⟩:=rx;obtain⟨t',rfl⟩:=ry;exact jc i j t t' s _ _ hc ⟨.int (g i j),H,I.tok _,⟨_,rfl⟩,q⟩
theorem opI0{f:Value->Value->Sem Value}{g:Int->Int->Int}
  (jc:∀(i j:Int) (t u:Tok) (s:Shared) (Q:Value->Shared->Prop) (E:Value->Shared->Prop),Q (.int (g i j) s.toks) { s with toks:=s.toks+1 }->wpAny (model X.prog X.w) X.A (f (.int i t) (.int j u)) Q E s):
  OpR X f (rI0 λi j=>.int (g i j)):=by
 intro pins s σ H x y v u Q I rx ry h;obtain⟨i,j,rfl,rfl,q⟩:=h;obtain⟨t,rfl⟩:=rx;obtain⟨t',rfl⟩:=ry;exact jc i j t t' s _ _ ⟨.int (g i j),H,I.tok _,⟨_,rfl⟩,q⟩
theorem wvu{f:Value->Value->Sem Value}{g:Int->Int->Bool}
  (jc:∀(i j:Int) (t u:Tok) (s:Shared) (Q:Value->Shared->Prop) (E:Value->Shared->Prop),Q (.bool (g i j)) s->wpAny (model X.prog X.w) X.A (f (.int i t) (.int j u)) Q E s):
  OpR X f (rI0 λi j=>.bl (g i j)):=by
 intro pins s σ H x y v u Q I rx ry h;obtain⟨i,j,rfl,rfl,q⟩:=h;obtain⟨t,rfl⟩:=rx;obtain⟨t',rfl⟩:=ry;exact jc i j t t' s _ _ ⟨.bl (g i j),H,I,rfl,q⟩
def ww6(i j:Int):Prop:=0<=j/\j<=1000000/\i.natAbs<2 ^ 64
theorem op_add:OpR X (binaryOp .Add) (rI0 λi j=>.int (i+j)):=opI0 λ_ _ _ _ _ _ _ q=>add_int q
theorem vzm:OpR X (binaryOp .Mod) (rI (λ_ j=>0<j) λi j=>.int (i % j)):=opI λi j _ _ _ _ _ hc q=>by
 have h1:(0:Int)<j:=hc;exact mod_int' (by omega) (by rw[Int.fmod_eq_emod_of_nonneg i (by omega)];exact q)
theorem vjy:OpR X (binaryOp .Pow) (rI ww6 λi j=>.int (i ^ j.toNat)):=opI λ_ _ _ _ _ _ _ hc q=>pow_int_small hc.1 hc.2.1 hc.2.2 q
end
section
variable {X:Cx}{a b c:Expr}{ta tb tc:TE}{pos:Pos}
theorem qjq{pins:List (Addr×Obj)}{σ:St}{H:Hp}{s:Shared}{Q:VK}{k k':Bool}(I:Inv X pins σ H s)(q:Q (.bl k) H)(e:k=k'):EP X pins σ Q (.bool k') s:=by
 subst e;exact⟨.bl k,H,I,rfl,q⟩
theorem vv6:OpR X (compareOp .Lt) (rI0 λi j=>.bl (decide (i<j))):=wvu λ_ _ _ _ _ _ _ q=>lt_int q
theorem WZ:OpR X (compareOp .Gt) (rI0 λi j=>.bl (decide (j<i))):=wvu λ_ _ _ _ _ _ _ q=>gt_int q
theorem qve:OpR X (compareOp .In) (λx y H Q=>∃i j,x=.str i/\y=.str j/\Q (.bl (!(Builtin.Str.occurrences j i 0 j.length 1).isEmpty)) H):=by
 intro pins s σ H x y v u Q I rx ry h;obtain⟨i,j,rfl,rfl,q⟩:=h;obtain⟨t,rfl⟩:=rx;obtain⟨t',rfl⟩:=ry;exact in_str (qjq I q rfl)
theorem XY : OpR X (compareOp .Is) (λx y H Q=>y = .non /\ Q (.bl (decide (x = .non))) H):= by
  intro pins s σ H x y v u Q I rx ry h;obtain⟨rfl, q⟩:= h;cases ry;refine is_none_gen (qjq I q ?_);cases x <;> first
    |(cases rx; rfl)
    |(obtain⟨t, rfl⟩:= rx; rfl)
theorem kxr : OpR X (compareOp .IsNot) (λx y H Q=>y = .non /\ Q (.bl (!decide (x = .non))) H):= by
  intro pins s σ H x y v u Q I rx ry h;obtain⟨rfl, q⟩:= h;cases ry;refine isnot_none_gen (qjq I q ?_);cases x <;> first
    |(cases rx; rfl)
    |(obtain⟨t, rfl⟩:= rx; rfl)
theorem OpR.or{f:Value->Value->Sem Value}{r r':R2}(h:OpR X f r)(h':OpR X f r'):OpR X f (λx y H Q=>r x y H Q\/r' x y H Q):=by
 intro pins s σ H x y v u Q I rx ry q;rcases q with q|q
 ·exact h pins s σ H x y v u Q I rx ry q
 ·exact h' pins s σ H x y v u Q I rx ry q
theorem kq(b:Expr){op:CmpOp}(h:op≠.In:=by decide)(h2:op≠.NotIn:=by decide):behindInMarks op b=false:=by
 have e1:(op==CmpOp.In)=false:=by cases op<;>first|rfl|exact absurd rfl h
 have e2:(op==CmpOp.NotIn)=false:=by cases op<;>first|rfl|exact absurd rfl h2
 cases b<;>simp[behindInMarks,e1,e2]
theorem vqy{op:CmpOp}{r:R2}(ho:OpR X (compareOp op) r)(ha:PE X a ta)(hb:PE X b tb)(hm:behindInMarks op b=false):PE X (.Compare a [op] [b] pos) (tOp r ta tb):=by
 intro pins s σ H Q I h;exact wpAny_Compare1 (wv3 ha hb I h λv u s2 x y H2 I2 rx ry q=>ho pins s2 σ H2 x y v u Q I2 rx ry q) hm
abbrev wkh(t:TE):TT:=fun σ H Q=>t σ H λx H'=>∃k,x=.bl k/\Q k H'
theorem vqn{op:CmpOp}{r:R2}(ho:OpR X (compareOp op) r)(ha:PE X a ta)(hb:PE X b tb)(hm:behindInMarks op b=false):PT X (.Compare a [op] [b] pos) (wkh (tOp r ta tb)):=by
 intro pins s σ H Q I h;refine wpAny_isTrue_Compare1 (thn (ha pins s σ H _ I h) λv s1 ⟨x,H1,I1,r1,q1⟩=>thn (hb pins s1 σ H1 _ I1 q1) λu s2 ⟨y,H2,I2,r2,q2⟩=>
  thn (ho pins s2 σ H2 x y v u _ I2 r1 r2 q2) λc s3 ⟨z,H3,I3,r3,k,e,q3⟩=>?_) hm
 subst e;cases r3;exact wpAny_truthy_bool ⟨H3,I3,q3⟩
def wv6(K:PySem.W.Frag)(x:V)(H:Hp)(k:Bool):Prop:=
 match x with
 |.non=>k=false
 |.bl b=>k=b
 |.int i=>k=(i != 0)
 |.str y=>y.length<=sizeLine/\k=((y.length:Int) != 0)
 |.byt y=>y.size<=sizeLine/\k=((y.size:Int) != 0)
 |.ref p=>(∃xs,SqL K H p xs/\k=!xs.isEmpty)\/(∃xs,SqT K H p xs/\k=!xs.isEmpty)\/∃kvs,H p=some (.dK kvs)/\k=!kvs.isEmpty
 |_=>False
theorem qkm{κ:Type}{kvs:List (κ×V)}{vs:List (κ×Value)}(r:KV kvs vs):(!vs.isEmpty)=!kvs.isEmpty:=by
 cases r<;>rfl
theorem kq2{xs:List V}{a9:List Value}(r:Vals xs a9):(!a9.toArray.isEmpty)=!xs.isEmpty:=by
 cases r<;>simp
theorem XV:(sizeLine:Nat)<2 ^ 63:=by rw[sizeLine_eq];decide
theorem vx1:TruR X (λx H Q=>∃k,wv6 X.K x H k/\Q k H):=by
 intro pins s σ H x v Q I rx h;obtain⟨k,e,q⟩:=h;have hl:=XV;have hs:sizeLine=16777216:=sizeLine_eq;cases x with
 | non=>
  cases rx;have e':k=false:=e;subst e';exact truthy_none ⟨H,I,q⟩
 | bl b=>
  cases rx;have e':k=b:=e;subst e';exact wpAny_truthy_bool ⟨H,I,q⟩
 | int i=>
  obtain⟨t,rfl⟩:=rx;have e':k=(i != 0):=e;subst e';exact PySem.P.truthy_int ⟨H,I,q⟩
 | str y=>
  obtain⟨t,rfl⟩:=rx;obtain⟨hy,e'⟩:y.length<=sizeLine/\k=((y.length:Int) != 0):=e;subst e';exact PySem.P.truthy_str (by omega) ⟨H,I.tok _,q⟩
 | byt y=>
  obtain⟨t,rfl⟩:=rx;obtain⟨hy,e'⟩:y.size<=sizeLine/\k=((y.size:Int) != 0):=e;subst e';exact PySem.W.truthy_bytes (by omega) ⟨H,I.tok _,q⟩
 | ref p=>
  cases rx;have e':(∃xs,SqL X.K H p xs/\k=!xs.isEmpty)\/(∃xs,SqT X.K H p xs/\k=!xs.isEmpty)\/∃kvs,H p=some (.dK kvs)/\k=!kvs.isEmpty:=e;rcases e' with⟨xs,hx,e'⟩|⟨xs,hx,e'⟩|⟨kvs,hx,e'⟩
  ·subst e';obtain⟨a9,r,pl,hz⟩:=I.list hx;have ae:=r.length;exact wpAny_truthy_list pl.isList (by simp only[X7];omega) ⟨H,I.tok _,by rw[kq2 r];exact q⟩
  ·subst e';obtain⟨a9,r,pl,hz⟩:=I.tuple hx;have ae:=r.length;exact truthy_tuple pl (by simp only[X7];omega) ⟨H,I.tok _,by rw[kq2 r];exact q⟩
  ·subst e';obtain⟨hz,hS,vs,r,m⟩:kvs.length<=sizeLine/\(p==sysModules)=false/\∃vs,KV kvs vs/\s.heap.DictOf (kqz X.prog X.w) p vs:=I.hok p _ hx;have ae:kvs.length=vs.length:=Paired.length r;exact wpAny_truthy_dict hS m (by omega) ⟨H,I.tok _,by rw[qkm r];exact q⟩
 |_=>exact(show False from e).elim
theorem qz6(ha:PE X a ta)(he:∀dy,isTrue a X.env dy=(do let v <-dy;standAt a.pos;holding [v] (truthy v))):
  PT X a (fun σ H Q=>ta σ H λx H'=>∃k,wv6 X.K x H' k/\Q k H'):=by
 intro pins s σ H Q I h;exact isTrue_plain (thn (ha pins s σ H _ I h) λv s1 ⟨x,H1,I1,r1,q1⟩=>vx1 pins s1 σ H1 x v Q I1 r1 q1) (he _)
theorem op_add_str:OpR X (binaryOp .Add) (λx y H Q=>∃i j,x=.str i/\y=.str j/\i.length+j.length<=sizeLine/\Q (.str (i++j)) H):=by
 intro pins s σ H x y v u Q I rx ry h;obtain⟨i,j,rfl,rfl,hz,q⟩:=h;obtain⟨t,rfl⟩:=rx;obtain⟨t',rfl⟩:=ry;exact add_str (λt' tk=>⟨.str (i++j),H,I.tok _,⟨_,rfl⟩,q⟩) hz
theorem zJ{x:V}{us:List Value}(r:Vals [x] us):∃u,us=[u]/\RelV x u:=by
 cases r with
 |cons r1 r2=>cases r2;exact⟨_,rfl,r1⟩
theorem vkt{x y:V}{us:List Value}(r:Vals [x,y] us):∃u w',us=[u,w']/\RelV x u/\RelV y w':=by
 cases r with
 |cons r1 r2=>
  cases r2 with
  |cons r3 r4=>cases r4;exact⟨_,_,rfl,r1,r3⟩
theorem qx2:CallR X (.type "int") (λxs H Q=>(∃i,xs=[.int i]/\Q (.int i) H)\/∃k,xs=[.bl k]/\Q (.int (if k then 1 else 0)) H):=by
 intro pins s σ H xs us Q I r h;rcases h with⟨i,rfl,q⟩|⟨k,rfl,q⟩
 ·obtain⟨u,rfl,t,rfl⟩:=zJ r;exact call_int_int ⟨.int i,H,I,⟨_,rfl⟩,q⟩
 ·obtain⟨u,rfl,r1⟩:=zJ r;cases r1;exact call_int_bool ⟨.int (if k then 1 else 0),H,I.tok _,⟨_,rfl⟩,q⟩
end
structure ObjM (h:Heap)(x dx C:Addr)(mA:Str->Option Value):Prop where
 obj:h.get? x=some (PySem.W.instObj C dx)
 ns:h.Ns1 dx mA
 ne:dx≠x
theorem qvr{h:Heap}{dx:Addr}{mA:Str->Option Value}(n:h.Ns1 dx mA):∃od,h.get? dx=some od/\∀name,PySem.W.lookIn name od=some (mA name):=by
 obtain⟨o,es,ep,ho,hd,hk,_,hm⟩:=n;refine⟨o,ho,λname=>?_⟩;have e:=hm name;unfold nsFind findBy at e;rw[<-Array.find?_toList]at e;unfold PySem.W.lookIn;rw[hd];dsimp only
 split
 ·rename_i y q;rw[q]at e;exact congrArg some e
 ·rename_i q;rw[q]at e;have a:es.toList.any (·.refKey)=false:=by
   rw[List.any_eq_false];intro y hy;obtain⟨z,t,dk⟩:=hk y (Array.mem_toList_iff.mp hy);simp[DictEntry.refKey,dk]
  have a':¬es.toList.any (·.refKey)=true:=by rw[a];exact Bool.false_ne_true
  rw[Xe a'];exact congrArg some e
theorem ObjM.look{h:Heap}{x dx C:Addr}{mA:Str->Option Value}(I:ObjM h x dx C mA):∃od,PySem.W.InstAt h x (PySem.W.instObj C dx) C (some od)/\∀name,PySem.W.lookIn name od=some (mA name):=
 let ⟨od,ho,hl⟩:=qvr I.ns
 ⟨od,⟨I.obj,rfl,rfl,ho⟩,hl⟩
section
variable {P:Program}{w:World}{H H':Hp}{h h':Heap}{a C dx:Addr}{fs fs':List (Str×V)}
theorem vvu(hok:HOk P w H h)(e:H a=some (.ins C dx fs)):∃mA,ObjM h a dx C mA/\(∀f,wv7 (fs.lookup f) (mA f))/\PySem.Within mA (fs.map (·.1))/\fs.length<=1000/\H dx=some (.own a):=by
 obtain⟨d,z,ne,ob,mA,n,r,q⟩:=(show ObjOk P w H h a (.ins C dx fs)from hok a _ e);exact⟨mA,⟨ob,n,ne⟩,r,q,z,d⟩
end
structure Cls (K:PySem.W.Frag)(C:Addr):Prop where
 pg:PySem.W.plainGet K C Str.empty=true
 hd:PySem.W.hasDictIn K C=true
 po:PySem.W.plainOver K C=true
 sa:PySem.W.findIn K (.ref C) "__setattr__"=some (some (.builtin "object.__setattr__"))
theorem Cls.get{K:PySem.W.Frag}{C:Addr}(c:Cls K C)(f:Str):PySem.W.plainGet K C f=true:=c.pg
section
variable {X:Cx}{pins:List (Addr×Obj)}{σ:St}{H:Hp}{s:Shared}{A:Around}{E:Value->Shared->Prop}{Q:Value->Shared->Prop}{c:Value}{b:Bool}
inductive TyOf (K:PySem.W.Frag)(H:Hp):V->Value->Prop where
 | non:TyOf K H .non (.type "NoneType")
 | bl (x:Bool):TyOf K H (.bl x) (.type "bool")
 | int (i:Int):TyOf K H (.int i) (.type "int")
 | str (x:Str):TyOf K H (.str x) (.type "str")
 | flt (x:UInt64):TyOf K H (.flt x) (.type "float")
 | lst {a:Addr} {xs:List V} (e:H a=some (.lst xs)):TyOf K H (.ref a) (.type "list")
 | frz {a:Addr} {o:Obj} {xs:List V} (e:H a=some (.frz o (.lst xs))):TyOf K H (.ref a) (.type "list")
 | tup {a:Addr} {xs:List V} (e:H a=some (.tup xs)):TyOf K H (.ref a) (.type "tuple")
 | dK {a:Addr} {kvs:List (Key×V)} (e:H a=some (.dK kvs)):TyOf K H (.ref a) (.type "dict")
 | dT {a:Addr} {kvs:List (List Key×V)} (e:H a=some (.dT kvs)):TyOf K H (.ref a) (.type "dict")
 | ins {a C dx:Addr} {fs:List (Str×V)} (e:H a=some (.ins C dx fs)) (cl:Cls K C) (ha:PySem.W.findIn K (.ref C) "__class__"=some (some (.builtin "object.__class__")))
   (hn:PySem.W.specialIn K (.builtin "object.__class__") "__get__"=some (some (.builtin "getset_descriptor.__get__"))) (htk:PySem.W.takesIn K (.builtin "object.__class__")=some true)
   (hm:PySem.W.mroIn K C (.type "object")=some true):TyOf K H (.ref a) (.ref C)
theorem qw7{x:V}{u t:Value}(I:Inv X pins σ H s)(rx:RelV x u)(ty:TyOf X.K H x t)(e:PySem.W.kitOne X.K t c=some b)(h:∀tk,Q (.bool b) { s with toks:=tk }):
  wpAny (model X.prog X.w) A (call (.builtin "isinstance") [u,c]) Q E s:=by
 cases ty with
 |non=>cases(show u=Value.none from rx);exact Y3 PySem.W.kitx_none I.kIn True.intro e (λz=>nomatch z) h
 |bl y=>cases(show u=Value.bool y from rx);exact Y3 PySem.W.kitx_bool I.kIn True.intro e (λz=>nomatch z) h
 |int i=>obtain⟨t,q⟩:=(show ∃t,u=Value.int i t from rx);cases q;exact Y3 PySem.W.kitx_int I.kIn True.intro e (λz=>nomatch z) h
 |str y=>obtain⟨t,q⟩:=(show ∃t,u=Value.str y t from rx);cases q;exact Y3 PySem.W.kitx_str I.kIn True.intro e (λz=>nomatch z) h
 |flt y=>obtain⟨t,q⟩:=(show ∃t,u=Value.float y t from rx);cases q;exact Y3 PySem.W.kitx_float I.kIn True.intro e (λz=>nomatch z) h
 |@lst a xs ea=>
  cases(show u=Value.ref a from rx);obtain⟨_,_,n,_,h1⟩:=(show ObjOk X.prog X.w H s.heap a (.lst xs)from I.hok a _ ea);exact Y3 PySem.W.kitx_list I.kIn ⟨_,h1,rfl⟩ e (λz=>nomatch z) h
 |@frz a ob xs ea=>
  cases(show u=Value.ref a from rx);obtain⟨_,_,_,n,_,h1⟩:=(show ObjOk X.prog X.w H s.heap a (.frz ob (.lst xs))from I.hok a _ ea);exact Y3 PySem.W.kitx_list I.kIn ⟨_,h1,rfl⟩ e (λz=>nomatch z) h
 |@tup a xs ea=>
  cases(show u=Value.ref a from rx);obtain⟨_,_,_,p⟩:=(show ObjOk X.prog X.w H s.heap a (.tup xs)from I.hok a _ ea);obtain⟨o,h1,h2,_⟩:=p;exact Y3 PySem.W.kitx_tuple I.kIn ⟨o,h1,h2⟩ e (λz=>nomatch z) h
 |@dK a kvs ea=>
  cases(show u=Value.ref a from rx);obtain⟨_,_,vs,_,p⟩:=(show ObjOk X.prog X.w H s.heap a (.dK kvs)from I.hok a _ ea);obtain⟨o,es,ep,h1,h2,_⟩:=p;exact Y3 PySem.W.kitx_dict I.kIn ⟨o,h1,h2.1⟩ e (λz=>nomatch z) h
 |@dT a kvs ea=>
  cases(show u=Value.ref a from rx);obtain⟨_,_,xs,_,o,es,ep,h1,h2,_⟩:=(show ObjOk X.prog X.w H s.heap a (.dT kvs)from I.hok a _ ea);exact Y3 PySem.W.kitx_dict I.kIn ⟨o,h1,h2.1⟩ e (λz=>nomatch z) h
 |@ins a C dx fs ea cl ha hn htk hm=>
  cases(show u=Value.ref a from rx);obtain⟨mA,O,_⟩:=vvu I.hok ea;obtain⟨od,J,_⟩:=O.look;exact Y3 (PySem.W.kitx_own (cl.get _) cl.hd ha hn htk hm) I.kIn J e (λz=>nomatch z) h
end
structure Room (k:Nat)(A:Around):Prop where
 hd:A.handled=none
 dp:A.depth+3*k+5<recursionLimit
 un:A.units+16*k+200<cLine
 gd:A.guards=some []
theorem Room.mono{j k:Nat}{A:Around}(r:Room k A)(h:j<=k):Room j A:=⟨r.hd,by have:=r.dp;omega,by have:=r.un;omega,r.gd⟩
theorem Room.deeper{k:Nat}{A:Around}(r:Room (k+1) A)(env:Env):Room k (A.deeper env):=
 ⟨r.hd,by have:=r.dp;show A.depth+1+3*k+5<_;omega,by have:=r.un;show A.units+3+16*k+200<_;omega,r.gd⟩
theorem Room.depth{k:Nat}{A:Around}(r:Room k A):A.depth<recursionLimit:=by have:=r.dp;omega
theorem Room.units{k:Nat}{A:Around}(r:Room k A):A.units+64<cLine:=by have:=r.un;omega
abbrev wvb:TA:=λ_ H Q=>Q [] H
abbrev vx7(ta:TE)(tr:TA):TA:=fun σ H Q=>ta σ H λx H1=>tr σ H1 λxs H2=>Q (x::xs) H2
section
variable {X:Cx}{e:Expr}{es:List Expr}{te:TE}{t:TA}{pos:Pos}
theorem xj:PA X [] wvb:=λ_ _ _ _ H Q I h=>Calls.spliced_nil ⟨[],H,I,.nil,h⟩
theorem x5(ha:PE X e te)(hr:PA X es t)(hs:starEach (e::es) X.env=(false,eval e X.env)::starEach es X.env:=by rfl):PA X (e::es) (vx7 te t):=by
 intro pos pins s σ H Q I h;rw[hs];show wpAny _ _ (spliced ((false,eval e X.env)::backTo pos (starEach es X.env))) _ _ s;refine Calls.spliced_cons (thn (ha pins s σ H _ I h) λu s1 ⟨x,H1,I1,r1,q1⟩=>?_);exact thn (hr pos pins s1 σ H1 _ I1 q1) λus s2 ⟨xs,H2,I2,r2,q2⟩=>⟨x::xs,H2,I2,.cons r1 r2,q2⟩
abbrev tTup(t:TA):TE:=fun σ H Q=>t σ H λxs H1=>xs.length<=sizeLine/\∀p,H1 p=none->Q (.ref p) (upd H1 p (.tup xs))
abbrev tLst(t:TA):TE:=fun σ H Q=>t σ H λxs H1=>xs.length<=sizeLine/\∀p,H1 p=none->Q (.ref p) (upd H1 p (.lst xs))
theorem vzc{x1}(h:PA X es t):PE X (.Tuple es x1 pos) (tTup t):=by
 intro pins s σ H Q I hq;refine wpAny_Tuple_spliced (thn (h pos pins s σ H _ I hq) λus s1 ⟨xs,H1,I1,r,z,q⟩=>⟨by rw[<-r.length];exact z,?_⟩);have hf:H1 s1.heap.objs.size=none:=I1.hok.fresh (X8 _);refine⟨.ref s1.heap.objs.size,upd H1 s1.heap.objs.size (.tup xs),I1.laid (t':=s1.toks) (λb u e=>X9 _ e) (X8 _) ?_,rfl,q _ hf⟩;exact⟨z,us,r,⟨_,Xj _ rfl,rfl,rfl,_,rfl⟩⟩
theorem vze(h:PA X es t):PE X (.List es pos) (tLst t):=by
 intro pins s σ H Q I hq;refine wpAny_List_spliced (thn (h pos pins s σ H _ I hq) λus s1 ⟨xs,H1,I1,r,z,q⟩=>⟨by rw[<-r.length];exact z,?_⟩);have hf:H1 s1.heap.objs.size=none:=I1.hok.fresh (X8 _);refine⟨.ref s1.heap.objs.size,upd H1 s1.heap.objs.size (.lst xs),I1.laid (t':=s1.toks) (λb u e=>X9 _ e) (X8 _) ?_,rfl,q _ hf⟩;exact⟨z,us,0,r,Xj _ rfl⟩
end
abbrev Sp:=List V->Hp->VK->XK->Prop
abbrev CXT:=List Env->Hp->Shared->XK->Value->Shared->Prop
structure Env0 (P:Program)(w:World)(K:PySem.W.Frag)(mg:Str->Option Value)(base:Heap)(A:Around)(outer:List Env)(s:Shared)(H:Hp):Prop where
 frames:A.frames=some outer
 mod:Mod K mg base
 bs:∀b o,base.get? b=some o->s.heap.get? b=some o/\H b=none
 bsz:base.objs.size<=s.heap.objs.size
 funs:s.heap.FunFrames base outer
 frf:∀b∈frs outer,H b=none
 hok:HOk P w H s.heap
 bare:AllBare s.gens
def CE(outer:List Env)(P:Program)(w:World)(H:Hp)(s:Shared)(Q:VK)(u:Value)(s':Shared):Prop:=
 ∃v H',s'.os=s.os/\AllBare s'.gens/\Un (frs outer) [] H H' s.heap s'.heap/\HOk P w H' s'.heap/\RelV v u/\Q v H'
def CR(CX:CXT)(outer:List Env)(P:Program)(w:World)(H:Hp)(s:Shared)(Q:VK)(E:XK)(r:Result)(s':Shared):Prop:=
 match r with
 |.ok (.ret u)=>CE outer P w H s Q u s'
 |.ok _=>False
 |.error e=>CX outer H s E e s'
structure FnOk (P:Program)(w:World)(K:PySem.W.Frag)(mg:Str->Option Value)(base:Heap)(CX:CXT)(k:Nat)(f:Addr)(fd:FuncData)(ps:List Str)(sp:Sp):Prop where
 len:∀vs H Q E,sp vs H Q E->vs.length=ps.length
 run:∀(A:Around) (outer:List Env) (s:Shared) (H:Hp) (args:Args) (us:List Value) (vs:List V) (Q:VK) (E:XK),Room k A->Env0 P w K mg base A outer s H->BindsTo s fd args (ps.zip us)->Vals vs us->sp vs H Q E ->
  codeAny (model P w) A (.call (.ref f) args) (CR CX outer P w H s Q E) s
section
variable {X:Cx}{pins:List (Addr×Obj)}{σ:St}{H:Hp}{s s':Shared}
theorem Inv.env0(I:Inv X pins σ H s):Env0 X.prog X.w X.K X.mg X.base X.A X.stack s H:=
 ⟨I.ok.frames,I.ok.mod,I.bs,Y0 I.ok.bsz I.sz,I.stack,I.stkFree,I.hok,I.bare⟩
theorem Inv.after{Q:VK}{u:Value}(I:Inv X pins σ H s)(h:CE X.stack X.prog X.w H s Q u s'):EP X pins σ Q u s':=by
 obtain⟨v,H',os,bare,un,hok,r,q⟩:=h;obtain⟨hh,g,d,t,os'⟩:=s';obtain rfl:os'=s.os:=os;exact⟨v,H',I.call (h':=hh) (g':=g) (d':=d) (t':=t) (ch:=[]) un hok bare (λb z=>absurd z (by simp)),r,q⟩
end
abbrev vky(sp:Sp)(md:List V)(E:XK)(t:TA):TE:=fun σ H Q=>t σ H λvs H1=>sp (vs++md) H1 Q E
def Binds(K:PySem.W.Frag)(fd:FuncData)(ps:List Str)(ds:List Value):Prop:=
 ∀(s:Shared) (us:List Value),K.In s.heap->(us++ds).length=ps.length->BindsTo s fd ⟨us,[]⟩ (ps.zip (us++ds))
theorem Binds.all{K:PySem.W.Frag}{fd:FuncData}{ps:List Str}(h:∀us:List Value,us.length=ps.length->bindArgs fd ⟨us,[]⟩=pure (ps.zip us)):Binds K fd ps []:=λs us _ hl=>by
 rw[Xp]at hl ⊢;exact .of_eq (h us hl)
def qxg(CX:CXT)(X:Cx)(E:XK):Prop:=∀(pins:List (Addr×Obj)) (σ:St) (H:Hp) (s:Shared) (e:Value) (s':Shared),Inv X pins σ H s->CX X.stack H s E e s'->X.xe e s'
section
variable {X:Cx}{CX:CXT}{k:Nat}{f C:Addr}{fd:FuncData}{ps:List Str}{sp:Sp}{md:List V}{ds:List Value}{E:XK}{x m:Str}{p pos apos:Pos}{e o:Expr}{es:List Expr}{ta:TE}{t:TA}
theorem vxg{pins:List (Addr×Obj)}{σ:St}{H:Hp}{s:Shared}{Q:VK}{us:List Value}{vs:List V}(F:FnOk X.prog X.w X.K X.mg X.base CX k f fd ps sp)(hr:Room k X.A)(hb:Binds X.K fd ps ds)(hd:Vals md ds)(hx:qxg CX X E)
  (I:Inv X pins σ H s) (r:Vals vs us) (h:sp (vs++md) H Q E):wpAny (model X.prog X.w) X.A (call (.ref f) us) (EP X pins σ Q) X.xe s:=by
 have r2:Vals (vs++md) (us++ds):=r.append hd;have hl:(us++ds).length=ps.length:=by rw[<-r2.length];exact F.len _ _ _ _ h
 refine wpAny_call (codeAny_mono (F.run X.A X.stack s H ⟨us,[]⟩ (us++ds) (vs++md) Q E hr I.env0 (hb s us I.kIn hl) r2 h) λr s' hq=>?_);cases r with
 |error e=>exact hx pins σ H s e s' I hq
 |ok fl=>
  cases fl with
  |ret u=>exact I.after hq
  |next=>exact False.elim hq
  |brk=>exact False.elim hq
  |cont=>exact False.elim hq
theorem vqz(F:FnOk X.prog X.w X.K X.mg X.base CX k f fd ps sp)(hr:Room k X.A)(hg:Gl X x)(hm:X.mg x=some (.ref f))(hk:PySem.W.keepIn X.K (.ref f)=true)(hb:Binds X.K fd ps ds)(hd:Vals md ds)(hx:qxg CX X E)
  (ha:PA X (e::es) t) (cu:(x==("__debug__":Str))=false:=by decide) (he:starEach (e::es) X.env=(false,eval e X.env)::starEach es X.env:=by rfl) (bt:(backTo pos (starEach es X.env)).any (·.1)=false:=by rfl):
  PE X (.Call (.Name x p) (e::es) [] pos) (vky sp md E t):=by
 intro pins s σ H Q I h;refine wpAny_Call_Name_kw (kv3 I hg hm ?_ cu);refine PySem.W.callWith_K (h₀:=X.base) I.ok.mod.kin hk (thn (ha pos pins s σ H _ I h) λus s1 ⟨vs,H1,I1,r,q⟩=>⟨I1.kIn,?_⟩) he bt;exact vxg F hr hb hd hx I1 r q
end
structure FnScope (N P:List Str)(sc:Scope):Prop where
 kind:sc.kind=.function
 co:sc.isCoroutine=false
 gen:sc.isGenerator=false
 nd:N.Nodup
 pre:N.take P.length=P
 par:∀x∈P,sc.names.lookup x=some .local\/sc.names.lookup x=some .cell
 nofree:∀y∈sc.names,y.2≠.free
theorem kx2{kindOf : Str -> Option NameKind}{x : Str}: ∀{binds : List (Str × Value)} {m : Str -> Option Value}, (∀v, (x, v)∉binds) -> bindL kindOf binds m x = m x
  | [], _, _=>rfl
  | (n, v)::r, m, h=>by
    unfold bindL;rw[kx2 λw hw=>h w (lc9 _ hw)]
    split
    · have : x≠n:= by rintro rfl; exact h v X2
      simp[this]
    · rfl
theorem kx4{kindOf : Str -> Option NameKind}{x : Str}: ∀{binds : List (Str × Value)} {m : Str -> Option Value}, (∀v, (x, v)∉binds) -> bindC kindOf binds m x = m x
  | [], _, _=>rfl
  | (n, v)::r, m, h=>by
    unfold bindC;rw[kx4 λw hw=>h w (lc9 _ hw)]
    split
    · rfl
    · have : x≠n:= by rintro rfl; exact h v X2
      simp[this]
theorem kx3{kindOf:Str->Option NameKind}{x:Str}{v:Value}:∀{P:List Str} {vs:List Value} {i:Nat} {m:Str->Option Value},P.Nodup->P[i]?=some x->vs[i]?=some v->kindOf x=some .local ->
  bindL kindOf (P.zip vs) m x=some v
 |[],_,_,_,_,h,_,_=>by simp at h
 |_::_,[],_,_,_,_,h,_=>by simp at h
 |p::P,w::vs,0,m,nd,h1,h2,hk=>by
  simp at h1 h2;subst h1;subst h2;show bindL kindOf ((p,w)::P.zip vs) m p=_;unfold bindL;rw[kx2 λv hv=>(List.nodup_cons.mp nd).1 (List.of_mem_zip hv).1,Xb hk];simp
 |p::P,w::vs,i+1,m,nd,h1,h2,hk=>by
  show bindL kindOf ((p,w)::P.zip vs) m x=_;unfold bindL;exact kx3 (i:=i) (List.nodup_cons.mp nd).2 (by simpa using h1) (by simpa using h2) hk
theorem kx5{kindOf:Str->Option NameKind}{x:Str}{v:Value}:∀{P:List Str} {vs:List Value} {i:Nat} {m:Str->Option Value},P.Nodup->P[i]?=some x->vs[i]?=some v->kindOf x≠some .local ->
  bindC kindOf (P.zip vs) m x=some v
 |[],_,_,_,_,h,_,_=>by simp at h
 |_::_,[],_,_,_,_,h,_=>by simp at h
 |p::P,w::vs,0,m,nd,h1,h2,hk=>by
  simp at h1 h2;subst h1;subst h2;show bindC kindOf ((p,w)::P.zip vs) m p=_;unfold bindC;rw[kx4 λv hv=>(List.nodup_cons.mp nd).1 (List.of_mem_zip hv).1,Xe hk];simp
 |p::P,w::vs,i+1,m,nd,h1,h2,hk=>by
  show bindC kindOf ((p,w)::P.zip vs) m x=_;unfold bindC;exact kx5 (i:=i) (List.nodup_cons.mp nd).2 (by simpa using h1) (by simpa using h2) hk
def start(N:List Str)(vs:List V):St:=vs.map some++List.replicate (N.length - vs.length) none
def zZ(CX:CXT)(P:Program)(w:World)(K:PySem.W.Frag)(mg:Str->Option Value)(base:Heap)(N:List Str)(qual:Str)(scope:Scope)(f:Addr)(cd:Value)(A:Around)(outer:List Env)(s:Shared)(H:Hp)(E:XK):Cx where
 prog:=P
 w:=w
 K:=K
 mg:=mg
 base:=base
 A:=A.deeper (envOfC qual scope s.heap.objs.size f cd)
 N:=N
 s₀:=s
 H₀:=H
 env:=envOfC qual scope s.heap.objs.size f cd
 outer:=outer
 stack:=envOfC qual scope s.heap.objs.size f cd::outer
 ex:=[]
 calm:=true
 fn:=λ_=>true
 pn:=[]
 xe:=λe s'=>wpAny (model P w) (A.deeper (envOfC qual scope s.heap.objs.size f cd)) (leaving (envOfC qual scope s.heap.objs.size f cd) e) (λ_ ng=>CX outer H s E e ng) (λe' ng=>CX outer H s E e' ng) s'
theorem qjt{sc:Scope}{n:Nat}{x:Str}(h:sc.names.lookup x=some .cell):∃c,(cellsFrom n sc.names []).lookup x=some c:=by
 have q:=PySem.W.cellsFrom_some sc.names n [] (.inl h);exact Option.isSome_iff_exists.mp q
theorem qw8{CX:CXT}{P:Program}{w:World}{K:PySem.W.Frag}{mg:Str->Option Value}{base:Heap}{N ps:List Str}{qual:Str}{scope:Scope}{f:Addr}{cd:Value}{A:Around}{outer:List Env}{s s1:Shared}{H:Hp}{E:XK}{us:List Value}{vs:List V}
  (S:FnScope N ps scope) (hd:A.handled=none) (e0:Env0 P w K mg base A outer s H) (hl:vs.length=ps.length) (r:Vals vs us)
  (x:InCallC s s.heap.objs.size (bindL (envOfC qual scope s.heap.objs.size f cd).kindOf (ps.zip us) λ_=>none) (cellsFrom (s.heap.objs.size+1) scope.names []) (bindC (envOfC qual scope s.heap.objs.size f cd).kindOf (ps.zip us) λ_=>none) s1):
  Inv (zZ CX P w K mg base N qual scope f cd A outer s H E) [] (start N vs) H s1:=by
 have bt:ps.length<=N.length:=by have:=congrArg List.length S.pre;rw[List.length_take]at this;omega
 obtain⟨h1,tk,rfl,hk⟩:=x.done;have oj:∀b:Addr,b∉(zZ CX P w K mg base N qual scope f cd A outer s H E).ex:=λb z=>absurd (show b∈([]:List Addr)from z) (by simp)
 refine⟨⟨e0.mod,S.kind,rfl,rfl,X8 _,λy z c h1 h2=>?_,λy hy=>?_,λy c _ h=>?_,λ_=>hd,Around.frames_deeper e0.frames,.inr ⟨rfl,rfl⟩,λb z=>absurd z (oj b),e0.bs,e0.bsz,λb _ _=>oj b,λb z=>absurd z (oj b),e0.funs,e0.frf⟩,
  rfl,e0.bare,Un.kept hk,⟨_,x.toInCall.ns,λi y v h1 h2 h3=>?_⟩,λy c h=>⟨_,x.cell y c h⟩,e0.hok.fresh (X8 _),λy c h=>?_,λp hp=>absurd (show p∈([]:List (Addr×Obj))from hp) (by simp),e0.hok.kept hk,?_⟩
 ·exact name_of_addr x.apart (Yh h1) (Yh h2)
 ·have hy:scope.names.lookup y=some .cell\/scope.names.lookup y=some .free:=hy;rcases hy with hy|hy
  ·exact qjt hy
  ·exact absurd rfl (S.nofree _ (Yh hy))
 ·exact Nat.le_of_lt (x.above y c (Yh h))
 ·have hi:i<vs.length:=by
   unfold start at h2
   by_cases hi:i<vs.length
   ·exact hi
   ·rw[Y7 (by simpa using hi)]at h2;rw[List.getElem?_replicate]at h2
    split at h2<;>cases h2
  have ha:vs[i]?=some v:=by
   unfold start at h2;rw[Y9 (by simpa using hi),Y2]at h2;cases e:vs[i]? with
   |none=>rw[e]at h2;cases h2
   |some a=>rw[e]at h2;cases h2;rfl
  obtain⟨u,hu,rv⟩:=r.get ha;have hp:ps[i]?=some y:=by
   rw[<-S.pre,List.getElem?_take_of_lt (by omega)];exact h1
  have ndP:ps.Nodup:=by rw[<-S.pre];exact S.nd.sublist (List.take_sublist _ _)
  refine⟨u,rv,?_⟩;rcases S.par y (Xh hp)with k|k
  ·exact .inl ⟨k,kx3 ndP hp hu k⟩
  ·obtain⟨c,e⟩:=qjt (n:=s.heap.objs.size+1) k;refine .inr ⟨.inl k,c,e,?_⟩;have q:=x.cell y c e;rw[kx5 ndP hp hu (by show scope.names.lookup y≠_;rw[k];decide)]at q;exact q
 ·exact e0.hok.fresh (Nat.le_of_lt (x.above y c (Yh h)))
 ·unfold start;show _=N.length;rw[Xn,X3,Yb];omega
theorem wqr{CX:CXT}{P:Program}{w:World}{K:PySem.W.Frag}{mg:Str->Option Value}{base:Heap}{k:Nat}{f:Addr}{name qual:Str}{params:Arguments}{body:List Stmt}{scope:Scope}{dV kV fq pm av ct oc:Value}{an od:Option Addr}
  {mh:Array (Option Value)} {N ps:List Str} {sp:Sp} (lk:K.lookup f=some ⟨oc,od,.func (PySem.W.fnOf name qual params body scope dV kV fq pm an av ct),mh⟩) (i7:PySem.W.codeIn K av qual=true) (S:FnScope N ps scope)
  (len:∀vs H Q E,sp vs H Q E->vs.length=ps.length)
  (jp:∀(A:Around) (outer:List Env) (s:Shared) (H:Hp) (vs:List V) (Q:VK) (E:XK),Room k (A.deeper (envOfC qual scope s.heap.objs.size f av))->sp vs H Q E ->
   ∃t,PSs (zZ CX P w K mg base N qual scope f av A outer s H E) body t/\t { nx:=λ_ H'=>Q .non H',rt:=Q } (start N vs) H):
  FnOk P w K mg base CX (k+1) f (PySem.W.fnOf name qual params body scope dV kV fq pm an av ct) ps sp:=by
 refine⟨len,λA outer s H args us vs Q E hr e0 hb r js=>?_⟩;have hl:=len _ _ _ _ js;have KX:K.In s.heap:=e0.mod.kin.keeps λb o e=>(e0.bs b o e).1
 have lim:s.heap.NoLimit:=e0.mod.nolimit.keeps λb o e=>(e0.bs b o e).1
 have p8:∀y∈ps.zip us,scope.names.lookup y.1=some .local\/(scope.names.lookup y.1=some .cell/\((cellsFrom (s.heap.objs.size+1) scope.names []).lookup y.1).isSome=true):=λ⟨n,v⟩ hy=>by
  rcases S.par n (List.of_mem_zip hy).1 with q|q
  ·exact .inl q
  ·exact .inr ⟨q,PySem.W.cellsFrom_some _ _ _ (.inl q)⟩
 refine codeAny_call_function hr.depth (KX _ _ lk) rfl S.co S.gen rfl (PySem.W.codeRec_of KX i7) (hb _ _ _ _ ?_);refine wpAny_newFunctionEnv_cells S.kind p8 λenv he s1 x=>?_
 subst he;refine⟨lim.keeps x.toInCall.keep,codeAny_func ?_⟩;obtain⟨t,ht,hq⟩:=jp A outer s H vs Q E (hr.deeper _) js;have I:Inv (zZ CX P w K mg base N qual scope f av A outer s H E) [] (start N vs) H s1:=qw8 S hr.hd e0 hl r x;refine wpAny_mono (ht [] s1 (start N vs) H _ I hq) (λfl s' hs=>?_) λe s' hs=>hs
 have fin:∀{σ':St} {H':Hp} {v:V} {u:Value},Inv (zZ CX P w K mg base N qual scope f av A outer s H E) [] σ' H' s'->RelV v u->Q v H'->CE outer P w H s Q u s':=
  fun {σ' H' v u} J rv q=>⟨v,H',J.os,J.bare,J.base,J.hok,rv,q⟩
 cases fl with
 |ret u=>
  obtain⟨v,σ',H',J,rv,q⟩:=hs;exact fin J rv q
 |next=>
  obtain⟨σ',H',J,q⟩:=hs;exact fin (v:=V.non) (u:=Value.none) J rfl q
 |brk=>
  obtain⟨_,_,_,q⟩:=hs;exact False.elim q
 |cont=>
  obtain⟨_,_,_,q⟩:=hs;exact False.elim q
section
variable {X:Cx}{x:Str}{p pos:Pos}{e:Expr}{es:List Expr}{t:TA}{id T:String}{r:List V->Hp->VK->Prop}
abbrev tCB(r:List V->Hp->VK->Prop)(t:TA):TE:=fun σ H Q=>t σ H λvs H1=>r vs H1 Q
theorem qj8(hc:CallR X (.builtin id) r)(hg:Gl X x)(hm:X.mg x=none)(hv:bootBuiltins x=some (.builtin id))(ha:PA X (e::es) t)(hn:x≠"__name__":=by decide)(cu:(x==("__debug__":Str))=false:=by decide)
  (he:starEach (e::es) X.env=(false,eval e X.env)::starEach es X.env:=by rfl) (bt:(backTo pos (starEach es X.env)).any (·.1)=false:=by rfl):PE X (.Call (.Name x p) (e::es) [] pos) (tCB r t):=by
 intro pins s σ H Q I h;refine wpAny_Call_Name_kw (Vw I hg hm hv ?_ hn cu);exact PyProof.Rows.callWith_builtin1 (thn (ha pos pins s σ H _ I h) λus s1 ⟨vs,H1,I1,r1,q1⟩=>hc pins s1 σ H1 vs us Q I1 r1 q1) he bt
theorem qv7(hc:CallR X (.type T) r)(hg:Gl X x)(hm:X.mg x=none)(hv:bootBuiltins x=some (.type T))(ha:PA X (e::es) t)(hn:x≠"__name__":=by decide)(cu:(x==("__debug__":Str))=false:=by decide)
  (he:starEach (e::es) X.env=(false,eval e X.env)::starEach es X.env:=by rfl) (bt:(backTo pos (starEach es X.env)).any (·.1)=false:=by rfl):PE X (.Call (.Name x p) (e::es) [] pos) (tCB r t):=by
 intro pins s σ H Q I h;refine wpAny_Call_Name_kw (Vw I hg hm hv ?_ hn cu);exact Ye (thn (ha pos pins s σ H _ I h) λus s1 ⟨vs,H1,I1,r1,q1⟩=>hc pins s1 σ H1 vs us Q I1 r1 q1) he bt
end
end L2
namespace HT
open PySem PyProof.Rows
section
variable {prog:Program}{w:World}{A:Around}{E:Value->Shared->Prop}{s:Shared}
theorem cat_tup{t b:Addr}{vs ws:List Value}{Q:Value->Shared->Prop}(ht:IsTup s.heap t vs.toArray)(hb:IsTup s.heap b ws.toArray)(hv:vs≠[])
  (h1:ws=[]->Q (.ref t) s) (h2:ws≠[]->Q (.ref s.heap.objs.size) { s with heap:=s.heap.push { cls:=.type "tuple",data:=.seq (vs++ws).toArray } })
  (hsz:vs.length+ws.length<=sizeLine):wpAny (model prog w) A (binaryOp .Add (.ref t) (.ref b)) Q E s:=by
 obtain⟨⟨cls,dd,data,sl⟩,ho,hc,n,hd⟩:=id ht;obtain⟨⟨cls2,dd2,data2,lp⟩,ho2,hc2,n2,hd2⟩:=id hb;simp only at hc hd hc2 hd2;subst hc hd hc2 hd2;have e:vs.toArray++ws.toArray=(vs++ws).toArray:=by simp
 by_cases hw:ws=[]
 ·exact concat_meets ⟨_,ho,rfl⟩ ⟨_,ho2,rfl⟩ noFill_tuple_add seq_tuple_add PySem.F.slot_tuple_add PySem.F.entry_tuple_add (PySem.F.args_tuple_add_2 _ _)
   (tuple_addW1 t b vs.toArray ws.toArray n n2 dd dd2 sl lp (by simpa using hv) (by simp[hw])) ⟨ho,ho2,h1 hw⟩
 ·refine concat_meets ⟨_,ho,rfl⟩ ⟨_,ho2,rfl⟩ noFill_tuple_add seq_tuple_add PySem.F.slot_tuple_add PySem.F.entry_tuple_add (PySem.F.args_tuple_add_2 _ _)
   (tuple_addW2 t b vs.toArray ws.toArray n n2 dd dd2 sl lp (by simpa using hv) (by simpa using hw) (by rw[X7,X7];exact hsz)) ⟨ho,ho2,?_⟩
  rw[e];exact h2 hw
def sIx(n d:Nat):Option Int->Nat
 |none=>d
 |some v=>if v<0 then(v+(n:Int)).toNat else min v.toNat n
theorem vxf(n d:Nat)(hd:d<=n)(o:Option Int):sIx n d o<=n:=by
 cases o with
 |none=>exact hd
 |some v=>
  show(if v<0 then(v+(n:Int)).toNat else min v.toNat n)<=n
  by_cases hv:v<0
  ·rw[Xb hv];omega
  ·rw[Xe hv];exact Nat.min_le_right _ _
theorem qwx(v:Int)(n d:Nat):(if v<0 then max (v+(n:Int)) 0 else min v (n:Int))=((sIx n d (some v):Nat):Int):=by
 show(if v<0 then max (v+(n:Int)) 0 else min v (n:Int))=(((if v<0 then(v+(n:Int)).toNat else min v.toNat n):Nat):Int)
 by_cases hv:v<0
 ·simp only[Xb hv];omega
 ·simp only[Xe hv];omega
theorem qkw(lo hi:Option Int)(n:Nat):Builtin.Slice.sliceAdjust lo hi 1 (n:Int)=(((sIx n 0 lo:Nat):Int),((sIx n n hi:Nat):Int)):=by
 have h1:¬((1:Int)<0):=by omega
 unfold Builtin.Slice.sliceAdjust;simp only[h1,if_false];refine Prod.ext ?_ ?_
 ·cases lo with
  |none=>rfl
  |some v=>exact qwx v n 0
 ·cases hi with
  |none=>rfl
  |some v=>exact qwx v n n
theorem qkc(i j:Nat):Builtin.Slice.slicePlaces (i:Int) (j:Int) 1=j - i:=by
 unfold Builtin.Slice.slicePlaces;have h1:(1:Int)>0:=by omega
 simp only[h1,if_true,Int.ediv_one]
 split<;>omega
theorem kkt{v:Value}{o:Option Int}{Q:Option Int->Shared->Prop}(p:IsPart v o)(h:Q o s):wpAny (model prog w) A (Builtin.Slice.slicePartIndex v) Q E s:=by
 cases p with
 |none=>exact slicePart_none h
 |int i t=>exact slicePart_int h
theorem jzl{sl:Addr}{vl vu:Value}{lo hi:Option Int}{n:Nat}{Q:Int×Int×Nat->Shared->Prop}(hs:s.heap.IsSliceOf sl vl vu .none)(pl:IsPart vl lo)(pu:IsPart vu hi)
  (h:Q (((sIx n 0 lo:Nat):Int),1,sIx n n hi - sIx n 0 lo) s):wpAny (model prog w) A (Builtin.Slice.sliceApplied (.ref sl) (pure (n:Int))) Q E s:=by
 obtain⟨os,pq,jr,cp⟩:=id hs;unfold Builtin.Slice.sliceApplied Builtin.Slice.sliceFields;refine X0 (X0 (Yu pq cp (x:=vl) rfl (X0 (Yu pq cp (x:=vu) rfl (X0 (Yu pq cp (x:=.none) rfl (X4 ?_)))))));refine X0 (slicePart_none ?_);show wpAny _ _ (if((1:Int)==0)=true then _ else _) _ _ s;rw[Xe (by decide)];refine X0 (kkt pl (X0 (kkt pu (X0 (X4 ?_)))));show wpAny _ _ (match Builtin.Slice.sliceAdjust lo hi 1 (n:Int)with|(lo,hi)=>pure (lo,(1:Int),Builtin.Slice.slicePlaces lo hi 1)) _ _ s;rw[qkw lo hi n];show wpAny _ _ (pure (((sIx n 0 lo:Nat):Int),(1:Int),Builtin.Slice.slicePlaces ((sIx n 0 lo:Nat):Int) ((sIx n n hi:Nat):Int) 1)) _ _ s;rw[qkc];exact X4 h
theorem qzc(xs:Array Value)(i k:Nat):((List.range k).filterMap λ(m:Nat)=>xs[((i:Int)+(m:Int)*1).toNat]?).toArray=((xs.toList.drop i).take k).toArray:=by
 have e:(λ(m:Nat)=>xs[((i:Int)+(m:Int)*1).toNat]?)=λm=>xs[i+m]?:=by
  funext m;have:((i:Int)+(m:Int)*1).toNat=i+m:=by omega
  rw[this]
 rw[e];have:=pick_run xs i k;rw[List.filterMap_map]at this;have e2:((λx=>xs[x]?)∘λx=>i+x)=λm=>xs[i+m]?:=rfl
 rw[e2]at this;rw[this]
theorem getItem_tuple_cut{t sl:Addr}{items:Array Value}{vl vu:Value}{lo hi:Option Int}{Q:Value->Shared->Prop}(ht:IsTup s.heap t items)(hs:s.heap.IsSliceOf sl vl vu .none)(pl:IsPart vl lo)(pu:IsPart vu hi)
  (hw:¬(sIx items.size 0 lo=0/\sIx items.size items.size hi=items.size))
  (h:Q (.ref s.heap.objs.size) { s with heap:=s.heap.push { cls:=.type "tuple",data:=.seq ((items.toList.drop (sIx items.size 0 lo)).take (sIx items.size items.size hi - sIx items.size 0 lo)).toArray } })
  (hsz:items.size<=sizeLine):wpAny (model prog w) A (getItem (.ref t) (.ref sl)) Q E s:=by
 have ia:sizeOk (.seq ((items.toList.drop (sIx items.size 0 lo)).take (sIx items.size items.size hi - sIx items.size 0 lo)).toArray):=by
  show((items.toList.drop (sIx items.size 0 lo)).take (sIx items.size items.size hi - sIx items.size 0 lo)).toArray.size<=sizeLine;rw[X7,List.length_take,List.length_drop,Y6];omega
 have hj:sIx items.size items.size hi<=items.size:=vxf _ _ (X8 _) hi;obtain⟨os,pq,jr,cp⟩:=id hs;have hTs:s.TypeIs (.ref sl) "slice":=⟨os,pq,jr⟩;unfold getItem
 try with_reducible refine Yp ?_
 first|refine X0 (X4 ?_)|skip
 refine X0 (wpAny_sequenceKey ht.typeIs (by decide) ?_);refine X0 (wpAny_callSpecial?_slot (name:=Str.ofString "__getitem__") ht.typeIs PyProof.Rows.slot_tuple_getitem
  (Yd PyProof.Rows.slot_tuple_getitem ht.typeIs entry_tuple_getitem ?_ (args_tuple_getitem _ _)))
 show wpAny _ _ (Builtin.Tuple.tupleItemsOf (.ref t) >>= _) _ _ s;refine X0 (tupleItemsOf_ ht ?_);refine X0 (wpAny_typeOf hTs ?_);rw[Xb (by decide)];refine X0 (jzl hs pl pu ?_);have io:¬((((sIx items.size 0 lo:Nat):Int)==0&&(1:Int)==1&&(sIx items.size items.size hi - sIx items.size 0 lo)==items.size)=true):=by
  intro q;rw[Bool.and_eq_true,Bool.and_eq_true]at q;have q1:((sIx items.size 0 lo:Nat):Int)=0:=eq_of_beq q.1.1;have q2:sIx items.size items.size hi - sIx items.size 0 lo=items.size:=eq_of_beq q.2;exact hw ⟨by omega,by omega⟩
 show wpAny _ _ (if(((sIx items.size 0 lo:Nat):Int)==0&&(1:Int)==1&&(sIx items.size items.size hi - sIx items.size 0 lo)==items.size)=true then _ else _) _ _ s;rw[Xe io,qzc]
 first
  |exact X0 (m:=Builtin.Tuple.tupleExact _) (Y5 (X4 ⟨_,rfl,X4 h⟩) ia)
  |exact X0 (m:=Builtin.Tuple.tupleExact _) (Y5 (X0 (X4 (X4 ⟨_,rfl,X4 h⟩))) ia)
  |exact X0 (X0 (m:=Builtin.Tuple.tupleExact _) (Y5 (X4 (X4 ⟨_,rfl,X4 h⟩)) ia))
  |exact X0 (X0 (m:=Builtin.Tuple.tupleExact _) (Y5 (X4 ⟨_,rfl,X4 h⟩) ia))
end
end HT
namespace L2
open PySem PySem.Spec PyProof.Rows
abbrev TO:=St->Hp->(Option Int->Hp->Prop)->Prop
def PO(X:Cx)(e:Option Expr)(t:TO):Prop:=
 ∀(pins:List (Addr×Obj)) (s:Shared) (σ:St) (H:Hp) (Q:Option Int->Hp->Prop),Inv X pins σ H s->t σ H Q ->
  wpAny (model X.prog X.w) X.A (evalPart e X.env) (λu s'=>∃o H',Inv X pins σ H' s'/\IsPart u o/\Q o H') X.xe s
abbrev qqa:TO:=λ_ H Q=>Q none H
abbrev vx5(t:TE):TO:=fun σ H Q=>t σ H λx H1=>∃i,x=.int i/\Q (some i) H1
theorem qkn{ns:List Int}:∀{us:List Value},Vals (ns.map V.int) us->IntsAre us ns:=by
 induction ns with
 | nil=>intro us r;rw[List.map_nil]at r;cases r;exact .nil
 | cons n ns ih=>
  intro us r;rw[List.map_cons]at r;cases r with
  |cons r1 r2=>
   obtain⟨t,e⟩:=r1;subst e;exact .cons n t (ih r2)
section
variable {X:Cx}{e:Expr}{te:TE}{lo hi:Option Expr}{tl th:TO}{pos p2:Pos}
theorem vqt:PO X none qqa:=by
 intro pins s σ H Q I h;rw[evalPart_none];exact X4 ⟨none,H,I,.none,h⟩
theorem vqr(h:PE X e te):PO X (some e) (vx5 te):=by
 intro pins s σ H Q I hw;rw[evalPart_some];refine thn (h pins s σ H _ I hw) λu s1 ⟨x,H1,I1,r1,q1⟩=>?_
 obtain⟨i,rfl,q⟩:=q1;obtain⟨t,rfl⟩:=r1;exact⟨some i,H1,I1,.int i t,q⟩
def SlR(X:Cx)(r:V->Option Int->Option Int->Hp->VK->Prop):Prop:=
 ∀(pins:List (Addr×Obj)) (s:Shared) (σ:St) (H:Hp) (x:V) (v vl vu:Value) (lo hi:Option Int) (sl:Addr) (Q:VK),Inv X pins σ H s->RelV x v->s.heap.IsSliceOf sl vl vu .none->IsPart vl lo->IsPart vu hi->r x lo hi H Q ->
  ∃T id,typeLookup (.type T) "__getitem__"=pure (some (.builtin id))/\s.TypeIs v T/\wpAny (model X.prog X.w) X.A (getItem v (.ref sl)) (EP X pins σ Q) X.xe s
theorem SlR.or{r r':V->Option Int->Option Int->Hp->VK->Prop}(h:SlR X r)(h':SlR X r'):SlR X (λx lo hi H Q=>r x lo hi H Q\/r' x lo hi H Q):=by
 intro pins s σ H x v vl vu lo hi sl Q I rx hs pl pu q;rcases q with q|q
 ·exact h pins s σ H x v vl vu lo hi sl Q I rx hs pl pu q
 ·exact h' pins s σ H x v vl vu lo hi sl Q I rx hs pl pu q
abbrev tSl(r:V->Option Int->Option Int->Hp->VK->Prop)(te:TE)(tl th:TO):TE:=fun σ H Q=>te σ H λx H1=>tl σ H1 λl H2=>th σ H2 λu H3=>r x l u H3 Q
theorem qze{r:V->Option Int->Option Int->Hp->VK->Prop}(hr:SlR X r)(he:PE X e te)(hl:PO X lo tl)(hu:PO X hi th):PE X (.Subscript e (.Slice lo hi none p2) pos) (tSl r te tl th):=by
 intro pins s σ H Q I h;refine Subscript_ (thn (he pins s σ H _ I h) λv s1 ⟨x,H1,I1,r1,q1⟩=>?_);refine wpAny_Slice (thn (hl pins s1 σ H1 _ I1 q1) λvl s2 ⟨l,H2,I2,pl,q2⟩=>thn (hu pins s2 σ H2 _ I2 q2) λvu s3 ⟨u,H3,I3,pu,q3⟩=>?_);rw[evalPart_none];refine X4 ?_;have I4:Inv X pins σ H3 { s3 with heap:=s3.heap.push { cls:=.type "slice",data:=.fields #[vl,vu,.none] } }:=I3.kept (t':=s3.toks) λb ob q=>X9 _ q
 obtain⟨T,id,hT,ht,hg⟩:=hr pins { s3 with heap:=s3.heap.push { cls:=.type "slice",data:=.fields #[vl,vu,.none] } } σ H3 x v vl vu l u s3.heap.objs.size Q I4 r1 (Heap.IsSliceOf.new ..) pl pu q3;show wpAny (model X.prog X.w) X.A (subscriptTail e (.Slice lo hi none p2) v (.ref s3.heap.objs.size)) (EP X pins σ Q) X.xe { s3 with heap:=s3.heap.push { cls:=.type "slice",data:=.fields #[vl,vu,.none] } };exact tail_any (ops:=[.ref s3.heap.objs.size,v]) ht hT hg (by with_unfolding_all rfl)
def Qj(xs:List V)(lo hi:Option Int):List V:=(xs.drop (HT.sIx xs.length 0 lo)).take (HT.sIx xs.length xs.length hi - HT.sIx xs.length 0 lo)
theorem kk2(xs:List V)(lo hi:Option Int):(Qj xs lo hi).length<=xs.length:=by
 unfold Qj;rw[List.length_take,List.length_drop];omega
def wvf(K:PySem.W.Frag):V->Option Int->Option Int->Hp->VK->Prop:=λx lo hi H Q=>∃a xs,x=.ref a/\SqT K H a xs /\
 ¬(HT.sIx xs.length 0 lo=0/\HT.sIx xs.length xs.length hi=xs.length)/\∀p,H p=none->Q (.ref p) (upd H p (.tup (Qj xs lo hi)))
theorem sl_tup:SlR X (wvf X.K):=by
 intro pins s σ H x v vl vu lo hi sl Q I rx hs pl pu h;obtain⟨a,xs,rfl,hx,hw,q⟩:=h;cases rx;obtain⟨a9,r,ht,hz⟩:=I.tuple hx;have ae:a9.toArray.size=xs.length:=by rw[X7];exact r.length.symm
 refine⟨"tuple",_,PyProof.Rows.slot_tuple_getitem.lookup,ht.typeIs,?_⟩;refine HT.getItem_tuple_cut ht hs pl pu (by rw[ae];exact hw) ?_ (by rw[ae];exact hz);rw[ae];refine⟨.ref s.heap.objs.size,_,I.laid (t':=s.toks) (o:=.tup (Qj xs lo hi)) (λb ob q=>X9 _ q) (X8 _) ?_,rfl,q _ (I.hok.fresh (X8 _))⟩;exact⟨Y0 (kk2 xs lo hi) hz,_,(r.drop (HT.sIx xs.length 0 lo)).take (HT.sIx xs.length xs.length hi - HT.sIx xs.length 0 lo),IsTupD.new _ _⟩
def vxp(K:PySem.W.Frag):R2:=λx y H Q=>∃a b xs ys,x=.ref a/\y=.ref b/\SqT K H a xs/\SqT K H b ys/\xs≠[]/\xs.length+ys.length<=sizeLine /\
 (ys=[]->Q (.ref a) H)/\(ys≠[]->∀p,H p=none->Q (.ref p) (upd H p (.tup (xs++ys))))
theorem Vals.nil_iff{xs:List V}{us:List Value}(r:Vals xs us):us=[]↔xs=[]:=by
 cases r with
 |nil=>simp
 |cons _ _=>simp
theorem vv7:OpR X (binaryOp .Add) (vxp X.K):=by
 intro pins s σ H x y v u Q I rx ry h;obtain⟨a,b,xs,ys,rfl,rfl,ha,hb,hx,hz,q1,q2⟩:=h;cases rx;cases ry;obtain⟨a9,r1,p1,_⟩:=I.tuple ha;obtain⟨fh,r2,p2,_⟩:=I.tuple hb;refine HT.cat_tup p1 p2 (λz=>hx (r1.nil_iff.mp z)) (λz=>⟨.ref a,H,I,rfl,q1 (r2.nil_iff.mp z)⟩) (λz=>?_) (by rw[<-r1.length,<-r2.length];exact hz);refine⟨.ref s.heap.objs.size,_,I.laid (t':=s.toks) (o:=.tup (xs++ys)) (λb ob q=>X9 _ q) (X8 _) ?_,rfl,q2 (λw=>z (r2.nil_iff.mpr w)) _ (I.hok.fresh (X8 _))⟩;exact⟨by rw[Xn];exact hz,_,r1.append r2,IsTupD.new _ _⟩
end
def ixN(n:Nat)(i:Int):Option Nat:=if 0<=i then(if i<n then some i.toNat else none)else if -(n:Int)<=i then some (i+n).toNat else none
def atI{α:Type}(xs:List α)(i:Int):Option α:=(ixN xs.length i).bind λj=>xs[j]?
theorem vvp{n:Nat}{i:Int}{j:Nat}(h:ixN n i=some j):seqIndex? i n=some j/\j<n/\-(n:Int)<=i/\i<n:=by
 unfold ixN at h
 by_cases h0:0<=i
 ·rw[Xb h0]at h
  by_cases h1:i<n
  ·rw[Xb h1]at h;have e:i.toNat=j:=oq9 h;exact⟨by rw[seqIndex_of h0 h1,e],by omega,by omega,h1⟩
  ·rw[Xe h1]at h;cases h
 ·rw[Xe h0]at h
  by_cases h1:-(n:Int)<=i
  ·rw[Xb h1]at h;have e:(i+n).toNat=j:=oq9 h;exact⟨by rw[seqIndex_neg (by omega) h1,e],by omega,h1,by omega⟩
  ·rw[Xe h1]at h;cases h
theorem kzh{α:Type}{xs:List α}{i:Int}{v:α}(h:atI xs i=some v):∃j,seqIndex? i xs.length=some j/\xs[j]?=some v/\j<xs.length/\-(xs.length:Int)<=i/\i<xs.length:=by
 unfold atI at h;cases e:ixN xs.length i with
 |none=>rw[e]at h;cases h
 |some j=>
  rw[e]at h;obtain⟨h1,h2,h3,h4⟩:=vvp e;exact⟨j,h1,h,h2,h3,h4⟩
def kvk(b:Expr):Prop:=∀o i,subscripted b false o i=operate [o,i] (getItem o i)
def IxR(X:Cx)(r:R2):Prop:=
 ∀(value slice:Expr) (pins:List (Addr×Obj)) (s:Shared) (σ:St) (H:Hp) (x y:V) (v u:Value) (Q:VK),Inv X pins σ H s->RelV x v->RelV y u->r x y H Q ->
  subscripted slice false v u=operate [v,u] (getItem v u)->wpAny (model X.prog X.w) X.A (subscriptTail value slice v u) (EP X pins σ Q) X.xe s
def MtR(X:Cx)(id:String)(r:V->List V->Hp->VK->Prop):Prop:=
 ∀(pins:List (Addr×Obj)) (s:Shared) (σ:St) (H:Hp) (x:V) (xs:List V) (v:Value) (us:List Value) (Q:VK),Inv X pins σ H s->RelV x v->Vals xs us->r x xs H Q ->
  wpAny (model X.prog X.w) X.A (call (.builtin id) (v::us)) (EP X pins σ Q) X.xe s
section
variable {X:Cx}{a b:Expr}{ta tb:TE}{pos:Pos}
theorem IxR.or{r r':R2}(h:IxR X r)(h':IxR X r'):IxR X (λx y H Q=>r x y H Q\/r' x y H Q):=by
 intro value slice pins s σ H x y v u Q I rx ry q hs;rcases q with q|q
 ·exact h value slice pins s σ H x y v u Q I rx ry q hs
 ·exact h' value slice pins s σ H x y v u Q I rx ry q hs
theorem vzg{r:R2}(hr:IxR X r)(ha:PE X a ta)(hb:PE X b tb)(hs:kvk b):PE X (.Subscript a b pos) (tOp r ta tb):=by
 intro pins s σ H Q I h;exact Subscript_ (wv3 ha hb I h λv u s2 x y H2 I2 rx ry q=>hr a b pins s2 σ H2 x y v u Q I2 rx ry q (hs _ _))
def wvl(K:PySem.W.Frag):R2:=λx y H Q=>∃p xs i v,x=.ref p/\y=.int i/\SqL K H p xs/\atI xs i=some v/\Q v H
def wvj(K:PySem.W.Frag):R2:=λx y H Q=>∃p xs i v,x=.ref p/\y=.int i/\SqT K H p xs/\atI xs i=some v/\Q v H
def wvk:R2:=λx y H Q=>∃z i c,x=.str z/\y=.int i/\z.length<=sizeLine/\atI z.cps.toList i=some c/\Q (.str ⟨#[c]⟩) H
theorem ix_list:IxR X (wvl X.K):=by
 intro value slice pins s σ H x y v u Q I rx ry h hs;obtain⟨p,xs,i,z,rfl,rfl,hq,he,q⟩:=h;cases rx;obtain⟨t,rfl⟩:=ry;obtain⟨a9,r,pl,hz⟩:=I.list hq;obtain⟨j,h1,h2,h3,h4,h5⟩:=kzh he;obtain⟨w,ew,oz⟩:=r.get h2;have hl:=r.length;have hn:=XV;have fin:EP X pins σ Q w s:=⟨z,H,I,oz,q⟩
 by_cases h0:0<=i
 ·have hj:i.toNat=j:=by
   rw[seqIndex_of h0 h5]at h1;exact oq9 h1
  exact item_listR pl.isList h0 (by omega) (by rw[hj];simpa using ew) fin hs
 ·have hj:(i+(a9.toArray.size:Int)).toNat=j:=by
   rw[seqIndex_neg (by omega) h4]at h1;rw[X7,<-hl];exact oq9 h1
  exact subscriptTail_builtinR (x:=w) pl.isList.typeIs slot_list_getitem.lookup
   (wpAny_getItem_list_neg (Q:=λr s'=>r=w/\EP X pins σ Q r s') pl.isList (by omega) (by rw[X7]<;>omega) (by omega) (by rw[hj];simpa using ew) ⟨rfl,fin⟩) hs
theorem ix_tup:IxR X (wvj X.K):=by
 intro value slice pins s σ H x y v u Q I rx ry h hs;obtain⟨p,xs,i,z,rfl,rfl,hq,he,q⟩:=h;cases rx;obtain⟨t,rfl⟩:=ry;obtain⟨a9,r,pl,hz⟩:=I.tuple hq;obtain⟨j,h1,h2,h3,h4,h5⟩:=kzh he;obtain⟨w,ew,oz⟩:=r.get h2;have hl:=r.length;have hn:=XV;have fin:EP X pins σ Q w s:=⟨z,H,I,oz,q⟩;exact subscriptTail_builtinR (x:=w) pl.typeIs slot_tuple_getitem.lookup
  (getItem_tuple (j:=j) (Q:=λr s'=>r=w/\EP X pins σ Q r s') pl (by omega) (by omega) (by rw[X7,<-hl];exact h1) (by simpa using ew) ⟨rfl,fin⟩) hs
theorem wje:IxR X wvk:=by
 intro value slice pins s σ H x y v u Q I rx ry h hs;obtain⟨z,i,c,rfl,rfl,hz,he,q⟩:=h;obtain⟨t,rfl⟩:=rx;obtain⟨t',rfl⟩:=ry;obtain⟨j,h1,h2,h3,h4,h5⟩:=kzh he;have hl:z.cps.toList.length=z.length:=by simp[Str.length]
 rw[hl]at h1 h4 h5;have hn:=XV;exact tail_any (typeIs_str s z t) slot_str_getitem.lookup (getItem_str (c:=c) (by
  have e1:decide (i < -(2 ^ 63:Int))=false:=Xa (by omega);have e2:decide (i>=2 ^ 63)=false:=Xa (by omega);rw[e1,e2,Bool.or_false]) (by rw[h1];simpa using h2) ⟨.str ⟨#[c]⟩,H,I.tok _,⟨_,rfl⟩,q⟩) hs
def rIx(K:PySem.W.Frag):R2:=λx y H Q=>wvl K x y H Q\/wvj K x y H Q\/wvk x y H Q
theorem vk7:IxR X (rIx X.K):=ix_list.or (ix_tup.or wje)
theorem kvt(lo hi:Option Int)(n:Nat):(sliceBounds lo hi none n).1=((HT.sIx n 0 lo:Nat):Int)/\(sliceBounds lo hi none n).2.1=((HT.sIx n n hi:Nat):Int)/\(sliceBounds lo hi none n).2.2=1:=by
 refine⟨?_,?_,rfl⟩
 ·cases lo with
  |none=>simp[sliceBounds,HT.sIx]
  |some i=>
   simp only[sliceBounds,HT.sIx,Option.getD_none,show(1:Int)>0 by decide,if_true]
   by_cases h:i<0
   ·simp only[h,if_true]<;>omega
   ·simp only[h,if_false]<;>omega
 ·cases hi with
  |none=>simp[sliceBounds,HT.sIx]
  |some i=>
   simp only[sliceBounds,HT.sIx,Option.getD_none,show(1:Int)>0 by decide,if_true]
   by_cases h:i<0
   ·simp only[h,if_true]<;>omega
   ·simp only[h,if_false]<;>omega
theorem kqj(a9:List Value)(lo hi:Option Int):slicePick a9.toArray lo hi none=((a9.drop (HT.sIx a9.length 0 lo)).take (HT.sIx a9.length a9.length hi - HT.sIx a9.length 0 lo)).toArray:=by
 obtain⟨h1,h2,h3⟩:=kvt lo hi a9.toArray.size;unfold slicePick;rw[h1,h2,h3];simp only[sliceRange_one,pick_run,X7]<;>rfl
def wvh(K:PySem.W.Frag):V->Option Int->Option Int->Hp->VK->Prop:=λx lo hi H Q=>∃a xs,x=.ref a/\SqL K H a xs/\∀p,H p=none->Q (.ref p) (upd H p (.lst (Qj xs lo hi)))
theorem sl_list:SlR X (wvh X.K):=by
 intro pins s σ H x v vl vu lo hi sl Q I rx hs pl pu h;obtain⟨a,xs,rfl,hx,q⟩:=h;cases rx;obtain⟨a9,r,ht,hz⟩:=I.list hx;have ae:=r.length;refine⟨"list",_,slot_list_getitem.lookup,ht.isList.typeIs,?_⟩;refine wpAny_getItem_list_slice ht.isList hs pl pu .none (by simp) ?_ (by rw[X7]<;>omega);rw[kqj,<-ae];refine⟨.ref s.heap.objs.size,_,I.laid (t':=s.toks) (o:=.lst (Qj xs lo hi)) (λb ob q=>X9 _ q) (X8 _) ?_,rfl,q _ (I.hok.fresh (X8 _))⟩;exact⟨Y0 (kk2 xs lo hi) hz,_,0,(r.drop (HT.sIx xs.length 0 lo)).take (HT.sIx xs.length xs.length hi - HT.sIx xs.length 0 lo),Xj _ rfl⟩
theorem kw5:OpR X (compareOp .NotIn) (λx y H Q=>∃i j,x=.str i/\y=.str j/\Q (.bl (!(!(Builtin.Str.occurrences j i 0 j.length 1).isEmpty))) H):=by
 intro pins s σ H x y v u Q I rx ry h;obtain⟨i,j,rfl,rfl,q⟩:=h;obtain⟨t,rfl⟩:=rx;obtain⟨t',rfl⟩:=ry;exact notIn_str ⟨.bl _,H,I,rfl,q⟩
theorem call_len_seq:CallR X (.builtin "len") (λxs H Q=>∃p ys,xs=[.ref p]/\(SqL X.K H p ys\/SqT X.K H p ys)/\Q (.int ys.length) H):=by
 intro pins s σ H xs us Q I r h;obtain⟨p,ys,rfl,hq,q⟩:=h;obtain⟨u,rfl,rx⟩:=zJ r;cases rx;have hn:=XV;rcases hq with hq|hq
 ·obtain⟨a9,r',pl,hz⟩:=I.list hq;have ae:=r'.length;exact Calls.call_len_list pl.isList (by simp only[X7]<;>omega) ⟨.int ys.length,H,I.tok _,⟨s.toks+1,by rw[X7,ae]⟩,q⟩
 ·obtain⟨a9,r',pl,hz⟩:=I.tuple hq;have ae:=r'.length;exact len_tuple pl (by simp only[X7]<;>omega) ⟨.int ys.length,H,I.tok _,⟨s.toks+1,by rw[X7,ae]⟩,q⟩
theorem call_len_str:CallR X (.builtin "len") (λxs H Q=>∃z,xs=[.str z]/\z.length<=sizeLine/\Q (.int z.length) H):=by
 intro pins s σ H xs us Q I r h;obtain⟨z,rfl,hz,q⟩:=h;obtain⟨u,rfl,t,rfl⟩:=zJ r;have hn:=XV;exact len_str (by omega) ⟨.int z.length,H,I.tok _,⟨_,rfl⟩,q⟩
theorem CallR.or{f:Value}{r r':List V->Hp->VK->Prop}(h:CallR X f r)(h':CallR X f r'):CallR X f (λxs H Q=>r xs H Q\/r' xs H Q):=by
 intro pins s σ H xs us Q I rs q;rcases q with q|q
 ·exact h pins s σ H xs us Q I rs q
 ·exact h' pins s σ H xs us Q I rs q
theorem kwx:CallR X (.type "list") (λxs H Q=>∃p ys,xs=[.ref p]/\(SqL X.K H p ys\/SqT X.K H p ys)/\∀l,H l=none->Q (.ref l) (upd H l (.lst ys))):=by
 intro pins s σ H xs us Q I r h;obtain⟨p,ys,rfl,hq,q⟩:=h;obtain⟨u,rfl,rx⟩:=zJ r;cases rx;have fin:∀(a9:List Value),Vals ys a9->ys.length<=sizeLine->∀(h':Heap) (c':Nat),(∀b o',s.heap.get? b=some o'->h'.get? b=some o') ->
   h'.get? s.heap.objs.size=some { cls:=.type "list",dict:=none,data:=.seq a9.toArray c',slots:=#[] }->EP X pins σ Q (.ref s.heap.objs.size) { s with heap:=h' }:=λa9 r' hz h' c' kp e=>
  ⟨.ref s.heap.objs.size,_,I.laid (t':=s.toks) kp (X8 _) (show ObjOk X.prog X.w _ h' _ (.lst ys)from⟨hz,a9,c',r',e⟩),rfl,q _ (I.hok.fresh (X8 _))⟩
 rcases hq with hq|hq
 ·obtain⟨a9,r',pl,hz⟩:=I.list hq;have ae:=r'.length;obtain⟨o,ho,hc,n,hd⟩:=pl.isList;exact call_list_seq p (.inl rfl) ho hc hd (λh' c' kp e=>fin a9 r' hz h' c' kp e) (by simp only[X7]<;>omega)
 ·obtain⟨a9,r',pl,hz⟩:=I.tuple hq;have ae:=r'.length;obtain⟨o,ho,hc,n,hd⟩:=pl;exact call_list_seq p (.inr rfl) ho hc hd (λh' c' kp e=>fin a9 r' hz h' c' kp e) (by simp only[X7]<;>omega)
theorem kvc:CallR X (.type "tuple") (λxs H Q=>∃p ys,xs=[.ref p]/\((SqL X.K H p ys/\∀l,H l=none->Q (.ref l) (upd H l (.tup ys)))\/(SqT X.K H p ys/\Q (.ref p) H))):=by
 intro pins s σ H xs us Q I r h;obtain⟨p,ys,rfl,h⟩:=h;obtain⟨u,rfl,rx⟩:=zJ r;cases rx;rcases h with⟨hq,q⟩|⟨hq,q⟩
 ·obtain⟨a9,r',pl,hz⟩:=I.list hq;have ae:=r'.length;refine call_tuple_list pl.isList (λh' kp=>?_) (by simp only[X7]<;>omega);have I1:Inv X pins σ H { s with heap:=h' }:=I.kept (t':=s.toks) kp;have I2:Inv X pins σ (upd H h'.objs.size (.tup ys)) { s with heap:=h'.push { cls:=.type "tuple",data:=.seq a9.toArray } }:=
   I1.laid (t':=s.toks) (λb o e=>X9 _ e) (X8 _) (show ObjOk X.prog X.w _ _ _ (.tup ys)from⟨hz,a9,r',IsTupD.new _ _⟩)
  exact⟨.ref h'.objs.size,_,I2,rfl,q _ (I1.hok.fresh (X8 _))⟩
 ·obtain⟨a9,r',pl,hz⟩:=I.tuple hq;exact call_tuple_same pl ⟨.ref p,H,I,rfl,q⟩
def tyV(K : PySem.W.Frag)(T : String)(x : V)(H : Hp): Prop:= match x with
  |.str _=>T = "str"
  |.int _=>T = "int"
  |.ref p=>(T = "list" /\ ∃xs, SqL K H p xs) \/ (T = "tuple" /\ ∃o, K.lookup p = some o /\ o.cls = .type "tuple" /\ o.dict = none) \/
      (T = "dict" /\ ((∃kvs, H p = some (.dK kvs)) \/ ∃kvs, H p = some (.dT kvs))) \/ (T = "set" /\ ∃S n, H p = some (.set S n))
  |_=>False
theorem vjh{pins:List (Addr×Obj)}{σ:St}{H:Hp}{s:Shared}{T:String}{x:V}{v:Value}(I:Inv X pins σ H s)(r:RelV x v)(ty:tyV X.K T x H):
  s.TypeIs v T/\∀a,v=.ref a->∃ob,s.heap.get? a=some ob/\ob.dict=none:=by
 cases x with
 | str z=>
  obtain⟨t,rfl⟩:=r;cases(show T="str" from ty);exact⟨typeIs_str s z t,λ_ e=>nomatch e⟩
 | int i=>
  obtain⟨t,rfl⟩:=r;cases(show T="int" from ty);exact⟨typeIs_int s i t,λ_ e=>nomatch e⟩
 | ref p=>
  cases r;rcases ty with⟨rfl,xs,hq⟩|⟨rfl,o,hk,hc,hd⟩|⟨rfl,hk⟩|⟨rfl,S,n,hk⟩
  ·obtain⟨a9,_,pl,_⟩:=I.list hq;refine⟨pl.isList.typeIs,λa e=>?_⟩;cases e;obtain⟨o,n,e,c,hd,_⟩:=pl;exact⟨o,e,hd⟩
  ·refine⟨⟨o,I.kIn p o hk,hc⟩,λa e=>?_⟩;cases e;exact⟨o,I.kIn _ o hk,hd⟩
  ·have z:∃o,s.heap.get? p=some o/\o.ExactDict:=by
    rcases hk with⟨kvs,hk⟩|⟨kvs,hk⟩
    ·obtain⟨_,_,_,_,o,_,_,e,ex,_⟩:=I.hok p _ hk;exact⟨o,e,ex⟩
    ·obtain⟨_,_,_,_,o,_,_,e,ex,_⟩:=I.hok p _ hk;exact⟨o,e,ex⟩
   obtain⟨o,e,ex⟩:=z;refine⟨⟨o,e,ex.1⟩,λa e2=>?_⟩;cases e2;exact⟨o,e,ex.2.1⟩
  ·obtain⟨o,_,_,_,e,ex,_⟩:=I.hok p _ hk;refine⟨⟨o,e,ex.1⟩,λa e2=>?_⟩;cases e2;exact⟨o,e,ex.2.1⟩
 |_=>exact False.elim ty
abbrev wvc(K:PySem.W.Frag)(T:String)(r:V->List V->Hp->VK->Prop)(to:TE):TE:=fun σ H Q=>to σ H λx H1=>tyV K T x H1/\r x [] H1 Q
abbrev tBM(K:PySem.W.Frag)(T:String)(r:V->List V->Hp->VK->Prop)(to:TE)(t:TA):TE:=fun σ H Q=>to σ H λx H1=>tyV K T x H1/\t σ H1 λxs H2=>r x xs H2 Q
variable {o e:Expr}{es:List Expr}{to:TE}{t:TA}{name:Str}{apos aa:Pos}{T id:String}{r:V->List V->Hp->VK->Prop}
theorem vzh(pa:PlainAttrs T)(slot:Slot T name id)(ll:typeOf (.builtin id)=pure (.type "method_descriptor"))(hm:MtR X id r)(ho:PE X o to)
  (ao:attributeBase o name X.env (eval o X.env)=eval o X.env:=by rfl) (ak:(apos.endLine==aa.line)=true:=by rfl):PE X (.Call (.Attribute o name apos) [] [] aa) (wvc X.K T r to):=by
 intro pins s σ H Q I h;refine wpAny_Call_method0_late ao ak (thn (ho pins s σ H _ I h) λv s1 ⟨x,H1,I1,r1,ty,q1⟩=>?_);obtain⟨h1,h2⟩:=vjh I1 r1 ty;exact⟨T,id,pa,slot,ll,h1,h2,Yo rfl (PySem.evalArgs_none (hm pins s1 σ H1 x [] v [] Q I1 r1 .nil q1))⟩
theorem wq8(pa:PlainAttrs T)(slot:Slot T name id)(ll:typeOf (.builtin id)=pure (.type "method_descriptor"))(hm:MtR X id r)(ho:PE X o to)(ha:PA X (e::es) t)
  (ao:attributeBase o name X.env (eval o X.env)=eval o X.env:=by rfl)
  (d8:((backTo aa (starEach (e::es) X.env)).all (λx=>!x.1)&&(backToKw aa (keywordEach [] X.env)).all (λx=>x.1.isSome)
   && decide ((e::es).length+([]:List Keyword).length+(if([]:List Keyword).isEmpty then 0 else 1)<30))=true:=by rfl)
  (ak:(apos.endLine==aa.line)=true:=by rfl) (hs:starEach (e::es) X.env=(false,eval e X.env)::starEach es X.env:=by rfl) (au:(backTo aa (starEach es X.env)).any (·.1)=false:=by rfl):
  PE X (.Call (.Attribute o name apos) (e::es) [] aa) (tBM X.K T r to t):=by
 intro pins s σ H Q I h;refine wpAny_Call_method_late ao d8 ak rfl (thn (ho pins s σ H _ I h) λv s1 ⟨x,H1,I1,r1,ty,q1⟩=>?_);obtain⟨h1,h2⟩:=vjh I1 r1 ty;refine⟨T,id,pa,slot,ll,h1,h2,?_⟩;have hA:=ha aa pins s1 σ H1 _ I1 q1;rw[hs]at hA ⊢;refine Yo (by show(false||(backTo aa (starEach es X.env)).any (·.1))=false;rw[au]<;>rfl) (Calls.evalArgs_plain ?_);exact thn hA λus s2 ⟨vs,H2,I2,r2,q2⟩=>hm pins s2 σ H2 x vs v us Q I2 r1 r2 q2
end
def MtM(X:Cx)(id:String)(r:V->List V->Hp->VK->Prop):Prop:=
 ∀(pins:List (Addr×Obj)) (s:Shared) (σ:St) (H:Hp) (x:V) (xs:List V) (v:Value) (us:List Value) (Q:VK),Inv X pins σ H s->RelV x v->Vals xs us->r x xs H Q ->
  wpAny (model X.prog X.w) X.A (call (.builtin id) (v::us)) (EP X pins σ Q) X.xe s
theorem Vals.one:∀{x:V} {us:List Value},Vals [x] us->∃u,us=[u]/\RelV x u
 |_,_,.cons r .nil=>⟨_,rfl,r⟩
theorem Vals.zero:∀{us:List Value},Vals [] us->us=[]
 |_,.nil=>rfl
theorem Vals.reverse{xs:List V}{us:List Value}(h:Vals xs us):Vals xs.reverse us.reverse:=by
 induction h with
 |nil=>exact .nil
 |cons r t ih=>rw[List.reverse_cons,List.reverse_cons];exact Vals.append ih (.cons r .nil)
theorem Vals.rep{xs:List V}{us:List Value}(h:Vals xs us):∀k:Nat,Vals (List.replicate k xs).flatten (List.replicate k us).flatten
 |0=>.nil
 |k+1=>by
  rw[List.replicate_succ,List.replicate_succ,Yl,Yl];exact Vals.append h (Vals.rep h k)
theorem kjr(a9:List Value):∀(k:Nat) (ac:List Value),
  List.foldl (λx1 x2=>x1++x2) ac.toArray (List.replicate k a9.toArray)=(ac++(List.replicate k a9).flatten).toArray
 | 0,ac=>by simp
 | k+1,ac=>by
  have e:ac.toArray++a9.toArray=(ac++a9).toArray:=by simp
  have e2:(ac++a9)++(List.replicate k a9).flatten=ac++(List.replicate (k+1) a9).flatten:=by
   rw[List.replicate_succ,Yl,Xq]
  rw[<-e2,<-kjr a9 k (ac++a9),<-e,List.replicate_succ,List.foldl_cons]
section
variable {X:Cx}{pins:List (Addr×Obj)}{σ:St}{H:Hp}{s:Shared}{l b:Addr}{xs ys zs:List V}
theorem Inv.lset{a9 its':List Value}{n:Nat}{f:Array Value->Array Value}{t':Nat}(I:Inv X pins σ H s)(hH:H l=some (.lst xs))
  (e:s.heap.get? l=some { cls:=.type "list",data:=.seq a9.toArray n }) (hf:f a9.toArray=its'.toArray) (hv:Vals ys its') (hz:ys.length<=sizeLine):
  Inv X pins σ (upd H l (.lst ys)) { s with heap:=s.heap.update l (Obj.mapSeq f),toks:=t' }:=by
 have q:=PySem.IsL.update e f;rw[hf]at q;refine I.write (x:=l) (e:=l) (by rw[hH];exact trivial) (.inl rfl) (λb' u hb hu=>(Heap.get?_update_other s.heap (Obj.mapSeq f) (Ne.symm hb)).trans hu) ⟨_,q⟩ ?_;exact⟨hz,its',_,hv,q⟩
theorem Inv.lnew{a9:List Value}{t':Nat}(I:Inv X pins σ H s)(hv:Vals ys a9)(hz:ys.length<=sizeLine):
  Inv X pins σ (upd H s.heap.objs.size (.lst ys)) { s with heap:=s.heap.push { cls:=.type "list",data:=.seq a9.toArray },toks:=t' }:=
 I.laid (λ_ _ q=>X9 _ q) (X8 _) ⟨hz,a9,0,hv,Xj _ rfl⟩
theorem Inv.fresh(I:Inv X pins σ H s):H s.heap.objs.size=none:=I.hok.fresh (X8 _)
theorem Inv.lstM(I:Inv X pins σ H s)(hH:H l=some (.lst xs)):xs.length<=sizeLine/\∃(a9:List Value) (n:Nat),Vals xs a9/\xs.length=a9.length/\s.heap.get? l=some { cls:=.type "list",data:=.seq a9.toArray n }:=by
 obtain⟨z,a9,n,r,e⟩:=I.hok l _ hH;exact⟨z,a9,n,r,r.length,e⟩
theorem qzk{n:Nat}(h:n<=sizeLine):Builtin.List.listTooLong n=false:=by
 unfold Builtin.List.listTooLong;exact Xa (by omega)
end
section
variable {X:Cx}
def ZQ:V->List V->Hp->VK->Prop:=λx vs H Q=>∃l xs y,x=.ref l/\vs=[y]/\H l=some (.lst xs)/\xs.length<sizeLine/\Q .non (upd H l (.lst (xs++[y])))
theorem jx8:MtM X "list.append" ZQ:=by
 intro pins s σ H x vs v us Q I rx rv h;obtain⟨l,xs,y,rfl,rfl,hH,hz,q⟩:=h;cases rx;obtain⟨u,rfl,ru⟩:=rv.one;obtain⟨z,a9,n,r,hl,e⟩:=I.lstM hH;refine call_meets F.slot_list_append ⟨_,e,rfl⟩ F.entry_list_append (F.args_list_append_2 _ _) (PySem.list_append l a9.toArray n u (by rw[X7];omega)) ⟨e,?_⟩;refine⟨.non,_,I.lset (its':=a9++[u]) hH e (by simp) (r.append (.cons ru .nil)) ?_,rfl,q⟩;rw[Xn,List.length_singleton];omega
def qj3:V->List V->Hp->VK->Prop:=λx vs H Q=>∃l xs,x=.ref l/\vs=[]/\H l=some (.lst xs)/\Q .non (upd H l (.lst xs.reverse))
theorem qkj:MtM X "list.reverse" qj3:=by
 intro pins s σ H x vs v us Q I rx rv h;obtain⟨l,xs,rfl,rfl,hH,q⟩:=h;cases rx;have hus:=rv.zero;subst hus;obtain⟨z,a9,n,r,hl,e⟩:=I.lstM hH;refine call_meets F.slot_list_reverse ⟨_,e,rfl⟩ F.entry_list_reverse (F.args_list_reverse_1 _) (AutoSeq1.list_reverse_list_0 l a9.toArray n (by rw[X7];omega)) ⟨e,?_⟩;refine⟨.non,_,I.lset (its':=a9.reverse) hH e (by simp) r.reverse ?_,rfl,q⟩;rw[List.length_reverse];omega
def vjn:V->List V->Hp->VK->Prop:=λx vs H Q=>∃l xs,x=.ref l/\vs=[]/\H l=some (.lst xs)/\Q .non (upd H l (.lst []))
theorem qzn:MtM X "list.clear" vjn:=by
 intro pins s σ H x vs v us Q I rx rv h;obtain⟨l,xs,rfl,rfl,hH,q⟩:=h;cases rx;have hus:=rv.zero;subst hus;obtain⟨z,a9,n,r,hl,e⟩:=I.lstM hH;refine call_meets F.slot_list_clear ⟨_,e,rfl⟩ F.entry_list_clear (F.args_list_clear_1 _) (AutoSeq1.list_clear_list_0 l a9.toArray n (by rw[X7];omega)) ⟨e,?_⟩;exact⟨.non,_,I.lset (its':=[]) (ys:=[]) hH e rfl .nil (Xv _),rfl,q⟩
def wk7:R2:=λx y H Q=>∃l k xs,x=.ref l/\y=.int k/\H l=some (.lst xs)/\-(2 ^ 63)<=k/\k<2 ^ 63/\xs.length*k.toNat<=sizeLine /\
 ∀p,H p=none->Q (.ref p) (upd H p (.lst (List.replicate k.toNat xs).flatten))
theorem qvt{α:Type}(xs:List α)(k:Nat):(List.replicate k xs).flatten.length=k*xs.length:=by
 induction k with
 |zero=>simp
 |succ k ih=>rw[List.replicate_succ,Yl,Xn,ih,Nat.succ_mul,Nat.add_comm]
end
end L2
namespace Att
open PySem PySem.W PySem.Calls PyProof.Rows
theorem kjl{P:Params}{h:Heap}:∀(ns:List Int) (vs:List Value),WellAll P h vs (ns.map WData.int)->IntsAre vs ns:=by
 intro ns
 induction ns with
 | nil=>
  intro vs w;rw[List.map_nil]at w;cases w;exact .nil
 | cons n ns ih=>
  intro vs w;rw[List.map_cons]at w;cases w with
  |cons a b=>
   cases a;exact .cons _ _ (ih _ b)
theorem script_of{l : OpenLaw}{n : Nat}(hn : l.most = some n){P : Params}{h : Heap}{args : List WData}{mv : List Value}
    (lq : l.row.toRowW.claim.pre args = true) (qu : WellAll P h mv args):
    ∃ a vs ns, mv = [Value.ref a] /\ args = [WData.list (ns.map WData.int)] /\ h.get? a = some { cls:= .type "list", data:= .seq vs.toArray } /\ IntsAre vs ns /\ ns.length<=n:= by
  have km : WShape.hasAll [] args [.list .int] = true:= (pre_splitW lq).1;have hc : l.pre.holds [] { args:= args } = true:= (pre_splitW lq).2;obtain⟨d, r, rfl, h1, h2⟩:= hasAllW_cons km;obtain rfl:= hasAllW_nil h2;obtain⟨xs, rfl, h3⟩:= hasW_list h1;obtain⟨ns, rfl⟩:= items_int h3;have ae : ns.length<=n:= by
    unfold OpenLaw.pre at hc;have h4 : (WTm.not (.lt (.lit (.int (n : Int))) (.len (.arg 0)))).holds [] { args:= [.list (ns.map .int)] } = true:= by
      have h4:= (holds_andW hc).1;rw[hn]at h4;exact h4
    have h5:= condW_of h4 (w_not (w_lt w_lit (w_len_list (w_arg rfl))));rw[X3]at h5;refine Nat.le_of_not_lt λq=> ?_
    have q' : (n : Int)<((ns.length : Nat): Int):= by omega
    first
      |(rw[Xd q']at h5; exact absurd h5 (by decide))
      |(simp at h5; omega)
  cases qu with
  | cons w1 w2=>
    cases w2;cases w1 with
    |list ho mz=>exact⟨_, _, ns, rfl, rfl, ho, kjl ns _ mz, ae⟩
theorem post_true(l:OpenLaw)(args:List WData):l.row.toRowW.claim.post args (.bool true) args=true:=
 postW_of (r:=l.row.toRowW) (X:=(true==true))
  (show WShape.has [] (.bool true) .bool=true by first|rfl|decide|simp[WShape.has,WShape.arms,WShape.armsAll])
  (show(WTm.eq .res (.lit (.bool true))).value [] { args:=args,res:=some (.bool true),after:=args }=some (.bool (true==true))from w_eq_bool (w_res rfl) w_lit) rfl
end Att
namespace L2
open PySem PySem.Spec PyProof.Rows
def wv8(H:Hp):Prop:=∀b,H b=none\/∃o xs,H b=some (.frz o (.lst xs))
def Q7(s:Stmt):Arguments:=match s with
 |.FunctionDef _ a _ _ _ _ _ _ _ _=>a
 |_=>{ posonlyargs:=[],args:=[],vararg:=none,kwonlyargs:=[],kw_defaults:=[],kwarg:=none,defaults:=[] }
def Q2(s:Stmt):List Stmt:=match s with
 |.FunctionDef _ _ b _ _ _ _ _ _ _=>b
 |_=>[]
def kQ(s:Stmt):Scope:=match s with
 |.FunctionDef _ _ _ _ _ _ sc _ _ _=>sc
 |_=>{ kind:=.function,names:=[],isGenerator:=false,isCoroutine:=false }
abbrev E0:XK:=λ_ _ _=>False
structure Fun (K:PySem.W.Frag)(x qual:Str)(st:Stmt)(f:Addr)(fd:FuncData):Prop where
 ex:∃(oc:Value) (od:Option Addr) (kV fq pm:Value) (an:Option Addr) (av ct:Value) (mh:Array (Option Value)),
  fd=PySem.W.fnOf x qual (Q7 st) (Q2 st) (kQ st) .none kV fq pm an av ct/\K.lookup f=some ⟨oc,od,.func fd,mh⟩/\PySem.W.codeIn K av qual=true
 kp:PySem.W.keepIn K (.ref f)=true
section
variable {P:Program}{w:World}{K:PySem.W.Frag}{mg:Str->Option Value}{base:Heap}
theorem Fun.binds{x qual:Str}{st:Stmt}{f:Addr}{fd:FuncData}{ps:List Str}(F:Fun K x qual st f fd)
  (h:∀(kV fq pm:Value) (an:Option Addr) (av ct:Value) (us:List Value),us.length=ps.length->bindArgs (PySem.W.fnOf x qual (Q7 st) (Q2 st) (kQ st) .none kV fq pm an av ct) ⟨us,[]⟩=pure (ps.zip us)):Binds K fd ps []:=by
 obtain⟨oc,od,kV,fq,pm,an,av,ct,mh,rfl,lk,i7⟩:=F.ex;exact .all (h kV fq pm an av ct)
theorem qwf{x qual:Str}{st:Stmt}{f:Addr}{oc:Value}{od an:Option Addr}{mh:Array (Option Value)}{kV fq pm av ct:Value}(l:K.lookup f=some ⟨oc,od,.func (PySem.W.fnOf x qual (Q7 st) (Q2 st) (kQ st) .none kV fq pm an av ct),mh⟩)
  (c:PySem.W.codeIn K av qual=true) (k:PySem.W.keepIn K (.ref f)=true):Fun K x qual st f (PySem.W.fnOf x qual (Q7 st) (Q2 st) (kQ st) .none kV fq pm an av ct):=⟨⟨oc,od,kV,fq,pm,an,av,ct,mh,rfl,l,c⟩,k⟩
end
section
variable {X:Cx}
theorem pv(i:Nat){x:Str}{pos:Pos}(hN:X.N[i]?=some x:=by rfl)(hv:Vis X.env.scope x:=by first|exact Or.inl rfl|exact Or.inr (Or.inl rfl)|exact Or.inr (Or.inr rfl))(hd:(x==("__debug__":Str))=false:=by decide)
  (i7:(x==("__classdict__":Str))=false:=by decide):PE X (.Name x pos) (J9 i):=vzb hN hv hd i7
end
def k8(H H':Hp):Prop:=∀b o,H b=some o->H' b=some o
section
variable {κ:Type}[DecidableEq κ]
theorem KV.length{kvs:List (κ×V)}{vs:List (κ×Value)}(r:KV kvs vs):kvs.length=vs.length:=Paired.length r
end
section
variable {P:Program}{w:World}{H:Hp}{h:Heap}{a:Addr}
theorem wks{u:HO}(ok:HOk P w H h)(e:Rd H a u):ObjOk P w H h a u:=e.ok ok
theorem wqv{kvs:List (Key×V)}(ok:HOk P w H h)(e:Rd H a (.dK kvs)):kvs.length<=sizeLine/\(a==sysModules)=false/\∃vs,KV kvs vs/\h.DictOf (kqz P w) a vs:=
 show ObjOk P w H h a (.dK kvs)from wks ok e
end
section
variable {X:Cx}{pins:List (Addr×Obj)}{σ:St}{H:Hp}{s:Shared}{a:Addr}{y v:V}{u r:Value}{o:Option V}{A:Around}{E:Value->Shared->Prop}
theorem Inv.big(I:Inv X pins σ H s):sysModules<s.heap.objs.size:=by
 have h:mainGlobals<s.heap.objs.size:=(I.mod.glob.keeps I.bk).lt;exact Nat.lt_trans (by decide) h
theorem qwt{h':Heap}{t':Nat}{ob:HO}(I:Inv X pins σ H s)(mu:Mut (H a))(hs:Heap.SameBut a s.heap h')(he:∃q,h'.get? a=some q)(new:ObjOk X.prog X.w (upd H a ob) h' a ob):
  Inv X pins σ (upd H a ob) { s with heap:=h',toks:=t' }:=
 I.write (x:=a) (e:=a) mu (.inl rfl) (λb q hb z=>(hs.2 b hb).trans z) he new
end
section
variable {X:Cx}{pins:List (Addr×Obj)}{σ:St}{H:Hp}{s:Shared}{a:Addr}{kvs:List (Key×V)}{k:Key}{u:Value}{A:Around}{E:Value->Shared->Prop}
theorem wqx{Q:Value->Shared->Prop}(I:Inv X pins σ H s)(e:Rd H a (.dK kvs))(h:∀t s',Inv X pins σ H s'->Q (.int kvs.length t) s'):wpAny (model X.prog X.w) A (call (.builtin "len") [.ref a]) Q E s:=by
 obtain⟨z,hd,vs,nq,dd⟩:=wqv I.hok e;refine call_len_dict hd dd (by rw[<-nq.length];rw[sizeLine_eq]at z;omega) ?_;rw[<-nq.length];exact h _ _ (I.tok _)
end
def vji:List (TE×TE)->St->Hp->(List (V×V)->Hp->Prop)->Prop
 |[],_,H,Q=>Q [] H
 |(tk,tv)::r,σ,H,Q=>tk σ H λx H1=>tv σ H1 λy H2=>vji r σ H2 λps H3=>Q ((x,y)::ps) H3
abbrev VV:List (V×V)->List (Value×Value)->Prop:=Paired λp q=>RelV p.1 q.1/\RelV p.2 q.2
def PPs(X:Cx)(pos:Pos)(keys:List (Option Expr))(mq:List Expr)(trs:List (TE×TE)):Prop:=
 ∀(pins:List (Addr×Obj)) (s:Shared) (σ:St) (H:Hp) (Q:List (V×V)->Hp->Prop),Inv X pins σ H s->vji trs σ H Q ->
  wpAny (model X.prog X.w) X.A (evalPairs (pairTrees keys mq X.env pos)) (λvs s'=>∃ps H',Inv X pins σ H' s'/\VV ps vs/\Q ps H') X.xe s
theorem vqq{X:Cx}{pos:Pos}:PPs X pos [] [] []:=λpins s σ H Q I h=>pairTrees_nil_walk ⟨[],H,I,.nil,h⟩
theorem qzb{X:Cx}{pos:Pos}{k v:Expr}{ks:List (Option Expr)}{vs:List Expr}{tk tv:TE}{trs:List (TE×TE)}(hk:PE X k tk)(hv:PE X v tv)(hr:PPs X pos ks vs trs):
  PPs X pos (some k::ks) (v::vs) ((tk,tv)::trs):=λpins s σ H Q I h=>
 pairTrees_cons_walk (thn (hk pins s σ H _ I h) λu s1 ⟨x,H1,I1,rx,q1⟩=>thn (hv pins s1 σ H1 _ I1 q1) λw2 s2 ⟨y,H2,I2,ry,q2⟩=>
  thn (hr pins s2 σ H2 _ I2 q2) λws s3 ⟨ps,H3,I3,nq,q3⟩=>⟨(x,y)::ps,H3,I3,.cons ⟨rx,ry⟩ nq,q3⟩)
structure M2 (X:Cx)(o:Expr)(m:Str)(apos:Pos)(e f:Expr)(aa:Pos):Prop where
 base:attributeBase o m X.env (eval o X.env)=eval o X.env
 few:((backTo aa (starEach [e,f] X.env)).all (λx=>!x.1)&&(backToKw aa (keywordEach [] X.env)).all (λx=>x.1.isSome)
  && decide (([e,f]:List Expr).length+([]:List Keyword).length+(if([]:List Keyword).isEmpty then 0 else 1)<30))=true
 line:(apos.endLine==aa.line)=true
 trees:backTo aa (starEach [e,f] X.env)=[(false,eval e X.env),(false,eval f X.env)]
section
variable {X:Cx}
theorem qx0:CallR X (.builtin "len") (λxs H Q=>∃a kvs,xs=[V.ref a]/\H a=some (.dK kvs)/\Q (.int kvs.length) H):=by
 intro pins s σ H xs us Q I r h;obtain⟨a,kvs,rfl,ha,q⟩:=h;obtain⟨u,rfl,ru⟩:=zJ r;cases ru;exact wqx I (.inl ha) λt s' I'=>⟨.int kvs.length,H,I',⟨t,rfl⟩,q⟩
end
end L2
set_option maxHeartbeats 4000000
namespace L3
open PySem PySem.Spec PyProof.Rows L2
abbrev qvy(db:List Expr)(env:Env):Sem Bool:=
 forIn db true λc r=>if r=true then do let ok <-isTrue c env (eval c env);pure (ForInStep.yield ok)else pure (ForInStep.yield r)
theorem jw8 (env : Env): ∀(l : List (Str × NameKind)) (cs : List (Str × Addr)), (∀y ∈ l, y.2 = .free -> ∃c, env.cells.lookup y.1 = some c) ->
    (∀x c, cs.lookup x = some c -> env.cells.lookup x = some c) ->
    ∃ cl, (forIn l cs (λ(x : Str × NameKind) (r : List (Str × Addr))=>if(x.2==NameKind.free) = true then do let a <-cellOf env x.1; pure (ForInStep.yield ((x.1, a)::r))else pure (ForInStep.yield r)): Sem (List (Str × Addr))) = pure cl /\
      (∀x c, cl.lookup x = some c -> env.cells.lookup x = some c) /\ (∀x c, cs.lookup x = some c -> ∃c', cl.lookup x = some c') /\ ∀y ∈ l, y.2 = .free -> ∃c, cl.lookup y.1 = some c
  | [], cs, _, hs=>⟨cs, rfl, hs, λx c h=>⟨c, h⟩, λ_ h=>nomatch h⟩
  | (n, k)::r, cs, hl, hs=>by
    by_cases hk : k = .free
    · subst hk
      obtain⟨c, hc⟩:= hl (n, .free) X2 rfl;have ji : ∀x d, ((n, c)::cs).lookup x = some d -> env.cells.lookup x = some d:= λx d h=>by
        rw[Yt]at h;cases hx : x==n with
        | true=>
          rw[hx]at h;have e : x = n:= by simpa using hx
          have e2 : c = d:= by simpa using h
          subst e; subst e2;exact hc
        | false=>rw[hx]at h; exact hs x d h
      obtain⟨cl, e, a, b, d⟩:= jw8 env r ((n, c)::cs) (λy hy=>hl y (lc9 _ hy)) ji;refine⟨cl, ?_, a, λx c' h=> ?_, λy hy hf=> ?_⟩
      · rw[List.forIn_cons]
        have q : cellOf env n = pure c:= by unfold cellOf; rw[hc]
        simp only[beq_self_eq_true, if_true, q, pure_bind];exact e
      · cases hx : x==n with
        | true=>exact b x c (by rw[Yt, hx])
        | false=>exact b x c' (by rw[Yt, hx]; exact h)
      · rcases List.mem_cons.mp hy with z|z
        · subst z
          exact b n c (by rw[Yt]; simp)
        · exact d y z hf
    · obtain⟨cl, e, a, b, d⟩:= jw8 env r cs (λy hy=>hl y (lc9 _ hy)) hs
      refine⟨cl, ?_, a, b, λy hy hf=> ?_⟩
      · rw[List.forIn_cons]
        have q : (k==NameKind.free) = false:= by simpa using hk
        simp only[q, Bool.false_eq_true, if_false, pure_bind];exact e
      · rcases List.mem_cons.mp hy with z|z
        · subst z
          exact absurd hf hk
        · exact d y z hf
theorem kq8{scope:Scope}{env:Env}(h:∀y∈scope.names,y.2=.free->∃c,env.cells.lookup y.1=some c):
  ∃cl,closureFor scope env=pure cl/\(∀x c,cl.lookup x=some c->env.cells.lookup x=some c)/\∀y∈scope.names,y.2=.free->∃c,cl.lookup y.1=some c:=by
 obtain⟨cl,e,a,_,d⟩:=jw8 env scope.names [] h (λx c h=>nomatch h);refine⟨cl,?_,a,d⟩;unfold closureFor;have e':=congrArg (λt:Sem (List (Str×Addr))=>t >>= pure) e
 simpa using e'
def lcX(X:Cx)(scope:Scope)(N:List Str)(cl:List (Str×Addr))(C:Addr)(s0:Shared)(H0:Hp)(fp:List Addr):Cx:=
 { X with N:=N,s₀:=s0,H₀:=H0,env:=compEnvC scope cl C X.env,outer:=X.stack,ex:=fp,fn:=λ_=>false,pn:=[],xe:=λ_ _=>False }
def J5(k:Nat)(R:List Nat)(σ:L2.St):L2.St:=List.replicate k none++R.map λj=>(σ[j]?).join
structure LcOk (X:Cx)(scope:Scope)(N:List Str)(k:Nat)(R:List Nat):Prop where
 kind:scope.kind=.function
 nocell:∀y∈scope.names,y.2≠.cell
 names:∀y∈scope.names,y.2=.local->scope.names.lookup y.1=some .local
 caps:∀y∈scope.names,y.2=.free->X.env.kindOf y.1=some .cell\/X.env.kindOf y.1=some .free
 len:N.length=k+R.length
 outs:∀i j x,R[i]?=some j->N[k+i]?=some x->X.N[j]?=some x/\scope.names.lookup x=some .free
def Qx(XN:List Str)(sc scope:Scope)(N:List Str)(k:Nat)(R:List Nat):Bool:=
 scope.names.all (λy=>y.2 != .cell)&&scope.names.all (λy=>y.2 != .local||scope.names.lookup y.1==some .local) &&
 scope.names.all (λy=>y.2 != .free||(sc.names.lookup y.1==some .cell||sc.names.lookup y.1==some .free)) &&
 (N.length==k+R.length)&&(R.zip (N.drop k)).all (λp=>XN[p.1]? == some p.2&&scope.names.lookup p.2==some .free)
theorem qjf{X:Cx}{scope:Scope}{N:List Str}{k:Nat}{R:List Nat}(hk:scope.kind=.function)(h:Qx X.N X.env.scope scope N k R=true):LcOk X scope N k R:=by
 unfold Qx at h;simp only[Bool.and_eq_true,List.all_eq_true,bne_iff_ne,Bool.or_eq_true,beq_iff_eq]at h;obtain⟨⟨⟨⟨h1,h2⟩,h3⟩,h4⟩,h5⟩:=h;refine⟨hk,λy hy=>h1 y hy,λy hy e=>(h2 y hy).resolve_left (λz=>z e),λy hy e=>(h3 y hy).resolve_left (λz=>z e),h4,λi j x e1 e2=>?_⟩;have m:(j,x)∈R.zip (N.drop k):=by
  refine Xh (i:=i) ?_;rw[List.getElem?_zip_eq_some];exact⟨e1,by rw[List.getElem?_drop];exact e2⟩
 exact h5 (j,x) m
theorem ZW {env : Env} {x : Str} {q : NameKind}: ∀{names : List (Str × NameKind)}, (names.map λ(n, k)=>if(k==NameKind.free&&env.scope.kind == .function&&env.kindOf n==some .cell)then(n, NameKind.cell)else(n, k)).lookup x = some q ->
    (x, q) ∈ names \/ (q = .cell /\ (x, NameKind.free) ∈ names)
  | [], h=>nomatch h
  | (n, k)::r, h=>by
    have h : List.lookup x ((if(k==NameKind.free&&env.scope.kind == .function&&env.kindOf n==some .cell) = true then(n, NameKind.cell)else(n, k))::(r.map λ(n, k)=>if(k==NameKind.free&&env.scope.kind == .function&&env.kindOf n==some .cell)then(n, NameKind.cell)else(n, k))) = some q:= h
    by_cases hc : (k==NameKind.free&&env.scope.kind == .function&&env.kindOf n==some .cell) = true
    · rw[Xb hc, Yt]at h
      cases hx : x==n with
      | true=>
        rw[hx]at h;have e : x = n:= by simpa using hx
        have e2 : NameKind.cell = q:= by simpa using h
        subst e;simp only[Bool.and_eq_true, beq_iff_eq]at hc;obtain⟨⟨e3, _⟩, _⟩:= hc;subst e3;exact .inr ⟨e2.symm, X2⟩
      | false=>
        rw[hx]at h;rcases ZW (names:= r) h with z|⟨z, y⟩
        · exact .inl (lc9 _ z)
        · exact .inr ⟨z, lc9 _ y⟩
    · rw[Xe hc, Yt]at h
      cases hx : x==n with
      | true=>
        rw[hx]at h;have e : x = n:= by simpa using hx
        have e2 : k = q:= by simpa using h
        subst e; subst e2;exact .inl X2
      | false=>
        rw[hx]at h;rcases ZW (names:= r) h with z|⟨z, y⟩
        · exact .inl (lc9 _ z)
        · exact .inr ⟨z, lc9 _ y⟩
section
variable {X:Cx}{pins:List (Addr×Obj)}{σ:L2.St}{H:Hp}{s:Shared}
theorem wj5{scope:Scope}{N:List Str}{k:Nat}{R:List Nat}{cl:List (Str×Addr)}{C:Addr}(sc:LcOk X scope N k R)(b9:∀y∈scope.names,y.2=.free->∃c,cl.lookup y.1=some c)
  {x:Str} (h:(compEnvC scope cl C X.env).kindOf x=some .cell\/(compEnvC scope cl C X.env).kindOf x=some .free):∃c,cl.lookup x=some c:=by
 rcases h with h|h
 ·rcases ZW (env:=X.env) (names:=scope.names) h with z|⟨_,z⟩
  ·exact absurd rfl (sc.nocell _ z)
  ·exact b9 _ z rfl
 ·rcases ZW (env:=X.env) (names:=scope.names) h with z|⟨z,_⟩
  ·exact b9 _ z rfl
  ·cases z
theorem wj6{scope:Scope}{N:List Str}{k:Nat}{R:List Nat}{cl:List (Str×Addr)}{C:Addr}{fp:List Addr}(I:Inv X pins σ H s)(sc:LcOk X scope N k R)(hf:∀b∈fp,wq X pins H b)(ho:∀b∈fp,∃o,s.heap.get? b=some o)
  (hC:s.heap.objs.size<=C) (f7:∀x c,cl.lookup x=some c->X.env.cells.lookup x=some c) (b9:∀y∈scope.names,y.2=.free->∃c,cl.lookup y.1=some c):(lcX X scope N cl C s H fp).Ok where
 mod:=I.ok.mod
 kind:=sc.kind
 glob:=I.ok.glob
 blt:=I.ok.blt
 above:=hC
 inj:=λx y c h1 h2=>I.ok.inj x y c (f7 _ _ h1) (f7 _ _ h2)
 has:=λx h=>wj5 sc b9 h
 cab:=λx c h=>by cases h
 hd:=I.ok.hd
 frames:=I.ok.frames
 stk:=.inl rfl
 exf:=λb hb=>by
  obtain⟨o,e⟩:=ho b hb;exact⟨Xy (Xg (Xf e) hC),λx c h=>(hf b hb).2.2.2.2.1 x c (f7 x c h)⟩
 bs:=λb o e=>I.bs b o e
 bsz:=Y0 I.ok.bsz I.sz
 noex:=λb o e hb=>by
  rcases(hf b hb).2.2.2.1 with z|z
  ·exact I.ok.noex b o e z
  ·exact absurd (Xg (Xf e) (Y0 I.ok.bsz z)) (Yj _)
 exfs:=λb hb hs=>by
  rcases List.mem_cons.mp (I.stkSub b hs)with z|z
  ·exact(hf b hb).2.1 z
  ·exact(hf b hb).2.2.1 z
 funs:=I.stack
 frf:=I.stkFree
theorem vxa(I:Inv X pins σ H s){a:Addr}(h:s.heap.objs.size<=a):a∉frs X.stack:=λz=>by
 rcases List.mem_cons.mp (I.stkSub a z)with e|e
 ·subst e;exact absurd (Xg I.lt h) (Yj _)
 ·exact I.nofs h e
theorem vvi {scope:Scope} {N:List Str} {k:Nat} {R:List Nat} {cl:List (Str×Addr)} {C D:Addr} {fp:List Addr} {h1:Heap} {t:Nat} {m:Str->Option Value} {oD:Obj} (I:Inv X pins σ H s) (sc:LcOk X scope N k R)
  (hf:∀ b∈fp,wq X pins H b) (ho:∀b∈fp,∃o,s.heap.get? b=some o)
  (hC:s.heap.objs.size<=C) (hD:s.heap.objs.size<=D) (ni:D≠C) (f7:∀x c,cl.lookup x=some c->X.env.cells.lookup x=some c) (b9:∀y∈scope.names,y.2=.free->∃c,cl.lookup y.1=some c)
  (gr:∀ b o,s.heap.get? b=some o->h1.get? b=some o) (hn:h1.Ns C m) (eD:h1.get? D=some oD) (dD:∀v,oD.data≠.cell v):
  Inv (lcX X scope N cl C s H fp) [(D,oD)] (J5 k R σ) H { s with heap:=h1,toks:=t } where
 ok:=wj6 I sc hf ho hC f7 b9
 os:=rfl
 bare:=I.bare
 base:=Un.kept gr
 loc:=⟨m,hn,λi x v e1 e2 vis=>by
  obtain⟨mX,hnX,hl⟩:=I.loc;unfold J5 at e2
  by_cases hi:i<k
  ·rw [Y9 (by rw[Yb];exact hi),List.getElem?_replicate,Xb hi]at e2;cases e2
  ·have hk:k<=i:=Nat.le_of_not_lt hi;rw [Y7 (by rw[Yb];exact hk),Yb,Y2]at e2;cases er:R[i - k]? with
   | none=>rw[er]at e2;cases e2
   | some j=>
    rw [er]at e2;have ej:(σ[j]?).join=some v:=by simpa using e2
    have ej':σ[j]?=some (some v):=by
     cases q:σ[j]? with
     | none=>rw[q]at ej;cases ej
     | some z=>rw[q]at ej;cases z with
      | none=>cases ej
      | some z=>rw[show z=v by simpa using ej]
    obtain⟨o1,o2⟩:=sc.outs (i - k) j x er (by rw[show k+(i - k)=i by omega];exact e1);have cap:=sc.caps (x,.free) (Yh o2) rfl;have visX:Vis X.env.scope x:=cap.elim (λz=>.inr (.inl z)) λz=>.inr (.inr z)
    obtain⟨u,ru,q⟩:=hl j x v o1 ej' visX;refine⟨u,ru,?_⟩;rcases q with⟨q,_⟩|⟨_,c,ec,hc⟩
    ·rcases cap with z|z
     ·rw[z]at q;cases q
     ·rw[z]at q;cases q
    ·obtain⟨c',ec'⟩:=b9 (x,.free) (Yh o2) rfl;have e:c'=c:=oq9 ((f7 x c' ec').symm.trans ec);subst e;refine .inr ⟨?_,c',ec',?_⟩
     ·rcases vis with z|z|z
      ·rcases ZW (env:=X.env) (names:=scope.names) z with y|⟨y,_⟩
       ·have y':=sc.names _ y rfl;rw[o2]at y';cases y'
       ·cases y
      ·exact .inl z
      ·exact .inr z
     ·obtain⟨o,h1,h2⟩:=hc;exact⟨o,gr _ _ h1,h2⟩⟩
 cell:=λx c h=>by
  obtain⟨v,o,h1,h2⟩:=I.cell x c (f7 x c h);exact⟨v,o,gr _ _ h1,h2⟩
 free:=I.hok.fresh hC
 freeC:=λx c h=>I.freeC x c (f7 x c h)
 pin:=λp hp=>by
  have e:p=(D,oD):=by
   have hp:p∈([]++[(D,oD)]:List (Addr×Obj)):=hp
   simpa using hp
  subst e;exact⟨eD,I.hok.fresh hD,ni,vxa I hD,dD⟩
 hok:=I.hok.kept gr
 len:=by
  show(J5 k R σ).length=N.length;unfold J5;rw[sc.len,Xn,Yb,X3]
theorem kwj{a:Addr}{o:HO}(I:Inv X pins σ H s)(hn:H a=none)(hL:a≠X.env.locals)(h1:a∈X.ex\/X.s₀.heap.objs.size<=a)(h2:∀x c,X.env.cells.lookup x=some c->c≠a)(h3:∀p∈X.pn++pins,p.1≠a)
  (new:ObjOk X.prog X.w (upd H a o) s.heap a o):Inv X pins σ (upd H a o) s:=by
 have hok:HOk X.prog X.w (upd H a o) s.heap:=λb u e=>by
  by_cases hb:b=a
  ·subst hb;rw[wQ]at e;cases e;exact new
  ·rw[qz hb]at e;exact(I.hok b u e).stay (λ_ _ _ q=>q) (λc q=>by rw[qz (zW q hn)];exact q) λc xs q=>by rw[qz (zW q hn)];exact q
 have na:∀b:Addr,b∉[a]->b≠a:=λb hb z=>hb (by rw[z];exact List.mem_singleton.mpr rfl)
 exact I.step (h':=s.heap) (H':=upd H a o) (g':=s.gens) (t':=s.toks) (d':=s.drawn) (ch:=[a])
  (λb hb=>by rw[List.mem_singleton.mp hb];exact⟨h1,hL,h2,h3⟩) (λb o _ _ _ e _=>e) (λb o _ _ _ e _=>⟨o.slots,e⟩) (λb o hb _ q=>by rw[qz (na b hb)];exact q)
  (λb o _ e=>⟨o,e⟩) (λb xs q=>by rw[qz (zW q hn)];exact q) (λb o u q=>by rw[qz (zW q hn)];exact q) (λb ps q=>⟨#[],by rw[qz (zW q hn),q];simp⟩)
  (λm hm=>hm) hok I.bare
end
def PTs(X:Cx)(db:List Expr)(t:TT):Prop:=
 ∀(pins:List (Addr×Obj)) (s:Shared) (σ:L2.St) (H:Hp) (Q:Bool->Hp->Prop),Inv X pins σ H s->t σ H Q->wpAny (model X.prog X.w) X.A (qvy db X.env) (TP X pins σ Q) X.xe s
abbrev tYes:TT:=λ_ H Q=>Q true H
theorem vqm{X:Cx}:PTs X [] tYes:=λ_ _ _ H _ I h=>wpAny_tests_nil ⟨H,I,h⟩
theorem vql{X:Cx}{c:Expr}{t:TT}(hc:PT X c t):PTs X [c] t:=λpins s σ H Q I h=>wpAny_tests_one (hc pins s σ H Q I h)
def LcW(g:TG)(tt:TT)(te:TE)(Q:VK)(J:It)(W:Nat->Nat->List V->L2.St->Hp->Prop):Prop:=∀i m ys σ H,W i m ys σ H ->
 (J.stop i H/\ys.length<=sizeLine/\∀p,H p=none->Q (.ref p) (upd H p (.lst ys))) \/
 (J.go i H/\∀x H1,J.yld i H x H1->g x σ H1 fun σ2 H2=>∃(Ny:VK) (Nn:Hp->Prop),(∀y H4,Ny y H4->ys.length<=sizeLine/\∃m',m'<m/\W (i+1) m' (ys++[y]) σ2 H4) /\
  (∀H4,Nn H4->∃m',m'<m/\W (i+1) m' ys σ2 H4)/\tt σ2 H2 λb H3=>if b=true then te σ2 H3 Ny else Nn H3)
abbrev tLC(wi:TI)(g:TG)(tt:TT)(te:TE)(k:Nat)(R:List Nat):TE:=fun σ H Q=>wi σ H λJ H1=>
 ∃W:Nat->Nat->List V->L2.St->Hp->Prop,(∃m,W 0 m [] (J5 k R σ) H1)/\LcW g tt te Q J W
abbrev WQ(a9:List Value)(n:Nat):Obj:={ cls:=.type "list",data:=.seq a9.toArray n }
section
variable {X:Cx}
theorem op_mulI:OpR X (binaryOp .Mult) (rI IntMulOk λi j=>.int (i*j)):=opI λ_ _ _ _ _ _ _ hc q=>mul_int q hc
def wk2(_i j:Int):Prop:=0<j/\j.natAbs.log2<9000
theorem qj9:OpR X (binaryOp .FloorDiv) (rI wk2 λi j=>.int (i / j)):=opI λi j _ _ _ _ _ hc q=>by
 have h1:(0:Int)<j:=hc.1;exact floordiv_int (by omega) (by rw[Int.fdiv_eq_ediv_of_nonneg i (by omega)];exact q) (.inl (PyProof.noPylong_of_log2 hc.2))
def kinds:List String:=["NoneType","bool","int","str","list","tuple","dict"]
def Zw(T U:String):Bool:=T==U||(T == "bool" && U == "int")
theorem kxz{K:PySem.W.Frag}{T U:String}(hT:T∈kinds)(hU:U∈kinds.tail):PySem.W.kitOne K (.type T) (.type U)=some (Zw T U):=by
 simp only[kinds,List.tail_cons,Xw,Xm,or_false]at hT hU;rcases hT with rfl|rfl|rfl|rfl|rfl|rfl|rfl<;>rcases hU with rfl|rfl|rfl|rfl|rfl|rfl<;>with_unfolding_all rfl
def wvm(K:PySem.W.Frag):List V->Hp->VK->Prop:=λxs H Q=>∃x T U,xs=[x,.ty U]/\TyOf K H x (.type T)/\T∈kinds/\U∈kinds.tail/\Q (.bl (Zw T U)) H
theorem vjb:CallR X (.builtin "isinstance") (wvm X.K):=by
 intro pins s σ H xs us Q I r h;obtain⟨x,T,U,rfl,ty,hT,hU,q⟩:=h;obtain⟨u,w',rfl,r1,r2⟩:=vkt r;cases(show w'=Value.type U from r2);exact qw7 I r1 ty (kxz hT hU) λtk=>⟨.bl _,H,I.tok _,rfl,q⟩
def Its(x:Str):It:=⟨λi _=>i<x.cps.size,λi H v H'=>H'=H/\∃c,x.cps[i]?=some c/\v=.str ⟨#[c]⟩,λi _=>i=x.cps.size⟩
theorem kzo{P:Program}{w:World}{K:PySem.W.Frag}{tg:Expr}{x:Str}{t:Tok}{it:Addr}{ty:String}
  (W:∀A':Around,A'.handled=none->Walks P w A' it [it] [it] x.cps.size (SignAt x) (λi h=>h.IsStrIter it ty x t i))
  (qy:∀(A:Around) (i:Nat) (s:Shared) (Q:Value->Shared->Prop) (E:Value->Shared->Prop),s.heap.IsStrIter it ty x t i->Q (.ref it) s->wpAny (model P w) A (pyIter (.ref it)) Q E s)
  (ll:["enumerate","zip","dict_itemiterator","dict_reverseitemiterator","odict_iterator","itertools.zip_longest","itertools.pairwise"].contains ty=false):
  Turn P w K tg (Its x) [it] it (λi h=>h.IsStrIter it ty x t i) where
 mem:=by simp
 obj:=λi h st b hb=>by
  have e:b=it:=by simpa using hb
  subst e;obtain⟨o,e,c,d⟩:=st;exact⟨o,e,λv z=>by rw[d]at z;cases z⟩
 keep:=λi h h' st k=>by
  obtain⟨o,e,r⟩:=st;exact⟨o,k it (by simp) o e,r⟩
 item:=by
  intro X hP hw hK hc i pins s σ H E I hf st hg;subst hP hw hK;obtain⟨f0,f1,f2,f3,f4,f5⟩:=hf it (by simp);refine(W X.A (I.ok.hd hc)).item i s _ _ hg st λv h' tk hv df kk=>?_
  obtain⟨c,u,bj,rfl⟩:=hv;have I1:Inv X pins σ H { s with heap:=h',toks:=tk }:=I.turned (λb o hb e=>kk b o (by simpa using hb) e) f0 f1 f3 f4 f5;obtain⟨o,e,c1,d⟩:=id df;exact⟨_,rfl,vj1 (s:={ s with heap:=h',toks:=tk }) e c1 d ll ⟨.str ⟨#[c]⟩,H,I1,⟨u,rfl⟩,⟨rfl,c,bj,rfl⟩,df,λb hb=>(hf b hb).1⟩⟩
 done:=by
  intro X hP hw hK hc i pins s σ H E I hf st hg;subst hP hw hK;obtain⟨f0,f1,f2,f3,f4,f5⟩:=hf it (by simp);have im:i=x.cps.size:=hg;subst im;exact(W X.A (I.ok.hd hc)).done s _ _ st λh' tk kk=>⟨rfl,I.turned (λb o hb e=>kk b o (by simpa using hb) e) f0 f1 f3 f4 f5⟩
 self:=λA i s Q E st hQ=>qy A i s Q E st hQ
def wvg:V->Option Int->Option Int->Hp->VK->Prop:=λx lo hi H Q=>∃z,x=.str z/\z.length<=sizeLine/\Q (.str (Txt.slice z lo hi)) H
theorem vxd:SlR X wvg:=by
 intro pins s σ H x v vl vu lo hi sl Q I rx hs pl pu h;obtain⟨z,rfl,hz,q⟩:=h;obtain⟨t,rfl⟩:=rx;refine⟨"str",_,F.slot_str_getitem.lookup,typeIs_str _ _ _,?_⟩;have fin:∀(t':Tok) (k:Nat),EP X pins σ Q (.str (Txt.slice z lo hi) t') { s with toks:=k }:=λt' k=>⟨.str _,H,I.tok k,⟨t',rfl⟩,q⟩
 have fe:(Txt.slice z lo hi).length<=sizeLine:=Y0 (Txt.slice_le z _ _) hz;cases pl with
 |none=>cases pu with
  |none=>exact wpAny_getItem_str_slice (l:=none) (u:=none) (st:=none) hs rfl (post_val_or_str ⟨fe,fin⟩)
  |int j tj=>exact wpAny_getItem_str_slice (l:=none) (u:=some (j,tj)) (st:=none) hs rfl (post_val_or_str ⟨fe,fin⟩)
 |int i ti=>cases pu with
  |none=>exact wpAny_getItem_str_slice (l:=some (i,ti)) (u:=none) (st:=none) hs rfl (post_val_or_str ⟨fe,fin⟩)
  |int j tj=>exact wpAny_getItem_str_slice (l:=some (i,ti)) (u:=some (j,tj)) (st:=none) hs rfl (post_val_or_str ⟨fe,fin⟩)
def vxk:R2:=λx y H Q=>∃z n,x=.str z/\y=.int n/\(z.length<=1024/\n<=1024/\-1024<=n)/\Q (.str (Txt.mul z n)) H
theorem vv5:OpR X (binaryOp .Mult) vxk:=by
 intro pins s σ H x y v u Q I rx ry h;obtain⟨z,n,rfl,rfl,⟨h1,h2,h3⟩,q⟩:=h;obtain⟨t,rfl⟩:=rx;obtain⟨t',rfl⟩:=ry;exact SB.mul (mulOk_of 1024 1024 h1 h2 (by omega) (by decide) (by decide)) λt' k=>⟨.str _,H,I.tok k,⟨t',rfl⟩,q⟩
def vjl(K:PySem.W.Frag):V->Option Int->Option Int->Hp->VK->Prop:=λx lo hi H Q=>wvh K x lo hi H Q\/wvf K x lo hi H Q\/wvg x lo hi H Q
theorem wkp(K:PySem.W.Frag)(hK:X.K=K:=by rfl):SlR X (vjl K):=by subst hK;exact sl_list.or (sl_tup.or vxd)
def qqo(K:PySem.W.Frag):List V->Hp->VK->Prop:=λxs H Q=>(∃p ys,xs=[.ref p]/\(SqL K H p ys\/SqT K H p ys)/\Q (.int ys.length) H)\/(∃z,xs=[.str z]/\z.length<=sizeLine/\Q (.int z.length) H)\/(∃a kvs,xs=[V.ref a]/\H a=some (.dK kvs)/\Q (.int kvs.length) H)
theorem vw7(K:PySem.W.Frag)(hK:X.K=K:=by rfl):CallR X (.builtin "len") (qqo K):=by subst hK;exact call_len_seq.or (call_len_str.or qx0)
theorem qx4:CallR X (.type "int") (λxs H Q=>(∃i,xs=[.int i]/\Q (.int i) H)\/∃k,xs=[.bl k]/\Q (.int (if k then 1 else 0)) H):=qx2
theorem qv8(K:PySem.W.Frag){o e:Expr}{es:List Expr}{T:String}{name:Str}{id:String}{r:V->List V->Hp->VK->Prop}{to:TE}{t:TA}{apos aa:Pos}
  (pa:PlainAttrs T) (slot:Slot T name id) (ll:typeOf (.builtin id)=pure (.type "method_descriptor")) (hm:MtR X id r) (ho:PE X o to) (ha:PA X (e::es) t)
  (ao:attributeBase o name X.env (eval o X.env)=eval o X.env:=by rfl)
  (d8:((backTo aa (starEach (e::es) X.env)).all (λx=>!x.1)&&(backToKw aa (keywordEach [] X.env)).all (λx=>x.1.isSome)
   && decide ((e::es).length+([]:List Keyword).length+(if([]:List Keyword).isEmpty then 0 else 1)<30))=true:=by rfl)
  (ak:(apos.endLine==aa.line)=true:=by rfl) (hs:starEach (e::es) X.env=(false,eval e X.env)::starEach es X.env:=by rfl) (au:(backTo aa (starEach es X.env)).any (·.1)=false:=by rfl) (hK:X.K=K:=by rfl):
  PE X (.Call (.Attribute o name apos) (e::es) [] aa) (tBM K T r to t):=by subst hK;exact wq8 pa slot ll hm ho ha ao d8 ak hs au
theorem qx8:bootBuiltins "len"=some (.builtin "len"):=by decide +kernel
theorem kvd:bootBuiltins "isinstance"=some (.builtin "isinstance"):=by decide +kernel
theorem qx6:bootBuiltins "sorted"=some (.builtin "sorted"):=by decide +kernel
theorem qx9:bootBuiltins "int"=some (.type "int"):=by decide +kernel
theorem QQ:bootBuiltins "list"=some (.type "list"):=by decide +kernel
theorem qjw:bootBuiltins "tuple"=some (.type "tuple"):=by decide +kernel
end
theorem qjx:∀{ns:List Int} {m:Nat},PySem.W.WData.weightAll (ns.map PySem.W.WData.int)<=m->∀n∈ns,Builtin.Int.intBits n<=m
 | [],_,_,_,h=>nomatch h
 | a::r,m,h,n,hn=>by
  have h':(if a==0 then 0 else a.natAbs.log2+1)+1+PySem.W.WData.weightAll (r.map PySem.W.WData.int)<=m:=h;rcases List.mem_cons.mp hn with z|z
  ·subst z;have e:Builtin.Int.intBits n=(if n==0 then 0 else n.natAbs.log2+1):=rfl;rw[e];omega
  ·exact qjx (m:=m) (by omega) n z
theorem kzg{ns:List Int}(h:PySem.W.WData.layableAll [PySem.W.WData.list (ns.map PySem.W.WData.int)]=true):∀n∈ns,Builtin.Int.intBits n<=1048576:=by
 have h1:(PySem.W.WData.list (ns.map PySem.W.WData.int)).layable=true:=(PySem.W.layW_cons h).1;unfold PySem.W.WData.layable at h1;simp only[Bool.and_eq_true,decide_eq_true_eq]at h1;have h2:PySem.W.WData.weightAll (ns.map PySem.W.WData.int)<=2 ^ 20:=h1.2;exact qjx (by simpa using h2)
inductive D where
 |non|bl (b:Bool)|int (i:Int)|str (z:Str)|lst (xs:List D)|tup (xs:List D)
section
variable {X:Cx}{pins:List (Addr×Obj)}{σ:L2.St}{H:Hp}{s:Shared}
theorem in1_units(A:Around):A.in1.units<=A.units+1:=by
 first|exact X8 _|(show A.units+1<=A.units+1;exact X8 _)|(unfold Around.in1;simp)
end
section
variable {X:Cx}
def qqn(K:PySem.W.Frag):List V->Hp->VK->Prop:=λxs H Q=>∃p ys,xs=[.ref p]/\(SqL K H p ys\/SqT K H p ys)/\∀l,H l=none->Q (.ref l) (upd H l (.lst ys))
theorem Zk(K:PySem.W.Frag)(hK:X.K=K:=by rfl):CallR X (.type "list") (qqn K):=by subst hK;exact kwx
theorem qv9(K:PySem.W.Frag){o:Expr}{T:String}{name:Str}{id:String}{r:V->List V->Hp->VK->Prop}{to:TE}{apos aa:Pos}
  (pa:PlainAttrs T) (slot:Slot T name id) (ll:typeOf (.builtin id)=pure (.type "method_descriptor")) (hm:MtR X id r) (ho:PE X o to)
  (ao:attributeBase o name X.env (eval o X.env)=eval o X.env:=by rfl) (ak:(apos.endLine==aa.line)=true:=by rfl) (hK:X.K=K:=by rfl):
  PE X (.Call (.Attribute o name apos) [] [] aa) (wvc K T r to):=by subst hK;exact vzh pa slot ll hm ho ao ak
end
section
variable {X:Cx}{pins:List (Addr×Obj)}{σ:L2.St}{H:Hp}{s:Shared}
theorem kjk{t':Nat}{h':Heap}(fp:List Addr)(I:Inv X pins σ H s)(k:∀b o,b∉fp->s.heap.get? b=some o->h'.get? b=some o)(hf:∀b∈fp,wq X pins H b):Inv X pins σ H { s with heap:=h',toks:=t' }:=by
 have pc:∀b u,H b=some u->b∉fp:=λb u e z=>by rw[(hf b z).1]at e;cases e
 refine I.step (g':=s.gens) (d':=s.drawn) (ch:=fp) (λb hb=>?_) (λb o _ _ hc e _=>k b o hc e) (λb o _ _ hc e _=>⟨o.slots,k b o hc e⟩) (λ_ _ _ _ n=>n)
  (λb o hc e=>⟨o,k b o hc e⟩) (λ_ _ e=>e) (λ_ _ _ e=>e) (λb ps e=>⟨#[],by rw[e];simp⟩) (λm hm=>?_) (λb u e=>?_) I.bare
 ·obtain⟨_,f1,_,f3,f4,f5⟩:=hf b hb;exact⟨f3,f1,f4,f5⟩
 ·obtain⟨o,es,ep,ho,r⟩:=hm;exact⟨o,es,ep,k _ o (λz=>(hf _ z).2.1 rfl) ho,r⟩
 ·refine(I.hok b u e).stay (λc v hc q=>k c v ?_ q) (λ_ q=>q) λ_ _ q=>q
  rcases hc with z|z
  ·rw[z];exact pc b u e
  ·exact pc c _ z
end
section
variable {X:Cx}
def qqp:List V->Hp->VK->Prop:=λxs H Q=>(∃i,xs=[.int i]/\Q (.int i) H)\/(∃k,xs=[.bl k]/\Q (.int (if k then 1 else 0)) H)\/∃(x:Str) (n:Int),xs=[.str x]/\PySem.intText? x=some n/\x.length<=640/\Q (.int n) H
theorem kk3:CallR X (.type "int") qqp:=by
 intro pins s σ H xs us Q I r h;rcases h with h|h|⟨x,n,rfl,hx,hl,q⟩
 ·exact qx4 pins s σ H xs us Q I r (.inl h)
 ·exact qx4 pins s σ H xs us Q I r (.inr h)
 ·obtain⟨u,rfl,t,rfl⟩:=zJ r;exact PySem.W.KIN.call_text hx hl ⟨.int n,H,I.tok _,⟨_,rfl⟩,q⟩
end
end L3
namespace L2
open PySem PySem.Spec PyProof.Rows
section
variable {P:Program}{w:World}{H H':Hp}{h h':Heap}{a:Addr}{o:HO}
theorem ObjOk.obj(x:ObjOk P w H h a o):∃u,h.get? a=some u:=by
 cases o with
 |lst xs=>obtain⟨_,_,_,_,e⟩:=x;exact⟨_,e⟩
 |tup xs=>obtain⟨_,_,_,p⟩:=x;obtain⟨u,e,_⟩:=p;exact⟨u,e⟩
 |dK kvs=>obtain⟨_,_,_,_,o,_,_,e,_⟩:=x;exact⟨_,e⟩
 |dT kvs=>obtain⟨_,_,_,_,o,_,_,e,_⟩:=x;exact⟨_,e⟩
 |set S n=>obtain⟨o,_,_,_,e,_⟩:=x;exact⟨_,e⟩
 |ins C dx fs=>obtain⟨_,_,_,e,_⟩:=x;exact⟨_,e⟩
 |own y=>obtain⟨_,e⟩:=x;exact⟨_,e⟩
 |xd fs=>obtain⟨_,⟨_,_,_,e,_⟩,_⟩:=x;exact⟨_,e⟩
 |rng lo hi=>obtain⟨_,_,_,e⟩:=x;exact⟨_,e⟩
 |frz ob u=>obtain⟨e,_⟩:=x;exact⟨_,e⟩
 |tbl ps=>exact⟨_,x⟩
 |met f y=>exact⟨_,x⟩
 |ext φ=>obtain⟨_,⟨_,e⟩,_⟩:=x;exact⟨_,e⟩
end
section
variable {X:Cx}{pins:List (Addr×Obj)}{σ:List (Option V)}{H H':Hp}{s:Shared}{h':Heap}
theorem Inv.stepN{g':Array GenState}{t':Nat}{d':Drawn}{ch:List Addr}(I:Inv X pins σ H s)
  (ff:∀b∈ch,(b∈X.ex\/X.s₀.heap.get? b=none)/\b≠X.env.locals/\(∀x c,X.env.cells.lookup x=some c->c≠b)/\∀p∈X.pn++pins,p.1≠b)
  (keep:∀b o,b≠X.env.locals->b∉X.fs->b∉ch->s.heap.get? b=some o->H b=none->h'.get? b=some o)
  (slot:∀b o,b≠X.env.locals->b∈X.fs->b∉ch->s.heap.get? b=some o->H b=none->∃sl,h'.get? b=some { o with slots:=sl }) (free:∀b o,b∉ch->s.heap.get? b=some o->H b=none->H' b=none)
  (there:∀b o,b∉ch->s.heap.get? b=some o->∃o',h'.get? b=some o')
  (tups:∀b xs,H b=some (.tup xs)->H' b=some (.tup xs)) (frzs:∀b o u,H b=some (.frz o u)->H' b=some (.frz o u)) (tbls:∀b ps,H b=some (.tbl ps)->∃more,H' b=some (.tbl (ps++more)))
  (ns:∀m,s.heap.Ns X.env.locals m->h'.Ns X.env.locals m) (hok:HOk X.prog X.w H' h') (hg:AllBare g'):
  Inv X pins σ H' { s with heap:=h',gens:=g',drawn:=d',toks:=t' }:=by
 have om:∀b o,X.s₀.heap.get? b=some o->b≠X.env.locals:=λb o e=>Xy (Xg (Xf e) I.ok.above)
 have lh:∀b o,X.s₀.heap.get? b=some o->b∉X.ex->b∉ch:=λb o e hx hb=>by
  rcases(ff b hb).1 with z|z
  ·exact hx z
  ·rw[z]at e;cases e
 have gl:∀x c,X.env.cells.lookup x=some c->∀v,s.heap.IsCell c v->h'.IsCell c v:=λx c e v ⟨o,ho,hd⟩=>by
  have jm:c∉ch:=λz=>(ff c z).2.2.1 x c e rfl
  by_cases hc:c∈X.fs
  ·obtain⟨sl,q⟩:=slot c o (I.cne x c e) hc jm ho (I.freeC x c e);exact⟨_,q,hd⟩
  ·exact⟨o,keep c o (I.cne x c e) hc jm ho (I.freeC x c e),hd⟩
 refine⟨I.ok,I.os,hg,⟨λb o e n hb hx=>?_,λb o e n hb hx=>?_,λb o e n hx=>?_,λb o e hx=>?_,λb xs e=>tups b xs (I.base.tups b xs e),λb o xs e=>frzs b o xs (I.base.frzs b o xs e),λb ps e=>?_⟩,?_,λx c e=>?_,?_,λx c e=>?_,λp hp=>?_,hok,I.len⟩
 ·exact keep b o (om b o e) hb (lh b o e hx) (I.base.keep b o e n hb hx) (I.base.free b o e n hx)
 ·obtain⟨sl,e1⟩:=I.base.slot b o e n hb hx;obtain⟨sl',e2⟩:=slot b _ (om b o e) hb (lh b o e hx) e1 (I.base.free b o e n hx);exact⟨sl',e2⟩
 ·obtain⟨o',e1⟩:=I.base.there b o e hx;exact free b o' (lh b o e hx) e1 (I.base.free b o e n hx)
 ·obtain⟨o',e1⟩:=I.base.there b o e hx;exact there b o' (lh b o e hx) e1
 ·obtain⟨m1,e1⟩:=I.base.tbls b ps e;obtain⟨m2,e2⟩:=tbls b _ e1;exact⟨m1++m2,by rw[e2,Array.append_assoc]⟩
 ·obtain⟨m,hn,hl⟩:=I.loc;refine⟨m,ns m hn,λi x v e1 e2 e3=>?_⟩;obtain⟨u,r,l⟩:=hl i x v e1 e2 e3;refine⟨u,r,?_⟩;rcases l with l|⟨k,c,e,z⟩
  ·exact .inl l
  ·exact .inr ⟨k,c,e,gl x c e _ z⟩
 ·obtain⟨v,z⟩:=I.cell x c e;exact⟨v,gl x c e v z⟩
 ·obtain⟨m,⟨o,_,_,ho,_⟩,_⟩:=I.loc;exact free _ o (λz=>(ff _ z).2.1 rfl) ho I.free
 ·obtain⟨v,o,ho,hd⟩:=I.cell x c e;exact free c o (λz=>(ff c z).2.2.1 x c e rfl) ho (I.freeC x c e)
 ·obtain⟨e,n,ne,nf,d⟩:=I.pin p hp;have jm:p.1∉ch:=λz=>(ff p.1 z).2.2.2 p hp rfl
  exact⟨keep p.1 p.2 ne nf jm e n,free p.1 p.2 jm e n,ne,nf,d⟩
theorem Inv.callN{g':Array GenState}{t':Nat}{d':Drawn}{ch:List Addr}(I:Inv X pins σ H s)(u:Un (frs X.stack) ch H H' s.heap h')(hok:HOk X.prog X.w H' h')(hg:AllBare g')
  (ff:∀b∈ch,(b∈X.ex\/X.s₀.heap.get? b=none)/\b≠X.env.locals/\(∀x c,X.env.cells.lookup x=some c->c≠b)/\∀p∈X.pn++pins,p.1≠b):
  Inv X pins σ H' { s with heap:=h',gens:=g',drawn:=d',toks:=t' }:=by
 obtain⟨m,⟨o,es,ep,ho,r⟩,_⟩:=id I.loc;obtain⟨sl,hL⟩:=u.any ho I.free λz=>(ff _ z).2.1 rfl
 exact I.stepN (ch:=ch) ff (λb o hL hb hc e n=>u.keep b o e n (λz=>(List.mem_cons.mp (I.stkSub b z)).elim hL hb) hc) (λb o _ _ hc e n=>u.any e n hc) (λb o hc e n=>u.free b o e n hc) (λb o hc e=>u.there b o e hc) u.tups u.frzs u.tbls (λm' hm=>by
  obtain⟨o',es',ep',kr,r'⟩:=hm;rw[ho]at kr;cases kr;exact⟨_,es',ep',hL,r'⟩) hok hg
end
end L2
namespace L3
open PySem PySem.Spec PyProof.Rows L2
theorem kjf{e:Value}{env env0:Env}(h:env.frame=env0.frame):noteFrame e env=noteFrame e env0:=by
 unfold noteFrame PySem.frameOf;rw[h]
structure Fl0 (h:Heap)(x:Addr)(C:Value)(vs:Array Value):Prop where
 ob:h.get? x=some { cls:=C,data:=.fields vs }
 sz:1<vs.size
structure FlT (h:Heap)(x T:Addr)(C:Value)(fl:Value):Prop where
 ex:∃vs,h.get? x=some { cls:=C,data:=.fields vs }/\vs[1]?=some (.ref T)
 tb:∃oT ts,h.get? T=some oT/\oT.data=.fields ts/\ts[3]?=some fl
 ne:T≠x
structure Chg (fs ch:List Addr)(h h':Heap):Prop where
 keep:∀b o,h.get? b=some o->b∉fs->b∉ch->h'.get? b=some o
 slot:∀b o,h.get? b=some o->b∉ch->∃sl,h'.get? b=some { cls:=o.cls,dict:=o.dict,data:=o.data,slots:=sl }
 size:h.objs.size<=h'.objs.size
theorem Chg.trans{fs ch ch':List Addr}{h h1 h2:Heap}(a:Chg fs ch h h1)(b:Chg fs ch' h1 h2)(hc:∀x∈ch',x∈ch\/h.get? x=none):Chg fs ch h h2 where
 keep:=λx o e h1 h2=>b.keep x o (a.keep x o e h1 h2) h1 λz=>(hc x z).elim h2 λq=>by rw[q]at e;cases e
 slot:=λx o e hn=>by
  obtain⟨sl,e1⟩:=a.slot x o e hn;obtain⟨lp,e2⟩:=b.slot x _ e1 λz=>(hc x z).elim hn λq=>by rw[q]at e;cases e
  exact⟨lp,e2⟩
 size:=Y0 a.size b.size
theorem Chg.mono{fs ch ch':List Addr}{h h1:Heap}(a:Chg fs ch h h1)(hc:∀x∈ch,x∈ch'):Chg fs ch' h h1:=⟨λb o e h1 h2=>a.keep b o e h1 λz=>h2 (hc b z),λb o e h2=>a.slot b o e λz=>h2 (hc b z),a.size⟩
theorem Chg.of_upd{fs : List Addr}{h : Heap}{a : Addr}{f : Obj -> Obj}: Chg fs [a] h (h.update a f):=
  ⟨λb o e _ hn=>by rw[Yn _ _ _ _ (λz=>hn (List.mem_singleton.mpr z))]; exact e,
   λb o e hn=>⟨o.slots, by rw[Yn _ _ _ _ (λz=>hn (List.mem_singleton.mpr z))]; exact e⟩, by rw[Heap.size_update]; exact X8 _⟩
theorem Chg.of_push{fs:List Addr}{h:Heap}{o:Obj}:Chg fs [] h (h.push o):=
 ⟨λb o e _ _=>X9 _ e,λb o e _=>⟨o.slots,X9 _ e⟩,by rw[Heap.size_push];omega⟩
theorem Chg.of_slots{fs:List Addr}{h h':Heap}(s:Heap.SlotsOnly fs h h'):Chg fs [] h h':=
 ⟨λb o e hn _=>(s.2.1 b hn).trans e,λb o e _=>s.2.2 b o e,by rw[s.1];exact X8 _⟩
theorem Chg.refl{fs ch:List Addr}{h:Heap}:Chg fs ch h h:=⟨λ_ _ e _ _=>e,λb o e _=>⟨o.slots,e⟩,X8 _⟩
section
variable {M:Model}{A:Around}{E:Value->Shared->Prop}{s:Shared}{base:Heap}{env:Env}{outer:List Env}{L x T:Addr}{C fl:Value}
theorem kwq{head:Value}{hadNext:Bool}{vs:Array Value}{Q:Unit->Shared->Prop}(hA:A.frames=some (env::outer))(hF:s.heap.FunFrames base (env::outer))(hL:env.frame=some L)(ho:Fl0 s.heap x C vs)
  (h:∀h' T',Chg (frs (env::outer)) [x] s.heap h'->s.heap.objs.size<=T'->FlT h' x T' C (rawInt ↑L)->Q () { s with heap:=h' }):
  wpAny M A (do
   let a <-PySem.frameOf env
   let pl <-entryPlaceOf L hadNext
   let b <-EntryCells.newEntry head a Value.none (rawInt ↑L) Value.none pl
   setField (Value.ref x) 1 b) Q E s:=by
 refine X0 (wpAny_frameOf_fun hA hF hL λh1 s1=>?_);have hx:x∉frs (env::outer):=λz=>by
  obtain⟨_,o,e,hn⟩:=hF.mem z;rw[ho.ob]at e;cases e;exact hn _ rfl
 have o1:h1.get? x=some { cls:=C,data:=.fields vs }:=(s1.2.1 x hx).trans ho.ob;have fin:∀pl:List Value,IsPlace pl->wpAny M A (do
   let b <-EntryCells.newEntry head (Value.ref L) Value.none (rawInt ↑L) Value.none pl
   setField (Value.ref x) 1 b) Q E { s with heap:=h1 }:=λpl bt=>by
  refine X0 ?_;unfold EntryCells.newEntry newFields;have har:([head,Value.ref L,Value.none,rawInt ↑L,Value.none]++if pl.isEmpty=true then List.replicate 6 Value.none else pl).toArray[3]?=some (rawInt ↑L):=by simp
  have hsz:([head,Value.ref L,Value.none,rawInt ↑L,Value.none]++if pl.isEmpty=true then List.replicate 6 Value.none else pl).toArray.size<=sizeLine+2:=by
   rcases bt with rfl|⟨_,_,_,_,_,_,_,rfl⟩<;>simp<;>decide
  generalize ([head,Value.ref L,Value.none,rawInt ↑L,Value.none]++if pl.isEmpty=true then List.replicate 6 Value.none else pl).toArray=ar at har hsz;refine Y5 ?_ hsz;have o2:(h1.push { cls:=.type "traceback",data:=.fields ar }).get? x=some { cls:=C,data:=.fields vs }:=X9 _ o1;refine wpAny_setField (s:={ s with heap:=h1.push _ }) o2 rfl ho.sz ?_;have cx:h1.objs.size≠x:=λe=>absurd (Xf o1) (by rw[<-e];exact Yj _)
  have o3:((h1.push { cls:=.type "traceback",data:=.fields ar }).update x (Obj.mapFields λy=>y.setIfInBounds 1 (.ref h1.objs.size))).get? h1.objs.size=some { cls:=.type "traceback",data:=.fields ar }:=by
   rw[Yn _ _ _ _ cx];exact Xj _ rfl
  refine h _ h1.objs.size (((Chg.of_slots s1).mono (λ_ z=>nomatch z)).trans ((Chg.of_push.mono λ_ z=>nomatch z).trans (ch:=[x]) Chg.of_upd λy hy=>.inl hy) λy hy=>.inl hy) (by rw[s1.1];exact X8 _) ⟨⟨vs.setIfInBounds 1 (.ref h1.objs.size),?_,Array.getElem?_setIfInBounds_self_of_lt ho.sz⟩,⟨_,_,o3,rfl,har⟩,cx⟩;exact Heap.get?_update_self _ o2 rfl
 exact X0 (wpAny_entryPlaceOf λpl bt=>fin pl bt)
theorem wqf{vs:Array Value}{Q:Unit->Shared->Prop}(hA:A.frames=some (env::outer))(hF:s.heap.FunFrames base (env::outer))(hL:env.frame=some L)(ho:Fl0 s.heap x C vs)(hv:vs[1]?=some .none)
  (h:∀h' T',Chg (frs (env::outer)) [x] s.heap h'->s.heap.objs.size<=T'->FlT h' x T' C (rawInt ↑L)->Q () { s with heap:=h' }):wpAny M A (noteFrame (.ref x) env) Q E s:=by
 unfold noteFrame;rw[hL];refine X0 (Yu ho.ob rfl hv ?_);exact kwq (hadNext:=false) hA hF hL ho h
theorem upd3{T:Addr}{oT:Obj}{ts:Array Value}{v:Value}{h:Heap}(e:h.get? T=some oT)(ed:oT.data=.fields ts)(h3:3<ts.size):
  ∃o' ts',(h.update T (Obj.mapFields λy=>y.setIfInBounds 3 v)).get? T=some o'/\o'.data=.fields ts'/\ts'[3]?=some v:=by
 obtain⟨c,d,dt,sl⟩:=oT;cases(show dt=.fields ts from ed);exact⟨_,ts.setIfInBounds 3 v,Heap.get?_update_self _ e rfl,rfl,Array.getElem?_setIfInBounds_self_of_lt h3⟩
theorem wqe{Q:Unit->Shared->Prop}(hA:A.frames=some (env::outer))(hF:s.heap.FunFrames base (env::outer))(hL:env.frame=some L)(f:FlT s.heap x T C fl)
  (h:∀h' T',Chg (frs (env::outer)) [x,T] s.heap h'->(s.heap.objs.size<=T'\/T'=T)->FlT h' x T' C (rawInt ↑L)->Q () { s with heap:=h' }):wpAny M A (noteFrame (.ref x) env) Q E s:=by
 obtain⟨⟨vs,e1,v1⟩,⟨oT,ts,e2,d2,v2⟩,cx⟩:=f;have h3:3<ts.size:=by
  rw[Array.getElem?_eq_some_iff]at v2;exact v2.1
 have h1:1<vs.size:=by
  rw[Array.getElem?_eq_some_iff]at v1;exact v1.1
 unfold noteFrame;rw [hL];refine X0 (Yu e1 rfl v1 ?_);show wpAny M A (if((Value.ref T != Value.none)=true)then _ else _) Q E s;rw [Xb (show(Value.ref T != Value.none)=true from rfl)];refine X0 (Yu e2 d2 v2 ?_)
 by_cases hf:(fl==rawInt ↑L)=true
 ·rw[Xb hf];have e:fl=rawInt ↑L:=eq_of_beq hf;subst e;exact X4 (h s.heap T Chg.refl (.inr rfl) ⟨⟨vs,e1,v1⟩,⟨oT,ts,e2,d2,v2⟩,cx⟩)
 ·rw[Xe hf];refine X0 (wpAny_setField e2 d2 h3 ?_);have c1:Chg (frs (env::outer)) [x,T] s.heap (s.heap.update T (Obj.mapFields λy=>y.setIfInBounds 3 Value.none)):=Chg.of_upd.mono λy hy=>by
   rw[List.mem_singleton.mp hy];simp
  have e1':(s.heap.update T (Obj.mapFields λy=>y.setIfInBounds 3 Value.none)).get? x=some { cls:=C,data:=.fields vs }:=by
   rw[Yn _ _ _ _ cx.symm];exact e1
  have hF':(s.heap.update T (Obj.mapFields λy=>y.setIfInBounds 3 Value.none)).FunFrames base (env::outer):=by
   refine hF.of_keeps λb o e hn=>⟨o,?_,rfl⟩
   rw[Yn _ _ _ _ λz=>?_]
   ·exact e
   ·rw[z,e2]at e;cases e;exact hn _ d2
  refine kwq (s:={ s with heap:=s.heap.update T _ }) (hadNext:=true) hA hF' hL ⟨e1',h1⟩ λh' T' c2 hs f'=>?_
  refine h h' T' (c1.trans (c2.mono (ch':=[x,T]) λy hy=>by rw[List.mem_singleton.mp hy];simp) λy hy=>.inl hy) (.inl ?_) f';rw[Heap.size_update]at hs;exact hs
theorem wjk{Q:Unit->Shared->Prop}{fr:Option Addr}(f:FlT s.heap x T C fl)(h:∀h',Chg (frs outer) [x,T] s.heap h'->FlT h' x T C (fr.elim Value.none λf=>rawInt ↑f)->Q () { s with heap:=h' }):wpAny M A (setFlight (.ref x) fr) Q E s:=by
 obtain⟨⟨vs,e1,v1⟩,⟨oT,ts,e2,d2,v2⟩,cx⟩:=f;have h3:3<ts.size:=by
  rw[Array.getElem?_eq_some_iff]at v2;exact v2.1
 unfold setFlight;refine X0 (Yu e1 rfl v1 ?_);rw[Xb (show(Value.ref T != Value.none)=true from rfl)];refine wpAny_setField e2 d2 h3 (h _ (Chg.of_upd.mono λy hy=>by rw[List.mem_singleton.mp hy];simp) ⟨⟨vs,?_,v1⟩,upd3 e2 d2 h3,cx⟩);rw[Yn _ _ _ _ cx.symm];exact e1
end
structure XCls (K:PySem.W.Frag)(C:Addr):Prop where
 ga:PySem.W.findIn K (.ref C) "__getattribute__"=some (some (.builtin "BaseException.__getattribute__"))
 gt:PySem.W.findIn K (.ref C) "__getattr__"=some none
 fo:PySem.W.findObj K C none "__class__"=some (.bind (.builtin "getset_descriptor.__get__") (.builtin "object.__class__"))
 ob:PySem.W.mroIn K C (.type "object")=some true
 bx:PySem.W.mroIn K C (.type "BaseException")=some true
 cl:(PySem.W.clsIn K C).isSome=true
section
variable {P:Program}{w:World}{A:Around}{E:Value->Shared->Prop}{s:Shared}{K:PySem.W.Frag}{x C:Addr}{ox:Obj}
theorem Lk{α:Type}{M:Model}{A:Around}{E:Value->Shared->Prop}{s:Shared}{t:Sem α}{r:α}{Q:α->Shared->Prop}(l:PySem.W.Looks M s.heap t r)(q:Q r s):wpAny M A t Q E s:=l A Q E s (λ_ _ e=>e) q
end
def FpX(X:Cx)(pins:List (Addr×Obj))(H:Hp)(b:Addr):Prop:=
 H b=none/\b≠X.env.locals/\b∉X.fs/\(b∈X.ex\/X.s₀.heap.get? b=none)/\(∀x c,X.env.cells.lookup x=some c->c≠b)/\∀p∈X.pn++pins,p.1≠b
section
variable {X:Cx}{pins:List (Addr×Obj)}{σ:L2.St}{H:Hp}{s:Shared}
theorem qzx{P:Program}{w:World}{H:Hp}{h:Heap}{b:Addr}(k:HOk P w H h)(e:h.get? b=none):H b=none:=by
 cases q:H b with
 |none=>rfl
 |some u=>
  obtain⟨o,z⟩:=(k b u q).obj;rw[e]at z;cases z
theorem fpX{H':Hp}{b:Addr}(I:Inv X pins σ H s)(hb:s.heap.get? b=none)(hn:H' b=none):FpX X pins H' b:=by
 refine⟨hn,λz=>?_,λz=>?_,?_,λx c e z=>?_,λp hp z=>?_⟩
 ·obtain⟨m,⟨o,_,_,ho,_⟩,_⟩:=I.loc;rw[<-z,hb]at ho;cases ho
 ·obtain⟨_,o,e,_⟩:=I.ok.funs.mem z
  by_cases hx:b∈X.ex
  ·exact I.ok.exfs b hx z
  ·obtain⟨o',e'⟩:=I.base.there b o e hx;rw[hb]at e';cases e'
 ·by_cases hx:b∈X.ex
  ·exact .inl hx
  ·cases e:X.s₀.heap.get? b with
   |none=>exact .inr rfl
   |some o=>
    obtain⟨o',e'⟩:=I.base.there b o e hx;rw[hb]at e';cases e'
 ·obtain⟨v,o,ho,_⟩:=I.cell x c e;rw[z,hb]at ho;cases ho
 ·have:=(I.pin p hp).1;rw[z,hb]at this;cases this
theorem FpX.of{b:Addr}(h:wq X pins H b):FpX X pins H b:=⟨h.1,h.2.1,h.2.2.1,h.2.2.2.1.imp id λz=>Heap.get?_none_of_le z,h.2.2.2.2⟩
theorem kz1{h':Heap}{ch:List Addr}(I:Inv X pins σ H s)(c:Chg (frs X.stack) ch s.heap h')(hf:∀b∈ch,FpX X pins H b):Inv X pins σ H { s with heap:=h' }:=by
 refine I.callN (g':=s.gens) (t':=s.toks) (d':=s.drawn) (ch:=ch) ⟨λb o e _ h1 h2=>c.keep b o e h1 h2,λb o e _ _ h2=>c.slot b o e h2,λ_ _ _ n _=>n,λb o e h2=>?_,λ_ _ e=>e,λ_ _ _ e=>e,λ_ _ e=>⟨#[],by rw[e];simp⟩⟩ (λb u e=>?_) I.bare λb hb=>?_
 ·obtain⟨sl,q⟩:=c.slot b o e h2;exact⟨_,q⟩
 ·have no:∀d v,H d=some v->d∉frs X.stack/\d∉ch:=λd v e=>⟨λz=>(by rw[I.stkFree d z]at e;cases e),λz=>(by rw[(hf d z).1]at e;cases e)⟩
  refine(I.hok b u e).stay (λd v hc q=>?_) (λ_ q=>q) λ_ _ q=>q
  rcases hc with z|z
  ·rw[z]at q ⊢;exact c.keep b v q (no b u e).1 (no b u e).2
  ·exact c.keep d v q (no d _ z).1 (no d _ z).2
 ·obtain⟨_,f1,_,f3,f4,f5⟩:=hf b hb;exact⟨f3,f1,f4,f5⟩
end
structure Fx (X:Cx)(pins:List (Addr×Obj))(H:Hp)(h:Heap)(x:Addr)(C:Value):Prop where
 fp:FpX X pins H x
 st:(∃vs,Fl0 h x C vs/\vs[1]?=some .none)\/∃T fl,FlT h x T C fl/\FpX X pins H T
structure Xt (X:Cx)(pins:List (Addr×Obj))(σ:L2.St)(H:Hp)(x T:Addr)(C fl:Value)(s:Shared):Prop where
 inv:Inv X pins σ H s
 fx:FpX X pins H x
 fT:FpX X pins H T
 f:FlT s.heap x T C fl
theorem Xt.to{X:Cx}{pins:List (Addr×Obj)}{σ:L2.St}{H:Hp}{x T:Addr}{C fl:Value}{s:Shared}(h:Xt X pins σ H x T C fl s):Fx X pins H s.heap x C:=⟨h.fx,.inr ⟨T,fl,h.f,h.fT⟩⟩
def Xo(X:Cx)(E:XK)(e:Value)(s:Shared):Prop:=∃pins σ H x C,e=.ref x/\Inv X pins σ H s/\Fx X pins H s.heap x C/\E C none H
def x8(X:Cx)(E:XK):Prop:=∀pins σ H s x C,Inv X pins σ H s->Fx X pins H s.heap x C->E C none H->X.xe (.ref x) s
abbrev Cx.ex'(X:Cx)(E:XK):Cx:=X.wish (Xo X E)
theorem K7{X:Cx}{E:XK}:x8 (Cx.ex' X E) E:=λpins σ H s x C I f q=>⟨pins,σ,H,x,C,rfl,I.unwish,⟨f.fp,f.st⟩,q⟩
def z8(X:Cx):Prop:=∃env0 out,X.stack=env0::out/\X.env.frame=env0.frame
section
variable {X:Cx}{pins:List (Addr×Obj)}{σ:L2.St}{H:Hp}{s:Shared}{M:Model}{E':Value->Shared->Prop}{x T:Addr}{C fl:Value}
theorem qja{A:Around}{Q:Unit->Shared->Prop}(top:z8 X)(hA:A.frames=X.A.frames)(I:Inv X pins σ H s)(f:Fx X pins H s.heap x C)(h:∀L T s',X.env.frame=some L->Xt X pins σ H x T C (rawInt ↑L) s'->Q () s'):
  wpAny M A (noteFrame (.ref x) X.env) Q E' s:=by
 obtain⟨env0,out,e1,e2⟩:=top;have hF:=I.stack;have qe:A.frames=some (env0::out):=by rw[hA,I.ok.frames,e1]
 rw[e1]at hF;obtain⟨_,⟨L,o,hL,_⟩,_⟩:=id hF;rw[kjf e2];have hL':X.env.frame=some L:=e2.trans hL;rcases f.st with⟨vs,f0,hv⟩|⟨T,fl,fT,pT⟩
 ·refine wqf qe hF hL f0 hv λh' T' c hs ma=>h L T' _ hL' ⟨?_,f.fp,fpX I (Heap.get?_none_of_le hs) (I.hok.fresh hs),ma⟩
  rw[<-e1]at c;exact kz1 I c λb hb=>by rw[List.mem_singleton.mp hb];exact f.fp
 ·refine wqe qe hF hL fT λh' T' c hs ma=>?_
  rw[<-e1]at c;refine h L T' _ hL' ⟨kz1 I c λb hb=>?_,f.fp,?_,ma⟩
  ·simp only[Xw,Xm,or_false]at hb;rcases hb with rfl|rfl
   ·exact f.fp
   ·exact pT
  ·rcases hs with hs|hs
   ·exact fpX I (Heap.get?_none_of_le hs) (I.hok.fresh hs)
   ·rw[hs];exact pT
theorem jxb{A:Around}{Q:Unit->Shared->Prop}{fr:Option Addr}(t:Xt X pins σ H x T C fl s)(h:∀s',Xt X pins σ H x T C (fr.elim Value.none λf=>rawInt ↑f) s'->Q () s'):wpAny M A (setFlight (.ref x) fr) Q E' s:=by
 refine wjk (outer:=X.stack) t.f λh' c ma=>h _ ⟨kz1 t.inv c λb hb=>?_,t.fx,t.fT,ma⟩
 simp only[Xw,Xm,or_false]at hb;rcases hb with rfl|rfl
 ·exact t.fx
 ·exact t.fT
theorem vzj{α:Type}{A:Around}{what:String}{jb:Env}{Q:α->Shared->Prop}(t:Xt X pins σ H x T C fl s)(h:∀s' ma,Xt X pins σ H x T C ma s'->E' (.ref x) s'):wpAny M A (PySem.passOn what (.ref x) jb:Sem α) Q E' s:=by
 unfold PySem.passOn;obtain⟨vs,e1,v1⟩:=t.f.ex;refine X0 (Yu e1 rfl v1 ?_);rw[Xe (show ¬(Value.ref T==Value.none)=true by intro z;cases z)];refine X0 (jxb t λs' t'=>?_);exact wpAny_throw (h s' _ t')
theorem qzh{E:XK}(top:z8 X):PassesOwn M X.A X.env (Xo X E):=by
 rintro e s' ⟨pins,σ,H,x,C,rfl,I,f,q⟩;unfold notedBy;refine qja top rfl I f λL T s1 _ t=>?_
 unfold cameBackBy;obtain⟨vs,e1,v1⟩:=t.f.ex;refine X0 (Yu e1 rfl v1 ?_);rw[Xe (show ¬(Value.ref T==Value.none)=true by intro z;cases z)];exact jxb t λs2 t2=>⟨pins,σ,H,x,C,rfl,t2.inv,t2.to,q⟩
end
def CXE(P:Program)(w:World):CXT:=λouter H s E e s'=>∃x T C fl H',e=.ref x/\s'.os=s.os/\AllBare s'.gens/\Un (frs outer) [] H H' s.heap s'.heap/\HOk P w H' s'.heap /\
 s.heap.get? x=none/\s.heap.get? T=none/\H' x=none/\H' T=none/\FlT s'.heap x T C fl/\E C none H'
theorem wqa{X:Cx}{E:XK}(g:x8 X E):qxg (CXE X.prog X.w) X E:=by
 rintro pins σ H s e s' I ⟨x,T,C,fl,H',rfl,os,bare,un,hok,hx,hT,nx,nT,f,q⟩;refine g pins σ H' s' x C (I.call' os un hok bare λb hb=>nomatch hb) ⟨fpX I hx nx,.inr ⟨T,fl,f,fpX I hT nT⟩⟩ q
theorem vkx{CX:CXT}{P:Program}{w:World}{K:PySem.W.Frag}{mg:Str->Option Value}{base:Heap}{N:List Str}{qual:Str}{scope:Scope}{f:Addr}{cd:Value}{A:Around}{outer:List Env}{s:Shared}{H:Hp}{E:XK}:
  z8 (zZ CX P w K mg base N qual scope f cd A outer s H E):=⟨_,_,rfl,rfl⟩
theorem qvv{P:Program}{w:World}{K:PySem.W.Frag}{mg:Str->Option Value}{base:Heap}{N:List Str}{qual:Str}{scope:Scope}{f:Addr}{cd:Value}{A:Around}{outer:List Env}{s:Shared}{H:Hp}{E:XK}{e:Value}{s':Shared}
  (h:Xo (zZ (CXE P w) P w K mg base N qual scope f cd A outer s H E) E e s'):(zZ (CXE P w) P w K mg base N qual scope f cd A outer s H E).xe e s':=by
 obtain⟨pins,σ,H',x,C,rfl,I,fx,q⟩:=h;show wpAny (model P w) _ (leaving _ (.ref x)) _ _ s';unfold leaving;refine X0 (qja (X:=zZ (CXE P w) P w K mg base N qual scope f cd A outer s H E) vkx rfl I fx λL T s1 _ t=>?_);refine jxb t λs2 t2=>?_
 have ge:∀b,FpX (zZ (CXE P w) P w K mg base N qual scope f cd A outer s H E) pins H' b->s.heap.get? b=none:=λb hb=>hb.2.2.2.1.elim (λz=>nomatch z) λz=>z
 exact⟨x,T,C,_,H',rfl,t2.inv.os,t2.inv.bare,t2.inv.base,t2.inv.hok,ge x t2.fx,ge T t2.fT,t2.fx.1,t2.fT.1,t2.f,q⟩
section
variable {P:Program}{w:World}{K:PySem.W.Frag}{mg:Str->Option Value}{base:Heap}
theorem qV{x qual:Str}{st:Stmt}{f:Addr}{fd:FuncData}{N ps:List Str}{k:Nat}{sp:Sp}(F:Fun K x qual st f fd)(S:FnScope N ps (kQ st))(len:∀vs H Q E,sp vs H Q E->vs.length=ps.length)
  (jp:∀(av:Value) (A:Around) (outer:List Env) (s:Shared) (H:Hp) (vs:List V) (Q:VK) (E:XK),Room k (A.deeper (envOfC qual (kQ st) s.heap.objs.size f av))->sp vs H Q E ->
   ∃t,PSs (Cx.ex' (zZ (CXE P w) P w K mg base N qual (kQ st) f av A outer s H E) E) (Q2 st) t/\t { nx:=λ_ H'=>Q .non H',rt:=Q } (L2.start N vs) H):FnOk P w K mg base (CXE P w) (k+1) f fd ps sp:=by
 obtain⟨oc,od,kV,fq,pm,an,av,ct,mh,rfl,lk,i7⟩:=F.ex;refine wqr lk i7 S len λA outer s H vs Q E hr js=>?_
 obtain⟨t,h,q⟩:=jp av A outer s H vs Q E hr js;exact⟨t,λpins s' σ H' D I hw=>wpAny_mono (h pins s' σ H' D (I.wish _) hw) (λf ng z=>z.unwish) λe ng z=>qvv z,q⟩
def kZ(P:Program)(w:World)(K:PySem.W.Frag)(mg:Str->Option Value)(base:Heap)(k:Nat)(x:Str)(ps:List Str)(sp:Sp):Prop:=
 ∃(f:Addr) (fd:FuncData),FnOk P w K mg base (CXE P w) k f fd ps sp/\Binds K fd ps []/\PySem.W.keepIn K (.ref f)=true/\mg x=some (.ref f)
end
section
variable {X:Cx}{x:Str}{p pos:Pos}{e:Expr}{es:List Expr}{t:TA}{ps:List Str}{sp:Sp}{k:Nat}{v:V}{E:XK}
theorem qv6(D:kZ X.prog X.w X.K X.mg X.base k x ps sp)(hr:Room k X.A)(g:x8 X E)(ha:PA X (e::es) t)(hg:Gl X x:=by rfl)(cu:(x==("__debug__":Str))=false:=by decide)
  (he:starEach (e::es) X.env=(false,eval e X.env)::starEach es X.env:=by rfl) (bt:(backTo pos (starEach es X.env)).any (·.1)=false:=by rfl):
  PE X (.Call (.Name x p) (e::es) [] pos) (vky sp [] E t):=by
 obtain⟨f,fd,F,b,kp,m⟩:=D;exact vqz F hr hg m kp b .nil (wqa g) ha cu he bt
end
abbrev lcE(X:Cx)(scope:Scope)(N:List Str)(cl:List (Str×Addr))(C:Addr)(s0:Shared)(H0:Hp)(fp:List Addr)(EX:XK):Cx:=Cx.ex' (lcX X scope N cl C s0 H0 fp) EX
section
variable {prog:Program}{w:World}{A:Around}{R:Result->Shared->Prop}{s:Shared}
theorem vvk{dm cz iter:Expr}{db:List Expr}{scope:Scope}{pos:Pos}{it ac:Value}{env:Env}(Ex:Value->Shared->Prop)(I:Nat->Shared->Prop)
  (dw:∀n s,I n s->wpAny (model prog w) A (pyNext it) (λr s1=>match r with
   | none=>R (.ok .next) s1
   | some v=>wpAny (model prog w) A (letOwnedTupleGo cz it v) (λ_ s2=>wpAny (model prog w) A (assign cz env v) (λ_ s3=>
     wpAny (model prog w) A (qvy db env) (λok s4=>
      if ok=true then
       wpAny (model prog w) A (eval dm env) (λx s5=>wpAny (model prog w) A (call (.builtin "list.append") [ac,x]) (λ_ s6=>∃m,m<n/\I m s6) Ex s5) Ex s4
      else ∃m,m<n/\I m s4) Ex s3) Ex s2) Ex s1) Ex s)
  (hx:∀e s,Ex e s->notedBy (model prog w) A env (λe s'=>R (.error e) s') e s) (n:Nat) (h:I n s):codeAny (model prog w) A (.compLoop (.ListComp dm [⟨cz,iter,db,0⟩] scope pos) 0 it ac env) R s:=by
 refine codeAny_loop rfl I (λn s hI=>?_) n h;show wpAny _ A ((compTurn (.ListComp dm [⟨cz,iter,db,0⟩] scope pos) 0 it ac env).onRaise _) _ _ s;refine wpAny_noted ?_;rw[compTurn_list];refine wpAny_mono (E:=Ex) (X0 (wpAny_standAt (X0 (thn (dw n s hI) λr s1 h1=>?_)))) (λ_ _ q=>q) (λe s q=>?_)
 rotate_left
 ·exact hx e s q
 cases r with
 |none=>exact X4 h1
 |some v=>
  refine X0 (thn h1 λ_ s2 h2=>?_);refine X0 (thn h2 λ_ s3 h3=>?_);refine X0 (thn h3 λok s4 h4=>?_);cases ok with
  |false=>exact X4 ⟨rfl,h4⟩
  |true=>exact X0 (X0 (thn h4 λx s5 h5=>X0 (thn h5 λ_ s6 h6=>X4 (X4 ⟨rfl,h6⟩))))
end
section
variable {X:Cx}{tg iter dm:Expr}{db:List Expr}{scope:Scope}{N:List Str}{k:Nat}{R:List Nat}{g:TG}{tt:TT}{te:TE}{pos:Pos}
theorem vk5{EX:XK}{pins cf:List (Addr×Obj)}{σ σ':L2.St}{H2 H':Hp}{s2 s':Shared}{fp:List Addr}{cl:List (Str×Addr)}{C x T:Addr}{Cc fl:Value}{Q:Value->Shared->Prop}{ac:Value}{use:Option (Value->Sem Unit)}(gx:x8 X EX)
  (I2:Inv X pins σ H2 s2) (f2:∀b∈fp,wq X pins H2 b) (hC:s2.heap.objs.size<=C) (t:Xt (lcX X scope N cl C s2 H2 fp) cf σ' H' x T Cc fl s') (q:EX Cc none H'):
  compPost (model X.prog X.w) X.A X.xe use Q ac C (.error (.ref x)) s':=by
 obtain⟨m,hn,_⟩:=t.inv.loc;refine⟨m,hn,λh' sb jb _=>?_⟩;have J1:Inv X pins σ H' s':=I2.call' t.inv.os t.inv.base t.inv.hok t.inv.bare λb hb=>⟨(f2 b hb).2.2.2.1,(f2 b hb).2.1,(f2 b hb).2.2.2.2.1,(f2 b hb).2.2.2.2.2⟩
 have fC:wq X pins H' C:=I2.fpOk hC t.inv.free;have J2:Inv X pins σ H' { s' with heap:=h',toks:=s'.toks }:=J1.turned (it:=C) (λb o hb e=>(sb.2 b hb).trans e) fC.1 fC.2.1 fC.2.2.2.1 fC.2.2.2.2.1 fC.2.2.2.2.2;have fp':∀b,FpX (lcX X scope N cl C s2 H2 fp) cf H' b->FpX X pins H' b:=λb hb=>by
  rcases hb.2.2.2.1 with z|z
  ·exact⟨hb.1,(FpX.of (f2 b z)).2⟩
  ·exact fpX I2 z hb.1
 have nx:x≠C:=t.fx.2.1;have nT:T≠C:=t.fT.2.1;have f:FlT h' x T Cc fl:=by
  obtain⟨⟨vs,e1,v1⟩,⟨oT,ts,e2,d2,v2⟩,cx⟩:=t.f;exact⟨⟨vs,(sb.2 x nx).trans e1,v1⟩,⟨oT,ts,(sb.2 T nT).trans e2,d2,v2⟩,cx⟩
 refine vzj (X:=X) (pins:=pins) (σ:=σ) (H:=H') (s:={ s' with heap:=h' }) ⟨J2,fp' x t.fx,fp' T t.fT,f⟩ λs3 ma t3=>gx pins σ H' s3 x Cc t3.inv t3.to q
theorem kwg{EX:XK}{pins:List (Addr×Obj)}{σ:L2.St}{H2:Hp}{s2:Shared}{it:Addr}{fp:List Addr}{tn:Nat->Heap->Prop}{J:It}{Q:VK}{W:Nat->Nat->List V->L2.St->Hp->Prop}{cl:List (Str×Addr)}{E:Value->Shared->Prop}
  {RR:Value->Addr->Result->Shared->Prop} (hc:X.calm=true) (top:z8 X) (sc:LcOk X scope N k R)
  (f7:∀x c,cl.lookup x=some c->X.env.cells.lookup x=some c) (b9:∀y∈scope.names,y.2=.free->∃c,cl.lookup y.1=some c)
  (hg:∀C s0 H0 fp,PG (lcE X scope N cl C s0 H0 fp EX) tg g) (ht:∀C s0 H0 fp,PTs (lcE X scope N cl C s0 H0 fp EX) db tt) (he:∀C s0 H0 fp,PE (lcE X scope N cl C s0 H0 fp EX) dm te)
  (I2:Inv X pins σ H2 s2) (T:Turn X.prog X.w X.K tg J fp it tn) (bg:tn 0 s2.heap) (f2:∀b∈fp,wq X pins H2 b) (w0:∃m,W 0 m [] (J5 k R σ) H2) (dw:LcW g tt te Q J W)
  (hRR:∀D C oC m ys H' s',Inv X (pins++[(C,oC)]) σ (upd H' D (.lst ys)) s'->s'.heap.get? C=some oC->s'.heap.Ns C m->wq X pins (upd H' D (.lst ys)) C->Q (.ref D) (upd H' D (.lst ys))->RR (.ref D) C (.ok .next) s')
  (hER:∀D C s' cf σ' H' x T Cc fl,s2.heap.objs.size<=C->Xt (lcX X scope N cl C s2 H2 fp) cf σ' H' x T Cc fl s'->EX Cc none H'->RR (.ref D) C (.error (.ref x)) s'):
  wpAny (model X.prog X.w) X.A (newList []) (λac s3=>wpAny (model X.prog X.w) X.A (newFunctionEnv scope X.env.globals cl [] X.env.qual none .none (some X.env)) (λjb s4=>
   codeAny (model X.prog X.w) X.A (.compStart (.ListComp dm [⟨tg,iter,db,0⟩] scope pos) 0 (.ref it) ac { jb with scope:=relabel scope X.env }) (RR ac jb.locals) s4) E s3) E s2:=by
 have qh:∀b∈fp,∃o,s2.heap.get? b=some o:=λb hb=>let ⟨o,e,_⟩:=T.obj 0 _ bg b hb;⟨o,e⟩
 refine Y5 (wpAny_newFunctionEnv sc.nocell (by intro y hy;simp at hy) (λh1 nw oh=>?_) sc.kind);dsimp only at nw oh ⊢;generalize eH:s2.heap.push { cls:=.type "list",dict:=none,data:=.seq ([]:List Value).toArray }=Hx at nw oh ⊢;have eC:Hx.objs.size=s2.heap.objs.size+1:=by rw[<-eH,Heap.size_push]
 generalize eD:s2.heap.objs.size=D at eC;generalize eC':Hx.objs.size=C at nw oh eC ⊢;have ni:D≠C:=by omega
 have hC:s2.heap.objs.size<=C:=by omega
 have hD:s2.heap.objs.size<=D:=by omega
 have gr:∀b o,s2.heap.get? b=some o->h1.get? b=some o:=λb o e=>by
  exact oh.extBut b o (Xy (Xg (Xf e) hC)) (X9 _ (eH▸X9 _ e))
 have accD:h1.get? D=some (WQ [] 0):=by
  refine oh.extBut _ _ ni (X9 _ ?_);rw [<-eH,<-eD];exact Xj _ rfl
 have jh:∀b∈fp,b≠D/\b≠C:=λb hb=>by
  obtain⟨o,e⟩:=qh b hb;exact⟨Xy (Xg (Xf e) hD),Xy (Xg (Xf e) hC)⟩
 have i8:∀{H':Hp} {oD:Obj},(∀b∈fp,H' b=none)->∀b∈fp,wq (lcE X scope N cl C s2 H2 fp EX) [(D,oD)] H' b:=fun {H' oD} hn b hb=>by
  obtain⟨_,f1,f3,f4,f5,f6⟩:=f2 b hb;refine⟨hn b hb,(jh b hb).2,λz=>?_,.inl hb,λx c h=>f5 x c (f7 x c h),λp hp=>?_⟩
  ·rcases List.mem_cons.mp (I2.stkSub b z)with y|y
   ·exact f1 y
   ·exact f3 y
  ·have e:p=(D,oD):=by
    have hp:p∈([]++[(D,oD)]:List (Addr×Obj)):=hp
    simpa using hp
   rw [e];exact(jh b hb).1.symm
 have oi:∀s3:Shared,s3={ s2 with heap:=h1,toks:=s2.toks+([]:List (Str×Value)).length } ->
   codeAny (model X.prog X.w) X.A (.compLoop (.ListComp dm [⟨tg,iter,db,0⟩] scope pos) 0 (.ref it) (.ref D) (compEnvC scope cl C X.env)) (RR (.ref D) C) s3:=by
  rintro s3 rfl;obtain⟨m0,w0⟩:=w0;have hxx:∀e s,Xo (lcX X scope N cl C s2 H2 fp) EX e s->notedBy (model X.prog X.w) X.A (compEnvC scope cl C X.env) (λe s'=>RR (.ref D) C (.error e) s') e s:=by
   rintro e s ⟨cf,σ',H',x,Cc,rfl,I',f',q'⟩;have top':z8 (lcX X scope N cl C s2 H2 fp):=top;exact qja (X:=lcX X scope N cl C s2 H2 fp) top' rfl I' f' λL T s1 _ t=>hER D C s1 cf σ' H' x T Cc _ hC t q'
  refine vvk (Xo (lcX X scope N cl C s2 H2 fp) EX) (λn s'=>∃i ys a9 nn σ' H',Inv (lcE X scope N cl C s2 H2 fp EX) [(D,WQ a9 nn)] σ' H' s'/\Vals ys a9/\tn i s'.heap/\(∀b∈fp,H' b=none)/\W i n ys σ' H') ?_ hxx m0
   ⟨0,[],[],0,_,H2,(vvi I2 sc f2 qh hC hD ni f7 b9 gr nw accD (λv z=>by cases z)).wish _,.nil,T.keep _ _ _ bg (λb hb o e=>gr b o e),λb hb=>(f2 b hb).1,w0⟩
  rintro n s3 ⟨i,ys,a9,nn,σ3,H3,I3,rv,cn,nu,w3⟩;rcases dw i n ys σ3 H3 w3 with⟨stop,hz,qn⟩|⟨go,step⟩
  ·refine thn (T.done (lcE X scope N cl C s2 H2 fp EX) rfl rfl rfl hc i _ s3 σ3 H3 _ I3 (i8 nu) cn stop) λr s4 ⟨hr,I4⟩=>?_
   subst hr;show RR (.ref D) C (.ok .next) s4;have hD4:=I4.pin (D,WQ a9 nn) (by show _∈([]++[(D,WQ a9 nn)]:List (Addr×Obj));simp);have J1:Inv X pins σ H3 s4:=I2.call' I4.os I4.base I4.hok I4.bare λb hb=>⟨(f2 b hb).2.2.2.1,(f2 b hb).2.1,(f2 b hb).2.2.2.2.1,(f2 b hb).2.2.2.2.2⟩
   have fD:wq X pins H3 D:=I2.fpOk hD hD4.2.1;have fC:wq X pins H3 C:=I2.fpOk hC I4.free;have J2:Inv X pins σ (upd H3 D (.lst ys)) s4:=kwj J1 hD4.2.1 fD.2.1 fD.2.2.2.1 fD.2.2.2.2.1 fD.2.2.2.2.2 ⟨hz,a9,nn,rv,hD4.1⟩;obtain⟨mC,nC,_⟩:=I4.loc;obtain⟨oC,es,ep,hoC,hdC,lz⟩:=id nC;have fC':wq X pins (upd H3 D (.lst ys)) C:=⟨by rw[qz ni.symm];exact fC.1,fC.2⟩;refine hRR D C oC mC ys H3 s4 (J2.pins_of λp hp=>?_) hoC nC fC' (qn D hD4.2.1);rcases List.mem_append.mp hp with z|z
   ·exact J2.pin p (lr9 _ z)
   ·rw[List.mem_singleton.mp z];exact⟨hoC,fC'.1,fC'.2.1,fC'.2.2.1,λv y=>by rw[hdC]at y;cases y⟩
  ·refine thn (T.item (lcE X scope N cl C s2 H2 fp EX) rfl rfl rfl hc i _ s3 σ3 H3 _ I3 (i8 nu) cn go) λr s4 ⟨u,hr,h4⟩=>?_
   subst hr;refine thn h4 λ_ s5 ⟨x,H5,I5,r5,y5,st5,fr5⟩=>?_
   have I5':=I5.pinned (i8 fr5) (T.obj _ _ st5);have ie:∀{σ':L2.St} {H':Hp} {s':Shared} {pl:List (Addr×Obj)},Inv (lcE X scope N cl C s2 H2 fp EX) (pl++KK fp s5.heap) σ' H' s'->tn (i+1) s'.heap/\∀b∈fp,H' b=none:=fun {σ' H' s' pl} I'=>by
    have q:∀b∈fp,∀o,s5.heap.get? b=some o->s'.heap.get? b=some o/\H' b=none:=λb hb o e=>by
     obtain⟨a1,a2,_⟩:=I'.pin (b,o) (lr9 _ (lr9 _ (jz4 hb e)));exact⟨a1,a2⟩
    refine⟨T.keep _ _ _ st5 λb hb o e=>(q b hb o e).1,λb hb=>?_⟩;obtain⟨o,e,_⟩:=T.obj _ _ st5 b hb;exact(q b hb o e).2
   refine thn (hg C s2 H2 fp _ s5 σ3 H5 x u _ I5' r5 (step x H5 y5)) λ_ s6 ⟨σ6,H6,I6,Ny,Nn,hNy,hNn,q6⟩=>?_
   refine thn (ht C s2 H2 fp _ s6 σ6 H6 _ I6 q6) λok s7 ⟨H7,I7,q7⟩=>?_
   cases ok with
   | false=>
    obtain⟨m',hm,w7⟩:=hNn _ q7;exact⟨m',hm,i+1,ys,a9,nn,σ6,H7,I7.unpinned,rv,(ie I7).1,(ie I7).2,w7⟩
   | true=>
    refine thn (he C s2 H2 fp _ s7 σ6 H7 _ I7 q7) λu8 s8 ⟨y,H8,I8,r8,q8⟩=>?_
    obtain⟨hz,m',hm,w8⟩:=hNy _ _ q8;have pD:=I8.pin (D,WQ a9 nn) (lr9 _ (ll9 _ (List.mem_singleton.mpr rfl)));have ae:=rv.length;refine append_at (hsz:=by rw[X7];omega) pD.1 λh9 sb9 e9=>?_
    have I8a:Inv (lcE X scope N cl C s2 H2 fp EX) ([]++KK fp s5.heap) σ6 H8 s8:=I8.pins_of λp hp=>I8.pin p (lr9 _ (lr9 _ hp))
    have I9:Inv (lcE X scope N cl C s2 H2 fp EX) ([]++KK fp s5.heap) σ6 H8 { s8 with heap:=h9,toks:=s8.toks }:=I8a.turned (it:=D) (λb o hb e=>(sb9.2 b hb).trans e) pD.2.1 ni (.inr hD)
     (λx c h z=>by
      obtain⟨v,q⟩:=I2.cell x c (f7 x c h);exact absurd (Xg q.lt (by rw[z];exact hD)) (Yj _))
     (λp hp z=>by
      have hp:p∈([]++([]++KK fp s5.heap):List (Addr×Obj)):=hp;have hp:p∈KK fp s5.heap:=by simpa using hp
      exact(jh p.1 (kwc hp).1).1 z)
    have e9':h9.get? D=some (WQ (a9++[u8]) (nn+1)):=by rw[e9];simp[List.push_toArray]
    refine⟨m',hm,i+1,ys++[y],a9++[u8],nn+1,σ6,H8,I9.pins_of λp hp=>?_,rv.append (.cons r8 .nil),(ie I9).1,(ie I9).2,w8⟩;rw[List.mem_singleton.mp hp];exact⟨e9',pD.2.1,pD.2.2.1,pD.2.2.2.1,λv z=>by cases z⟩
 exact codeAny_compStart_list (oi _ rfl) (T.self _ 0 _ _ _ (T.keep _ _ _ bg λb hb o e=>gr b o e) (oi _ rfl))
theorem vzf{EX:XK}{wi:TI}(N:List Str)(k:Nat)(R:List Nat)(hi:PI X tg iter wi)
  (hg:∀cl C s0 H0 fp,PG (lcE X scope N cl C s0 H0 fp EX) tg g) (ht:∀cl C s0 H0 fp,PTs (lcE X scope N cl C s0 H0 fp EX) db tt) (he:∀cl C s0 H0 fp,PE (lcE X scope N cl C s0 H0 fp EX) dm te)
  (gx:x8 X EX) (top:z8 X) (hc:X.calm=true:=by rfl) (hk:scope.kind=.function:=by rfl) (jd:Qx X.N X.env.scope scope N k R=true:=by rfl) (hs:∀x,foldedSetIterable iter X.env x=pure x:=by intro _;rfl):
  PE X (.ListComp dm [⟨tg,iter,db,0⟩] scope pos) (tLC wi g tt te k R):=by
 intro pins s σ H Q I h;have sc:=qjf hk jd;obtain⟨cl,j',f7,b9⟩:=kq8 (scope:=scope) (env:=X.env) λy hy e=>I.ok.has y.1 (sc.caps y hy e)
 rw[eval_ListComp];refine wpAny_comprehension_free (use:=none) rfl hs j' sc.kind sc.names (thn (hi pins s σ H _ I h) λv s1 h1=>thn h1 λitv s2 h2=>?_);obtain⟨it,fp,tn,J,H2,e,I2,T,bg,f2,W,w0,dw⟩:=h2;subst e;refine kwg (EX:=EX) (RR:=λac C=>compPost (model X.prog X.w) X.A X.xe none (EP X pins σ Q) ac C) hc top sc f7 b9 (hg cl) (ht cl) (he cl) I2 T bg f2 w0 dw ?_ ?_
 rotate_left
 ·intro D C s' cf σ' H' x T Cc fl hC t q;exact vk5 gx I2 f2 hC t q
 intro D C oC m ys H' s' I' _ nC fC q;exact⟨m,nC,λh' sb=>⟨.ref D,_,I'.unpinned.turned (it:=C) (t':=s'.toks) (λb o hb e=>(sb.2 b hb).trans e) fC.1 fC.2.1 fC.2.2.2.1 fC.2.2.2.2.1 fC.2.2.2.2.2,rfl,q⟩⟩
end
abbrev bmV:List Value:=[.type "ValueError",.type "Exception",.type "BaseException",.type "object"]
structure ECls (K:PySem.W.Frag)(mg:Str->Option Value)(x:Str)(C:Addr):Prop where
 bd:mg x=some (.ref C)
 ec:PySem.W.excIn K C bmV "ValueError.__new__"=true
 xc:XCls K C
theorem vv2{K:PySem.W.Frag}{h:Heap}{C:Addr}{bmB:List Value}{mi:String}(KI:K.In h)(e:PySem.W.excIn K C bmB mi=true):
  ∃ bm N nm q bs hdct sn sub ab col dd k0 k1 k2 k3 k5 mN,h.get? C=some (excClassObj nm q C N bs bm hdct sn sub ab col dd k0 k1 k2 k3 k5 mi)/\h.Ns N mN/\mN "__init__"=none/\OwnTail h bmB bm:=by
 unfold PySem.W.excIn at e
 split at e
 ·rename_i dict cd sl hl
  split at e
  ·rename_i bm C' k0 k1 k2 k3 n k5 hm hs;simp only[Bool.and_eq_true,beq_iff_eq,Bool.not_eq_true']at e;obtain⟨⟨⟨⟨⟨e1,e2⟩,e3⟩,e4⟩,e5⟩,e6⟩:=e;subst e1 e2;have g:=KI _ _ hl;obtain⟨nm,bs,mro,ns,qn,hd,hdel,sn,sub,ab,col⟩:=cd;dsimp only at hm e3 e5 e6;subst hm e3;have kt:sl=#[k0,k1,k2,k3,some (Value.builtin n),k5]:=by
    apply Array.toList_inj.mp;rw[hs]
   subst kt;exact⟨_,ns,nm,qn,bs,hd,hdel,sn,sub,ab,dict,k0,k1,k2,k3,k5,h.nsMap ns,g,Heap.Ns.of_isNs (PySem.W.isNs_of_in KI e5),PySem.W.nsMap_none_of_in KI e5 e6,PySem.W.tail_of_in KI e4⟩
  ·cases e
 ·cases e
section
variable {X:Cx}{x:Str}{np aa pos:Pos}{e:Expr}{es:List Expr}{ta:TA}{C:Addr}{E:XK}
abbrev vx4(E:XK)(C:Addr)(ta:TA):TS:=λ_ σ H=>ta σ H λvs H1=>vs.length<=sizeLine/\E (.ref C) none H1
theorem qza(c:ECls X.K X.mg x C)(g:x8 X E)(ha:PA X (e::es) ta)(hg:Gl X x:=by rfl)(hc:X.calm=true:=by rfl)(cu:(x==("__debug__":Str))=false:=by decide)
  (he:starEach (e::es) X.env=(false,eval e X.env)::starEach es X.env:=by rfl) (bt:((backTo aa (starEach (e::es) X.env)).any (·.1))=false:=by rfl):
  PS X (.Raise (some (.Call (.Name x np) (e::es) [] aa)) none pos) (vx4 E C ta):=by
 intro pins s σ H D I h;obtain⟨bm,N,nm,q,bs,hdct,sn,sub,ab,col,dd,k0,k1,k2,k3,k5,mN,o1,o2,o3,o4⟩:=vv2 I.ok.mod.kin c.ec;refine wpAny_Raise_call_subT (nm:=nm) (q:=q) (C:=C) (N:=N) (bs:=bs) (bm:=bm) (hdct:=hdct) (sn:=sn) (sub:=sub) (ab:=ab) (col:=col) (dd:=dd) (k0:=k0) (k1:=k1) (k2:=k2) (k3:=k3) (k5:=k5) (bmB:=bmV) F.excBase_ValueError (o4.hasType (X:="BaseException") rfl) (I.ok.hd hc) bt o3 (kv3 I hg c.bd ⟨rfl,?_⟩ cu);obtain⟨y0,r0,jo⟩:∃y r,backTo aa (starEach (e::es) X.env)=(false,y)::r:=by rw[he];exact⟨_,_,rfl⟩
 have js:=ha aa pins s σ H _ I h;rw[jo]at js ⊢;refine Calls.evalArgs_plain (thn js λus s2 ⟨vs,H1,I1,r1,q1⟩=>⟨rfl,by rw[<-r1.length];exact q1.1,I1.bk _ _ o1,?_,?_,λh' ea lj=>?_⟩)
 ·obtain⟨o,es',ep,ho,r⟩:=o2;exact⟨o,es',ep,I1.bk _ _ ho,r⟩
 ·exact o4.keeps λb o e=>I1.bk b o e
 ·obtain⟨t,m1,m2,m3⟩:=lj.there;have J:Inv X pins σ H1 { s2 with heap:=h',toks:=s2.toks }:=I1.kept lj.keeps;exact g pins σ H1 _ ea (.ref C) J ⟨fpX I1 lj.new (qzx I1.hok lj.new),.inl ⟨_,⟨m1,by show(1:Nat)<6;decide⟩,rfl⟩⟩ q1.2
def XX(X:Cx)(pins:List (Addr×Obj))(σ:L2.St)(E:XK)(e:Value)(s:Shared):Prop:=∃H x C,e=.ref x/\Inv X pins σ H s/\Fx X pins H s.heap x C/\E C none H
def PSX(X:Cx)(st:Stmt)(t:XK->TS):Prop:=∀(E:XK) (pins:List (Addr×Obj)) (s:Shared) (σ:L2.St) (H:Hp) (D:Ends),Inv X pins σ H s->t E D σ H->wpAny (model X.prog X.w) X.A (exec st X.env) (SP X pins D) (XX X pins σ E) s
def PEX(X:Cx)(ex:Expr)(t:XK->TE):Prop:=∀(E:XK) (pins:List (Addr×Obj)) (s:Shared) (σ:L2.St) (H:Hp) (Q:VK),Inv X pins σ H s->t E σ H Q->wpAny (model X.prog X.w) X.A (eval ex X.env) (EP X pins σ Q) (XX X pins σ E) s
theorem qzd{k:Nat}{ps:List Str}{sp:Sp}(D:kZ X.prog X.w X.K X.mg X.base k x ps sp)(hr:Room k X.A)(ha:PA X.nox (e::es) ta)(hg:Gl X x:=by rfl)(cu:(x==("__debug__":Str))=false:=by decide)
  (he:starEach (e::es) X.env=(false,eval e X.env)::starEach es X.env:=by rfl) (bt:(backTo pos (starEach es X.env)).any (·.1)=false:=by rfl):
  PEX X (.Call (.Name x np) (e::es) [] pos) (λE=>vky sp [] E ta):=by
 obtain⟨f,fd,F,hb,kp,m⟩:=D;intro E pins s σ H Q I h;refine wpAny_Call_Name_kw (kv3 I hg m ?_ cu);refine PySem.W.callWith_K (h₀:=X.base) I.ok.mod.kin kp (wpAny_mono (ha pos pins s σ H _ (I.wish _) h) (λus s1 ⟨vs,H1,I1,r,q⟩=>⟨I1.kIn,?_⟩) λ_ _ z=>z.elim) he bt;have I1:=I1.unwish;have q:sp (vs++[]) H1 Q E:=q;have hl:us.length=ps.length:=by
  rw[<-r.length];have:=F.len _ _ _ _ q
  rwa [Xp]at this
 refine wpAny_call (codeAny_mono (F.run X.A X.stack s1 H1 ⟨us,[]⟩ us vs Q E hr I1.env0 (by have:=hb s1 us I1.kIn (by rw[Xp];exact hl);rwa [Xp]at this) r (by rwa [Xp]at q)) λrr s' hq=>?_);cases rr with
 |error e=>
  obtain⟨x,T,C,fl,H',rfl,os,bare,un,hok,hx,hT,nx,nT,f,q⟩:=hq;exact⟨H',x,C,rfl,I1.call' os un hok bare (λb hb=>nomatch hb),⟨fpX I1 hx nx,.inr ⟨T,fl,f,fpX I1 hT nT⟩⟩,q⟩
 |ok fl=>
  cases fl with
  |ret u=>exact I1.after hq
  |next=>exact False.elim hq
  |brk=>exact False.elim hq
  |cont=>exact False.elim hq
theorem qz7{ex:Expr}{t:XK->TE}(h:PEX X ex t)(hs:swapsWith ex none pos.line X.env=pure false:=by rfl):PSX X (.Expr ex pos) (λE=>vx6 (t E)):=by
 intro E pins s σ H D I hw;exact wpAny_Expr_any (thn (h E pins s σ H _ I hw) λv s1 ⟨x,H1,I1,r1,q1⟩=>⟨σ,H1,I1,q1⟩) I.quiet hs
end
structure ExAt (K:PySem.W.Frag)(x:Addr)(ox:Obj)(C:Addr):Prop where
 cls:ox.cls=.ref C
 no:PySem.W.notCls ox=true
 di:ox.dict=none
 xc:XCls K C
end L3
namespace Q
open PySem
inductive D where
 |non|bl (b:Bool)|int (i:Int)|str (z:Str)|tup (xs:List D)|lst (xs:List D)|dct (kvs:List (D×D))|obj (c:Str) (fs:List (Str×D))
instance:DecidableEq D:=λa b=>Classical.propDecidable (a=b)
instance:Inhabited D:=⟨.non⟩
mutual
def D.pure:D->Bool
 |.tup xs=>D.pures xs
 |.lst _=>false
 |.dct _=>false
 |.obj _ _=>false
 |_=>true
def D.pures:List D->Bool
 |[]=>true
 |a::x=>D.pure a&&D.pures x
end
theorem D.pures_all:∀xs:List D,D.pures xs=xs.all D.pure
 |[]=>by simp[D.pures]
 |a::x=>by rw[D.pures,List.all_cons,D.pures_all x]
@[simp] theorem D.pures_map {α:Type}(f:α->D)(xs:List α)(h:∀x∈xs,(f x).pure=true):D.pures (xs.map f)=true:=by
 rw[D.pures_all,List.all_eq_true];intro d hd;obtain⟨x,hx,rfl⟩:=List.mem_map.mp hd;exact h x hx
mutual
def peq:D->D->Bool
 |.non,.non=>true
 |.bl a,.bl b=>a==b
 |.bl a,.int b=>(if a then 1 else 0)==b
 |.int a,.bl b=>a==(if b then 1 else 0)
 |.int a,.int b=>a==b
 |.str a,.str b=>a==b
 |.lst as,.lst bs=>peqs as bs
 |.tup as,.tup bs=>peqs as bs
 |_,_=>false
def peqs:List D->List D->Bool
 |[],[]=>true
 |a::as,b::bs=>peq a b&&peqs as bs
 |_,_=>false
end
mutual
def D.flat:Nat->D->Bool
 |0,.tup _=>false
 |0,.lst _=>false
 |n+1,.tup xs=>D.flats n xs
 |n+1,.lst xs=>D.flats n xs
 |_,.dct _=>false
 |_,.obj _ _=>false
 |_,_=>true
def D.flats:Nat->List D->Bool
 |_,[]=>true
 |n,a::x=>D.flat n a&&D.flats n x
end
mutual
def jX:Nat->D->Bool
 |_,.non=>true
 |_,.int _=>true
 |n+1,.tup xs=>keyDs n xs
 |_,_=>false
def keyDs:Nat->List D->Bool
 |_,[]=>true
 |n,a::x=>jX n a&&keyDs n x
end
def unm : List (D × D) -> Bool
  |(.str _, _)::_=>false
  |_=>true
inductive Own where
 |no|rt|dp
 deriving DecidableEq
abbrev Sd:=Own×D
abbrev En:=List (Option Sd)
inductive Res (α:Type) where
 |ok (E:En) (a:α)
 |exc (E:En) (c:Str)
abbrev Ev(α:Type):=En->Option (Res α)
abbrev Ex:=Ev Sd
def bnd{α β:Type}(m:Option (Res α))(f:En->α->Option (Res β)):Option (Res β):=
 match m with
 |some (.ok E a)=>f E a
 |some (.exc E c)=>some (.exc E c)
 |none=>none
@[simp] theorem ww3 {α β:Type}(E:En)(a:α)(f:En->α->Option (Res β)):bnd (some (.ok E a)) f=f E a:=rfl
@[simp] theorem wv1 {α β:Type}(E:En)(c:Str)(f:En->α->Option (Res β)):bnd (some (.exc E c)) f=some (.exc E c):=rfl
@[simp] theorem wkd {α β:Type}(f:En->α->Option (Res β)):bnd none f=none:=rfl
def val{α:Type}(E:En)(x:Option α):Option (Res α):=x.map (Res.ok E)
@[simp] theorem wk3 {α:Type}(E:En)(x:α):val E (some x)=some (.ok E x):=rfl
@[simp] theorem wk4 {α:Type}(E:En):val E (none:Option α)=none:=rfl
def cC(d:D):Ex:=λE=>some (.ok E (.dp,d))
def cV(i:Nat):Ex:=λE=>match E[i]? with
 |some (some (_,d))=>some (.ok (E.set i (some (.no,d))) (.no,d))
 |_=>none
def cMv(i:Nat):Ex:=λE=>match E[i]? with
 |some (some x)=>some (.ok (E.set i none) x)
 |_=>none
def vV(i:Nat):Ex:=λE=>match E[i]? with
 |some (some x)=>some (.ok E x)
 |_=>none
def vE(c:Ex):Ex:=λE=>bnd (c E) λE x=>some (.ok E (.no,x.2))
abbrev C9(z:Int):Ex:=vE (cC (.int z))
def cH(v:Ex):Ex:=λE=>bnd (v E) λE x=>if x.1=.no then some (.ok E (.no,x.2))else if x.2.pure then some (.ok E (.dp,x.2))else none
def cF1(f:Sd->Option Sd)(a:Ex):Ex:=λE=>bnd (a E) λE x=>val E (f x)
def cF2(f:Sd->Sd->Option Sd)(a b:Ex):Ex:=λE=>bnd (a E) λE x=>bnd (b E) λE y=>val E (f x y)
def pu1(f:D->Option D):Sd->Option Sd:=λx=>(f x.2).map λd=>(.dp,d)
def pu2(f:D->D->Option D):Sd->Sd->Option Sd:=λx y=>(f x.2 y.2).map λd=>(.dp,d)
def ww1:D->List D
 |.lst xs=>xs
 |.tup xs=>xs
 |.dct kvs=>kvs.map (·.2)
 |_=>[]
def qW(x:Sd):Bool:=x.1 != .dp||D.pures (ww1 x.2)
def sub:Own->Own
 |.dp=>.dp
 |_=>.no
def ixN(n:Nat)(i:Int):Option Nat:=if 0<=i then(if i<n then some i.toNat else none)else if -(n:Int)<=i then some (i+n).toNat else none
def ixD:D->D->Option D
 |.lst xs,.int i=>(ixN xs.length i).bind λj=>xs[j]?
 |.tup xs,.int i=>(ixN xs.length i).bind λj=>xs[j]?
 |.str z,.int i=>(ixN z.cps.size i).bind λj=>(z.cps.toList[j]?).map λc=>.str ⟨#[c]⟩
 |.dct kvs,k=>(kvs.find? λe=>decide (e.1=k)).map (·.2)
 |_,_=>none
def big:Nat:=16777216
def i2(f:Int->Int->Option Int):D->D->Option D
 |.int a,.int b=>(f a b).map .int
 |_,_=>none
def c2(f:Int->Int->Bool):D->D->Option D
 |.int a,.int b=>some (.bl (f a b))
 |_,_=>none
def qqg(a:Int):Bool:=decide (-(2 ^ 64)<a)&&decide (a<2 ^ 64)
def jq:Sd->Sd->Option Sd:=λx y=>match x.2,y.2 with
 |.int a,.int b=>some (.dp,.int (a+b))
 |.str a,.str b=>if a.cps.size+b.cps.size<=big then some (.dp,.str (a++b))else none
 |.lst a,.lst b=>if a.length+b.length<=big/\qW x/\qW y then some (.rt,.lst (a++b))else none
 |.tup a,.tup b=>if a.length+b.length<=big/\qW x/\qW y then some (.no,.tup (a++b))else none
 |_,_=>none
def JV(a b:Int):Bool:=qqg a||qqg b||(decide (a.natAbs.log2<2000000)&&decide (b.natAbs.log2<2000000))
def zV:Sd->Sd->Option Sd:=λx y=>match x.2,y.2 with
 |.int a,.int b=>if JV a b then some (.dp,.int (a*b))else none
 |.lst a,.int k=>if -(2 ^ 63)<=k/\k<2 ^ 63/\a.length*k.toNat<=big/\qW x then some (.rt,.lst (List.replicate k.toNat a).flatten)else none
 |.str z,.int n=>if(z.cps.size<=1024/\n<=1024/\-1024<=n)/\(Txt.mul z n).cps.size<=big then some (.dp,.str (Txt.mul z n))else none
 |_,_=>none
def fSub:D->D->Option D:=i2 λa b=>some (a - b)
def z6:D->D->Option D:=i2 λa b=>if 0<b/\b.natAbs.log2<9000 then some (a / b)else none
def kW:D->D->Option D:=i2 λa b=>if 0<b then some (a % b)else none
def WY:D->D->Option D:=i2 λa b=>if 0<=b/\b<=1000000/\a.natAbs<2 ^ 64 then some (a ^ b.toNat)else none
def fEq:D->D->Option D:=λa b=>if a.flat 40&&b.flat 40 then some (.bl (peq a b))else none
def fNe:D->D->Option D:=λa b=>if a.flat 40&&b.flat 40 then some (.bl (!peq a b))else none
def isNon:D->Bool
 |.non=>true
 |_=>false
def fLt:D->D->Option D:=c2 λa b=>decide (a<b)
def fLe:D->D->Option D:=c2 λa b=>decide (a<=b)
def fGt:D->D->Option D:=c2 λa b=>decide (b<a)
def fGe:D->D->Option D:=c2 λa b=>decide (b<=a)
def wqu(a b:Str):Bool:=!(Builtin.Str.occurrences b a 0 b.length 1).isEmpty
def fIn:D->D->Option D:=λx y=>match y with
 |.lst ys=>if x.flat 30&&D.flats 30 ys then some (.bl (ys.any λz=>peq z x))else none
 |.tup ys=>if x.flat 30&&D.flats 30 ys then some (.bl (ys.any λz=>peq z x))else none
 |.str b=>(match x with
  |.str a=>some (.bl (wqu a b))
  |_=>none)
 |.dct kvs=>some (.bl (kvs.any λe=>decide (e.1=x)))
 |_=>none
def kwn:D->D->Option D:=λx y=>(fIn x y).bind λd=>match d with
 |.bl k=>some (.bl (!k))
 |_=>none
def kX:D->Option D
 |.lst xs=>some (.int xs.length)
 |.tup xs=>some (.int xs.length)
 |.str z=>some (.int z.length)
 |_=>none
def kind:D->String
 |.non=>"NoneType"
 |.bl _=>"bool"
 |.int _=>"int"
 |.str _=>"str"
 |.tup _=>"tuple"
 |.lst _=>"list"
 |.dct _=>"dict"
 |.obj _ _=>""
def isaK(t u:String):Bool:=t==u||(t == "bool" && u == "int")
def wjn(u:String):D->Option D:=λd=>match d with
 |.obj _ _=>none
 |.dct _=>none
 |_=>some (.bl (isaK (kind d) u))
def fIsNon:D->Option D:=λd=>some (.bl (isNon d))
def fNotNon:D->Option D:=λd=>some (.bl (!isNon d))
abbrev Ts:=Ev Bool
def truth:D->Option Bool
 |.bl b=>some b
 |.non=>some false
 |.int i=>some (i != 0)
 |.str z=>some (z.cps.size != 0)
 |.lst xs=>some (!xs.isEmpty)
 |.tup xs=>some (!xs.isEmpty)
 |.dct xs=>some (!xs.isEmpty)
 |.obj _ _=>none
def tE(c:Ex):Ts:=λE=>bnd (c E) λE x=>val E (truth x.2)
def tAnd(a b:Ts):Ts:=λE=>bnd (a E) λE x=>if x then b E else some (.ok E false)
def tOr(a b:Ts):Ts:=λE=>bnd (a E) λE x=>if x then some (.ok E true)else b E
def tNot(a:Ts):Ts:=λE=>bnd (a E) λE x=>some (.ok E (!x))
def tYes:Ts:=λE=>some (.ok E true)
def cIf(t:Ts)(a b:Ex):Ex:=λE=>bnd (t E) λE x=>if x then a E else b E
def V0(a b:Ex):Ex:=λE=>bnd (a E) λE x=>match x.2 with
 |.bl true=>b E
 |.bl false=>some (.ok E (.dp,.bl false))
 |_=>none
def cOr(a b:Ex):Ex:=λE=>bnd (a E) λE x=>match x.2 with
 |.bl true=>some (.ok E (.dp,.bl true))
 |.bl false=>b E
 |_=>none
def zw:D->D->Option D:=λx y=>match y with
 |.dct _=>none
 |_=>fIn x y
def vQ:D->D->Option D:=λx y=>match y with
 |.dct _=>none
 |_=>kwn x y
def f2First(f:D->Option D):Sd->Sd->Option Sd:=λx y=>if isNon y.2 then(f x.2).map λd=>(.dp,d)else none
def k6:D->D->Option D:=λx y=>match x with
 |.dct _=>none
 |_=>ixD x y
def j3(a b:Ex):Ex:=λE=>bnd (a E) λE x=>bnd (b E) λE y=>val E ((k6 x.2 y.2).map λd=>(sub x.1,d))
def truthQ:D->Option Bool:=λd=>match d with
 |.dct _=>none
 |_=>truth d
def tEQ(c:Ex):Ts:=λE=>bnd (c E) λE x=>val E (truthQ x.2)
def qJ:List Ex->Ev (List Sd)
 |[],E=>some (.ok E [])
 |c::cs,E=>bnd (c E) λE x=>bnd (qJ cs E) λE xs=>some (.ok E (x::xs))
def vJ(x:Sd):Bool:=x.1 == .dp||x.2.pure
def jZ(o:Own)(cs:List Ex):Ex:=λE=>bnd (qJ cs E) λE xs=>if o=.dp then(if xs.all vJ then some (.ok E (.dp,.lst (xs.map (·.2))))else none)else some (.ok E (.rt,.lst (xs.map (·.2))))
def kw(o:Own)(cs:List Ex):Ex:=λE=>bnd (qJ cs E) λE xs=>if o=.dp then(if xs.all vJ then some (.ok E (.dp,.tup (xs.map (·.2))))else none)else some (.ok E (.no,.tup (xs.map (·.2))))
inductive Fl where
 |nx (E:En)|rt (E:En) (x:Sd)|ct (E:En)|bk (E:En)|xc (E:En) (c:Str)
abbrev Sm:=En->Option Fl
def ofE{α:Type}(m:Option (Res α))(f:En->α->Option Fl):Option Fl:=
 match m with
 |some (.ok E a)=>f E a
 |some (.exc E c)=>some (.xc E c)
 |none=>none
@[simp] theorem wvv {α:Type}(E:En)(a:α)(f:En->α->Option Fl):ofE (some (.ok E a)) f=f E a:=rfl
@[simp] theorem wqd {α:Type}(E:En)(c:Str)(f:En->α->Option Fl):ofE (some (.exc E c)) f=some (.xc E c):=rfl
@[simp] theorem wka {α:Type}(f:En->α->Option Fl):ofE none f=none:=rfl
def j4(a b:Sm):Sm:=λE=>match a E with
 |some (.nx E)=>b E
 |r=>r
def k7:Sm:=λE=>some (.nx E)
def vq5:Sm:=λE=>some (.ct E)
def j6(i:Nat)(c:Ex):Sm:=λE=>ofE (c E) λE x=>some (.nx (E.set i (some x)))
def qxz(c:Ex):Sm:=λE=>ofE (c E) λE _=>some (.nx E)
def jv(c:Ex):Sm:=λE=>ofE (c E) λE x=>some (.rt E x)
def sRetN:Sm:=λE=>some (.rt E (.dp,.non))
def sIf(t:Ts)(a b:Sm):Sm:=λE=>ofE (t E) λE x=>if x then a E else b E
inductive Tg where
 |n (i:Nat)|t (ts:List Nat)
def setAll:List Nat->List D->En->Option En
 |[],[],E=>some E
 |i::is,d::ds,E=>setAll is ds (E.set i (some (.no,d)))
 |_,_,_=>none
def Tg.put:Tg->D->En->Option En
 |.n i,d,E=>some (E.set i (some (.no,d)))
 |.t is,.tup ds,E=>setAll is ds E
 |.t is,.lst ds,E=>setAll is ds E
 |.t _,_,_=>none
def Yx(is:List Nat)(c:Ex):Sm:=λE=>ofE (c E) λE x=>(Tg.put (.t is) x.2 E).map .nx
def Jk(tg:Tg)(b:Sm):List D->En->Option Fl
 | [],E=>some (.nx E)
 | d::ds,E=>match tg.put d E with
  |none=>none
  |some E=>match b E with
   |some (.nx E)=>Jk tg b ds E
   |some (.ct E)=>Jk tg b ds E
   |some (.bk E)=>some (.nx E)
   |r=>r
def qQ(it:Ev (List D))(tg:Tg)(b:Sm):Sm:=λE=>ofE (it E) λE ds=>Jk tg b ds E
def sWhile(t:Ts)(b:Sm)(E:En):Option Fl:=
 match t E with
 |some (.ok E true)=>(match b E with
  |some (.nx E)=>sWhile t b E
  |some (.ct E)=>sWhile t b E
  |some (.bk E)=>some (.nx E)
  |r=>r)
 |some (.ok E false)=>some (.nx E)
 |some (.exc E c)=>some (.xc E c)
 |none=>none
partial_fixpoint
def whN(t:Ts)(b:Sm):Nat->En->Option Fl
 | 0,_=>none
 | n+1,E=>match t E with
  |some (.ok E true)=>(match b E with
   |some (.nx E)=>whN t b n E
   |some (.ct E)=>whN t b n E
   |some (.bk E)=>some (.nx E)
   |r=>r)
  |some (.ok E false)=>some (.nx E)
  |some (.exc E c)=>some (.xc E c)
  |none=>none
theorem vkr{t:Ts}{b:Sm}:∀{E:En} {r:Fl},sWhile t b E=some r->∃n,whN t b n E=some r:=by
 intro E r;refine sWhile.partial_correctness t b (λE r=>∃n,whN t b n E=some r) ?_ E r;intro f ih E r h;cases ht:t E with
 | none=>rw[ht]at h;cases h
 | some q=>
  cases q with
  | exc E1 c=>rw[ht]at h;exact⟨1,by simp only[whN,ht];exact h⟩
  | ok E1 k=>
   rw[ht]at h;cases k with
   | false=>exact⟨1,by simp only[whN,ht];exact h⟩
   | true=>
    dsimp only at h;cases hb:b E1 with
    |none=>rw[hb]at h;cases h
    |some g=>
     rw[hb]at h;cases g with
     |nx E2=>obtain⟨n,hn⟩:=ih _ _ h;exact⟨n+1,by simp only[whN,ht,hb];exact hn⟩
     |ct E2=>obtain⟨n,hn⟩:=ih _ _ h;exact⟨n+1,by simp only[whN,ht,hb];exact hn⟩
     |bk E2=>exact⟨1,by simp only[whN,ht,hb];exact h⟩
     |rt E2 x=>exact⟨1,by simp only[whN,ht,hb];exact h⟩
     |xc E2 c=>exact⟨1,by simp only[whN,ht,hb];exact h⟩
def at'{α:Type}(L:List (Option α))(j:Nat):Option α:=(L[j]?).join
def clr{α:Type}:List Nat->List (Option α)->List (Option α)
 |[],L=>L
 |j::R,L=>clr R (L.set j none)
def back{α:Type}:List Nat->List (Option α)->List (Option α)->List (Option α)
 |j::R,q::B,L=>back R B (L.set j q)
 |_,_,L=>L
def Wq(k:Nat)(R:List Nat)(E:En):En:=List.replicate k none++R.map (at' E)
def J8(k:Nat)(R:List Nat)(B E:En):En:=back R (B.drop k) (clr R E)
def lcL(tg:Tg)(t:Ts)(c:Ex):List D->En->List Sd->Option (Res (List Sd))
 |[],B,ac=>some (.ok B ac)
 |d::ds,B,ac=>match tg.put d B with
  |none=>none
  |some B=>bnd (t B) λB x=>if x then bnd (c B) λB y=>lcL tg t c ds B (ac++[y])else lcL tg t c ds B ac
def mkL(o:Own)(E:En)(xs:List Sd):Option (Res Sd):=
 if o=.dp then(if xs.all vJ then some (.ok E (.dp,.lst (xs.map (·.2))))else none)else some (.ok E (.rt,.lst (xs.map (·.2))))
def cLC(o:Own)(k:Nat)(R:List Nat)(it:Ev (List D))(tg:Tg)(t:Ts)(c:Ex):Ex:=λE=>bnd (it E) λE ds=>
 match lcL tg t c ds (Wq k R E) []with
 |some (.ok B xs)=>mkL o (J8 k R B E) xs
 |some (.exc B e)=>some (.exc (J8 k R B E) e)
 |none=>none
def qzu:Option (Option Sd)->Bool
 |some (some (_,.lst _))=>true
 |_=>false
def k9(f:List D->D->Option (List D))(i:Nat)(c:Ex):Sm:=λE=>if qzu E[i]? then ofE (c E) λE x=>match E[i]? with
 |some (some (o,.lst xs))=>if o=.no then none else(match f xs x.2 with
  |some ys=>some (.nx (E.set i (some (if o=.dp/\vJ x then .dp else .rt,.lst ys))))
  |none=>none)
 |_=>none
 else none
def kj:List D->D->Option (List D):=λxs d=>if xs.length<big then some (xs++[d])else none
def zj:D->Option D
 |.int i=>some (.int i)
 |.bl k=>some (.int (if k then 1 else 0))
 |.str z=>if z.length<=640 then(PySem.intText? z).map .int else none
 |_=>none
def zK:Sd->Option Sd:=λx=>match x.2 with
 |.lst xs=>if qW x then some (.rt,.lst xs)else none
 |.tup xs=>if qW x then some (.rt,.lst xs)else none
 |_=>none
def x3:Sd->Option Sd:=λx=>match x.2 with
 |.lst xs=>if qW x then some (.no,.tup xs)else none
 |.tup xs=>if qW x then some (.no,.tup xs)else none
 |_=>none
def seqOf:D->Option (List D)
 |.lst xs=>some xs
 |.tup xs=>some xs
 |.str z=>if z.cps.size<=big then some (z.cps.toList.map λc=>.str ⟨#[c]⟩)else none
 |_=>none
def itS(c:Ex):Ev (List D):=λE=>bnd (c E) λE x=>val E (seqOf x.2)
def xV(i:Int):Bool:=decide (-(2 ^ 62)<=i)&&decide (i<2 ^ 62)
def jQ(lo hi:Int):List D:=(List.range (hi - lo).toNat).map λ(k:Nat)=>.int (lo+(k:Int))
def vk(c:Ex):Ev (List D):=λE=>bnd (c E) λE x=>match x.2 with
 |.int j=>if xV j/\j.toNat<=big then some (.ok E (jQ 0 j))else none
 |_=>none
def Q8(c:Ex):Ex:=λE=>bnd (c E) λE x=>match x.2 with
 |.int j=>if xV j/\j.toNat<=big then some (.ok E (.rt,.lst (jQ 0 j)))else none
 |_=>none
abbrev Fn:=List Sd->Option (Res Sd)
noncomputable def fn(n:Nat)(b:Sm):Fn:=λxs=>match b (xs.map some++List.replicate (n - xs.length) none)with
 |some (.rt E x)=>some (.ok E x)
 |some (.nx E)=>some (.ok E (.dp,.non))
 |some (.xc E c)=>some (.exc E c)
 |_=>none
def letAll(xs:List Sd):List Sd:=xs.map λx=>(.no,x.2)
def jK(f:Fn)(cs:List Ex):Ex:=λE=>bnd (qJ cs E) λE xs=>match f (letAll xs)with
 |some (.ok _ y)=>some (.ok E y)
 |some (.exc _ c)=>some (.exc E c)
 |none=>none
end Q
namespace Q
open PySem PySem.Spec PyProof.Rows L2 L3
mutual
def Kk:D->Int
 |.int i=>hashInt i
 |.tup xs=>reduceHash (Builtin.Tuple.tupleHashOf (hashDs xs))
 |_=>4238894112
def hashDs:List D->List Int
 |[]=>[]
 |a::x=>Kk a::hashDs x
end
def Kd:Type:={ d:D // jX 6 d=true }
instance:DecidableEq Kd:=λa b=>Classical.propDecidable (a=b)
abbrev Ent:=Kd×Addr×Value
def qx(a:Addr)(es:List Ent)(ep:Nat):HO:=.ext λh=>∃o ds,h.get? a=some o/\o.ExactDict/\o.data=.dict ds ep/\ds.toList=es.map λx=>(⟨Kk x.1.1,.ref x.2.1,x.2.2⟩:DictEntry)
mutual
def PuR(K:PySem.W.Frag)(H:Hp):D->V->Prop
 |.non,v=>v=.non
 |.int i,v=>v=.int i
 |.tup ds,v=>∃a xs,v=.ref a/\SqT K H a xs/\PuRs K H ds xs
 |_,_=>False
def PuRs(K:PySem.W.Frag)(H:Hp):List D->List V->Prop
 |[],xs=>xs=[]
 |d::ds,xs=>∃x r,xs=x::r/\PuR K H d x/\PuRs K H ds r
end
def DcN(K:PySem.W.Frag)(H:Hp)(a:Addr)(ks:List D)(vs:List V):Prop:=∃(es:List Ent) (ep:Nat),H a=some (qx a es ep)/\(a==sysModules)=false/\es.length<=sizeLine/\(es.map (·.1)).Nodup/\ks=es.map (·.1.1)/\(∀x∈es,PuR K H x.1.1 (.ref x.2.1))/\Vals vs (es.map (·.2.2))
def DcI(H:Hp)(a:Addr)(ks:List D)(vs:List V):Prop:=∃(kv:List (Int×V)) (m:Str),H a=some (.dK (kv.map λp=>(Sum.inl p.1,p.2)))/\ks=.str m::kv.map (λp=>D.int p.1)/\vs=.non::kv.map (·.2)
def DcA(K:PySem.W.Frag)(H:Hp)(a:Addr)(ks:List D)(vs:List V):Prop:=DcN K H a ks vs\/DcI H a ks vs
theorem DcA.un{K:PySem.W.Frag}{H:Hp}{a:Addr}{kvs:List (D×D)}{vs:List V}(h:DcA K H a (kvs.map (·.1)) vs)(hu:unm kvs=true):DcN K H a (kvs.map (·.1)) vs:=by
 rcases h with h|⟨kv,m,_,h,_⟩
 ·exact h
 ·cases kvs with
  |nil=>cases h
  |cons p r=>
   obtain⟨k,d⟩:=p;rw[List.map_cons]at h;injection h with h1 _;have h1:k=.str m:=h1;subst h1;cases hu
def ww5(K:PySem.W.Frag)(a:Addr)(xs:List V):Prop:=∃(a9:Array Value) (n:Nat),K.lookup a=some { cls:=.type "list",data:=.seq a9 n }/\a9.size<=sizeLine/\Vals xs a9.toList
def wkf(K:PySem.W.Frag)(H:Hp)(a:Addr)(xs:List V):Prop:=(∃o,H a=some (.frz o (.lst xs)))\/ww5 K a xs
def LsR(K:PySem.W.Frag)(H:Hp)(a:Addr)(xs:List V):Prop:=Rd H a (.lst xs)\/ww5 K a xs
theorem LsR.of{K:PySem.W.Frag}{H:Hp}{a:Addr}{xs:List V}(h:wkf K H a xs):LsR K H a xs:=h.imp .inr id
theorem LsR.sq{K:PySem.W.Frag}{H:Hp}{a:Addr}{xs:List V}(h:LsR K H a xs):SqL K H a xs:=by
 rcases h with h|⟨a9,n,h1,h2,h3⟩
 ·exact .inl h
 ·exact .inr ⟨_,a9,n,h1,rfl,rfl,rfl,h2,h3⟩
theorem LsR.is{X:Cx}{pins:List (Addr×Obj)}{σ:L2.St}{H:Hp}{s:Shared}{a:Addr}{xs:List V}(I:L2.Inv X pins σ H s)(h:LsR X.K H a xs):xs.length<=sizeLine/\∃(a9:List Value) (n:Nat),Vals xs a9/\s.heap.get? a=some { cls:=.type "list",data:=.seq a9.toArray n }:=by
 rcases h with h|⟨a9,n,h1,h2,h3⟩
 ·obtain⟨z,a9,n,r,e⟩:=h.ok I.hok;exact⟨z,a9,n,r,e⟩
 ·have hl:=h3.length;simp only[Y6]at hl;exact⟨by omega,a9.toList,n,h3,by simpa using I.kIn a _ h1⟩
def ExD(K:PySem.W.Frag)(H:Hp)(c:Str)(v:V):Prop:=∃x o C,v=.ref x/\H x=some (.frz o (.ext λ_=>True))/\ExAt K x o C/\PySem.W.nsIn K mainGlobals c=some (some (.ref C))
mutual
def RepL(K:PySem.W.Frag)(H:Hp)(g:Bool):D->V->List Addr->Prop
 |.non,v,as=>v=.non/\as=[]
 |.bl b,v,as=>v=.bl b/\as=[]
 |.int i,v,as=>v=.int i/\as=[]
 |.str z,v,as=>v=.str z/\as=[]/\z.length<=sizeLine
 |.tup ds,v,as=>∃a xs,v=.ref a/\SqT K H a xs/\RepA K H g ds xs as
 |.lst ds,v,as=>∃a xs bs,v=.ref a/\RepA K H g ds xs bs/\((H a=some (.lst xs)/\as=a::bs)\/(g=true/\wkf K H a xs/\as=bs))
 |.dct kvs,v,as=>∃a xs bs,v=.ref a/\RepP K H g kvs xs bs/\DcA K H a (kvs.map (·.1)) xs/\as=a::bs
 |.obj c _,v,as=>as=[]/\ExD K H c v
def RepA(K:PySem.W.Frag)(H:Hp)(g:Bool):List D->List V->List Addr->Prop
 |[],xs,as=>xs=[]/\as=[]
 |d::ds,xs,as=>∃x r bs cs,xs=x::r/\as=bs++cs/\RepL K H g d x bs/\RepA K H g ds r cs
def RepP(K:PySem.W.Frag)(H:Hp)(g:Bool):List (D×D)->List V->List Addr->Prop
 |[],xs,as=>xs=[]/\as=[]
 |(_,d)::ds,xs,as=>∃x r bs cs,xs=x::r/\as=bs++cs/\RepL K H g d x bs/\RepP K H g ds r cs
end
def RepR(K:PySem.W.Frag)(H:Hp):D->V->List Addr->Prop
 |.lst ds,v,as=>∃a xs bs,v=.ref a/\RepA K H true ds xs bs/\H a=some (.lst xs)/\as=a::bs
 |.dct kvs,v,as=>∃a xs bs,v=.ref a/\RepP K H true kvs xs bs/\DcA K H a (kvs.map (·.1)) xs/\as=a::bs
 |_,_,_=>False
def RepO(K:PySem.W.Frag)(H:Hp):Own->D->V->List Addr->Prop
 |.no=>RepL K H true
 |.rt=>RepR K H
 |.dp=>RepL K H false
section
variable {K:PySem.W.Frag}{H H':Hp}
def Kp(H H':Hp)(as:List Addr):Prop:=(∀a xs,H a=some (.tup xs)->H' a=some (.tup xs))/\(∀a o u,H a=some (.frz o u)->H' a=some (.frz o u))/\∀a∈as,∀ob,H a=some ob->H' a=some ob
theorem Kp.left{as bs:List Addr}(k:Kp H H' (as++bs)):Kp H H' as:=⟨k.1,k.2.1,λa ha=>k.2.2 a (ll9 _ ha)⟩
theorem Kp.right{as bs:List Addr}(k:Kp H H' (as++bs)):Kp H H' bs:=⟨k.1,k.2.1,λa ha=>k.2.2 a (lr9 _ ha)⟩
theorem Kp.tail{a:Addr}{bs:List Addr}(k:Kp H H' (a::bs)):Kp H H' bs:=⟨k.1,k.2.1,λb hb=>k.2.2 b (lc9 _ hb)⟩
theorem Kp.tupT{as:List Addr}{a:Addr}{xs:List V}(k:Kp H H' as)(h:SqT K H a xs):SqT K H' a xs:=by
 rcases h with(h|⟨o,h⟩)|h
 ·exact .inl (.inl (k.1 a xs h))
 ·exact .inl (.inr ⟨o,k.2.1 a o _ h⟩)
 ·exact .inr h
theorem Kp.frzL{as:List Addr}{a:Addr}{xs:List V}(k:Kp H H' as)(h:wkf K H a xs):wkf K H' a xs:=by
 rcases h with⟨o,h⟩|h
 ·exact .inl ⟨o,k.2.1 a o _ h⟩
 ·exact .inr h
mutual
theorem PuR.kp{as:List Addr}(k:Kp H H' as):∀{d:D} {v:V},PuR K H d v->PuR K H' d v
 |.non,_,h=>by unfold PuR at h ⊢;exact h
 |.int _,_,h=>by unfold PuR at h ⊢;exact h
 |.tup ds,_,h=>by
  unfold PuR at h ⊢;obtain⟨a,xs,e,s,r⟩:=h;exact⟨a,xs,e,k.tupT s,PuRs.kp k r⟩
 |.bl _,_,h=>by unfold PuR at h;exact h.elim
 |.str _,_,h=>by unfold PuR at h;exact h.elim
 |.lst _,_,h=>by unfold PuR at h;exact h.elim
 |.dct _,_,h=>by unfold PuR at h;exact h.elim
 |.obj _ _,_,h=>by unfold PuR at h;exact h.elim
theorem PuRs.kp{as:List Addr}(k:Kp H H' as):∀{ds:List D} {xs:List V},PuRs K H ds xs->PuRs K H' ds xs
 |[],_,h=>by unfold PuRs at h ⊢;exact h
 |d::ds,_,h=>by
  unfold PuRs at h ⊢;obtain⟨x,r,e,h1,h2⟩:=h;exact⟨x,r,e,PuR.kp k h1,PuRs.kp k h2⟩
end
theorem Kp.dcn{a:Addr}{bs:List Addr}{ks:List D}{vs:List V}(k:Kp H H' (a::bs))(h:DcN K H a ks vs):DcN K H' a ks vs:=by
 obtain⟨es,ep,e,h1,h2,h3,h4,h5,h6⟩:=h;exact⟨es,ep,k.2.2 a X2 _ e,h1,h2,h3,h4,λx hx=>PuR.kp k (h5 x hx),h6⟩
theorem Kp.dca{a:Addr}{bs:List Addr}{ks:List D}{vs:List V}(k:Kp H H' (a::bs))(h:DcA K H a ks vs):DcA K H' a ks vs:=by
 rcases h with h|⟨kv,m,e,h⟩
 ·exact .inl (k.dcn h)
 ·exact .inr ⟨kv,m,k.2.2 a X2 _ e,h⟩
theorem Kp.of_same{as:List Addr}(s:k8 H H'):Kp H H' as:=⟨λa xs h=>s a _ h,λa o u h=>s a _ h,λa _ ob h=>s a ob h⟩
mutual
theorem RepL.kp{g:Bool}:∀{d:D} {v:V} {as:List Addr},RepL K H g d v as->Kp H H' as->RepL K H' g d v as
 | .non,_,_,h,_=>by unfold RepL at h ⊢;exact h
 | .bl _,_,_,h,_=>by unfold RepL at h ⊢;exact h
 | .int _,_,_,h,_=>by unfold RepL at h ⊢;exact h
 | .str _,_,_,h,_=>by unfold RepL at h ⊢;exact h
 | .tup ds,_,_,h,k=>by
  unfold RepL at h ⊢;obtain⟨a,xs,e,s,r⟩:=h;exact⟨a,xs,e,k.tupT s,RepA.kp r k⟩
 | .lst ds,_,_,h,k=>by
  unfold RepL at h ⊢;obtain⟨a,xs,bs,e,r,q⟩:=h;refine⟨a,xs,bs,e,?_,?_⟩
  ·rcases q with⟨_,rfl⟩|⟨_,_,rfl⟩
   ·exact RepA.kp r k.tail
   ·exact RepA.kp r k
  ·rcases q with⟨h1,rfl⟩|⟨hg,h1,rfl⟩
   ·exact .inl ⟨k.2.2 a X2 _ h1,rfl⟩
   ·exact .inr ⟨hg,k.frzL h1,rfl⟩
 |.dct kvs,_,_,h,k=>by
  unfold RepL at h ⊢;obtain⟨a,xs,bs,e,r,q,rfl⟩:=h;exact⟨a,xs,bs,e,RepP.kp r k.tail,k.dca q,rfl⟩
 |.obj _ _,_,_,h,k=>by
  unfold RepL at h ⊢;obtain⟨e,x,o,C,h1,h2,h3⟩:=h;exact⟨e,x,o,C,h1,k.2.1 _ _ _ h2,h3⟩
theorem RepA.kp{g:Bool}:∀{ds:List D} {xs:List V} {as:List Addr},RepA K H g ds xs as->Kp H H' as->RepA K H' g ds xs as
 |[],_,_,h,_=>by unfold RepA at h ⊢;exact h
 |d::ds,_,_,h,k=>by
  unfold RepA at h ⊢;obtain⟨x,r,bs,cs,e1,rfl,h1,h2⟩:=h;exact⟨x,r,bs,cs,e1,rfl,RepL.kp h1 k.left,RepA.kp h2 k.right⟩
theorem RepP.kp{g : Bool}: ∀{ds : List (D × D)} {xs : List V} {as : List Addr}, RepP K H g ds xs as -> Kp H H' as -> RepP K H' g ds xs as
  | [], _, _, h, _=>by unfold RepP at h ⊢; exact h
  | (q, d)::ds, _, _, h, k=>by
    unfold RepP at h ⊢;obtain⟨x, r, bs, cs, e1, rfl, h1, h2⟩:= h;exact⟨x, r, bs, cs, e1, rfl, RepL.kp h1 k.left, RepP.kp h2 k.right⟩
end
mutual
theorem RepL.wk:∀{d:D} {v:V} {as:List Addr},RepL K H false d v as->RepL K H true d v as
 |.non,_,_,h=>by unfold RepL at h ⊢;exact h
 |.bl _,_,_,h=>by unfold RepL at h ⊢;exact h
 |.int _,_,_,h=>by unfold RepL at h ⊢;exact h
 |.str _,_,_,h=>by unfold RepL at h ⊢;exact h
 |.tup ds,_,_,h=>by
  unfold RepL at h ⊢;obtain⟨a,xs,e,s,r⟩:=h;exact⟨a,xs,e,s,RepA.wk r⟩
 |.lst ds,_,_,h=>by
  unfold RepL at h ⊢;obtain⟨a,xs,bs,e,r,q⟩:=h;refine⟨a,xs,bs,e,RepA.wk r,?_⟩;rcases q with q|⟨z,_⟩
  ·exact .inl q
  ·cases z
 |.dct kvs,_,_,h=>by
  unfold RepL at h ⊢;obtain⟨a,xs,bs,e,r,q,z⟩:=h;exact⟨a,xs,bs,e,RepP.wk r,q,z⟩
 |.obj _ _,_,_,h=>by unfold RepL at h ⊢;exact h
theorem RepA.wk:∀{ds:List D} {xs:List V} {as:List Addr},RepA K H false ds xs as->RepA K H true ds xs as
 |[],_,_,h=>by unfold RepA at h ⊢;exact h
 |d::ds,_,_,h=>by
  unfold RepA at h ⊢;obtain⟨x,r,bs,cs,e1,e2,h1,h2⟩:=h;exact⟨x,r,bs,cs,e1,e2,RepL.wk h1,RepA.wk h2⟩
theorem RepP.wk : ∀{ds : List (D × D)} {xs : List V} {as : List Addr}, RepP K H false ds xs as -> RepP K H true ds xs as
  | [], _, _, h=>by unfold RepP at h ⊢; exact h
  | (q, d)::ds, _, _, h=>by
    unfold RepP at h ⊢;obtain⟨x, r, bs, cs, e1, e2, h1, h2⟩:= h;exact⟨x, r, bs, cs, e1, e2, RepL.wk h1, RepP.wk h2⟩
end
mutual
theorem RepL.al{g:Bool}:∀{d:D} {v:V} {as:List Addr},RepL K H g d v as->∀a∈as,(∃xs,H a=some (.lst xs))\/(∃ φ,H a=some (.ext φ))\/∃kvs,H a=some (.dK kvs)
 | .non,_,_,h=>by unfold RepL at h;rw[h.2];exact λ_ z=>nomatch z
 | .bl _,_,_,h=>by unfold RepL at h;rw[h.2];exact λ_ z=>nomatch z
 | .int _,_,_,h=>by unfold RepL at h;rw[h.2];exact λ_ z=>nomatch z
 | .str _,_,_,h=>by unfold RepL at h;rw[h.2.1];exact λ_ z=>nomatch z
 | .tup ds,_,_,h=>by
  unfold RepL at h;obtain⟨a,xs,e,s,r⟩:=h;exact RepA.al r
 | .lst ds,_,_,h=>by
  unfold RepL at h;obtain⟨a,xs,bs,e,r,q⟩:=h;rcases q with⟨h1,rfl⟩|⟨_,_,rfl⟩
  ·intro b hb;rcases List.mem_cons.mp hb with rfl|hb
   ·exact .inl ⟨_,h1⟩
   ·exact RepA.al r b hb
  ·exact RepA.al r
 | .dct kvs,_,_,h=>by
  unfold RepL at h;obtain⟨a,xs,bs,e,r,q,rfl⟩:=h;intro b hb;rcases List.mem_cons.mp hb with rfl|hb
  ·rcases q with⟨es,ep,q,_⟩|⟨kv,m,q,_⟩
   ·exact .inr (.inl ⟨_,q⟩)
   ·exact .inr (.inr ⟨_,q⟩)
  ·exact RepP.al r b hb
 |.obj _ _,_,_,h=>by unfold RepL at h;rw[h.1];exact λ_ z=>nomatch z
theorem RepA.al{g:Bool}:∀{ds:List D} {xs:List V} {as:List Addr},RepA K H g ds xs as->∀a∈as,(∃xs,H a=some (.lst xs))\/(∃ φ,H a=some (.ext φ))\/∃kvs,H a=some (.dK kvs)
 |[],_,_,h=>by unfold RepA at h;rw[h.2];exact λ_ z=>nomatch z
 |d::ds,_,_,h=>by
  unfold RepA at h;obtain⟨x,r,bs,cs,e1,rfl,h1,h2⟩:=h;intro a ha;rcases List.mem_append.mp ha with ha|ha
  ·exact RepL.al h1 a ha
  ·exact RepA.al h2 a ha
theorem RepP.al{g : Bool}: ∀{ds : List (D × D)} {xs : List V} {as : List Addr}, RepP K H g ds xs as -> ∀a ∈ as, (∃xs, H a = some (.lst xs)) \/ (∃ φ, H a = some (.ext φ)) \/ ∃kvs, H a = some (.dK kvs)
  | [], _, _, h=>by unfold RepP at h; rw[h.2]; exact λ_ z=>nomatch z
  | (_, d)::ds, _, _, h=>by
    unfold RepP at h;obtain⟨x, r, bs, cs, e1, rfl, h1, h2⟩:= h;intro a ha;rcases List.mem_append.mp ha with ha|ha
    · exact RepL.al h1 a ha
    · exact RepP.al h2 a ha
end
mutual
theorem RepL.pu{g g':Bool}:∀{d:D} {v:V} {as:List Addr},RepL K H g d v as->d.pure=true->as=[]/\RepL K H g' d v []
 |.non,_,_,h,_=>by unfold RepL at h ⊢;exact⟨h.2,h.1,rfl⟩
 |.bl _,_,_,h,_=>by unfold RepL at h ⊢;exact⟨h.2,h.1,rfl⟩
 |.int _,_,_,h,_=>by unfold RepL at h ⊢;exact⟨h.2,h.1,rfl⟩
 |.str _,_,_,h,_=>by unfold RepL at h ⊢;exact⟨h.2.1,h.1,rfl,h.2.2⟩
 |.tup ds,_,_,h,p=>by
  unfold RepL at h ⊢;obtain⟨a,xs,e,s,r⟩:=h;obtain⟨z,r'⟩:=RepA.pu (g':=g') r (by unfold D.pure at p;exact p);exact⟨z,a,xs,e,s,r'⟩
 |.lst ds,_,_,h,p=>by unfold D.pure at p;cases p
 |.dct ds,_,_,h,p=>by unfold D.pure at p;cases p
 |.obj _ _,_,_,h,p=>by unfold D.pure at p;cases p
theorem RepA.pu{g g':Bool}:∀{ds:List D} {xs:List V} {as:List Addr},RepA K H g ds xs as->D.pures ds=true->as=[]/\RepA K H g' ds xs []
 |[],_,_,h,_=>by unfold RepA at h ⊢;exact⟨h.2,h.1,rfl⟩
 |d::ds,_,_,h,p=>by
  unfold RepA at h ⊢;unfold D.pures at p;rw[Bool.and_eq_true]at p;obtain⟨x,r,bs,cs,e1,rfl,h1,h2⟩:=h;obtain⟨rfl,q1⟩:=RepL.pu (g':=g') h1 p.1;obtain⟨rfl,q2⟩:=RepA.pu (g':=g') h2 p.2;exact⟨rfl,x,r,[],[],e1,rfl,q1,q2⟩
end
theorem RepR.wk:∀{d:D} {v:V} {as:List Addr},RepR K H d v as->RepL K H true d v as
 |.lst ds,_,_,h=>by
  obtain⟨a,xs,bs,e,r,q,z⟩:=h;unfold RepL;exact⟨a,xs,bs,e,r,.inl ⟨q,z⟩⟩
 |.dct kvs,_,_,h=>by
  obtain⟨a,xs,bs,e,r,q,z⟩:=h;unfold RepL;exact⟨a,xs,bs,e,r,q,z⟩
theorem RepR.kp:∀{d:D} {v:V} {as:List Addr},RepR K H d v as->Kp H H' as->RepR K H' d v as
 |.lst ds,_,_,h,k=>by
  obtain⟨a,xs,bs,e,r,q,rfl⟩:=h;exact⟨a,xs,bs,e,r.kp k.tail,k.2.2 a X2 _ q,rfl⟩
 |.dct kvs,_,_,h,k=>by
  obtain⟨a,xs,bs,e,r,q,rfl⟩:=h;exact⟨a,xs,bs,e,r.kp k.tail,k.dca q,rfl⟩
theorem RepO.wk:∀{o:Own} {d:D} {v:V} {as:List Addr},RepO K H o d v as->RepL K H true d v as
 |.no,_,_,_,h=>h
 |.rt,_,_,_,h=>RepR.wk h
 |.dp,_,_,_,h=>RepL.wk h
theorem RepO.kp:∀{o:Own} {d:D} {v:V} {as:List Addr},RepO K H o d v as->Kp H H' as->RepO K H' o d v as
 |.no,_,_,_,h,k=>RepL.kp h k
 |.rt,_,_,_,h,k=>RepR.kp h k
 |.dp,_,_,_,h,k=>RepL.kp h k
end
structure Sl where
 o:Own
 d:D
 v:V
 as:List Addr
def Sl.own(x:Sl):List Addr:=match x.o with
 |.no=>[]
 |.rt=>x.as.take 1
 |.dp=>x.as
def Sl.frz(x:Sl):List Addr:=match x.o with
 |.no=>x.as
 |.rt=>x.as.drop 1
 |.dp=>[]
theorem Sl.parts(x:Sl):x.own++x.frz=x.as:=by
 unfold Sl.own Sl.frz;cases x.o with
 |no=>rfl
 |rt=>exact List.take_append_drop 1 x.as
 |dp=>exact Xp _
theorem Sl.own_as{x:Sl}{a:Addr}(h:a∈x.own):a∈x.as:=by rw[<-x.parts];exact ll9 _ h
theorem Sl.frz_as{x:Sl}{a:Addr}(h:a∈x.frz):a∈x.as:=by rw[<-x.parts];exact lr9 _ h
theorem Sl.as_of{x:Sl}{a:Addr}(h:a∈x.as):a∈x.own\/a∈x.frz:=by rw[<-x.parts]at h;exact List.mem_append.mp h
def Sl.let(x:Sl):Sl:={ x with o:=.no }
abbrev Ls:=List (Option Sl)
def j7(L:Ls):List Addr:=L.flatMap λx=>x.elim [] Sl.own
def jV(L:Ls):List Addr:=L.flatMap λx=>x.elim [] Sl.frz
@[simp] theorem vzl:j7 []=[]:=rfl
@[simp] theorem vws:jV []=[]:=rfl
@[simp] theorem jJ (x:Sl)(L:Ls):j7 (some x::L)=x.own++j7 L:=by simp[j7]
@[simp] theorem qw (x:Sl)(L:Ls):jV (some x::L)=x.frz++jV L:=by simp[jV]
@[simp] theorem qke (L:Ls):j7 (none::L)=j7 L:=by simp[j7]
@[simp] theorem kz6 (L:Ls):jV (none::L)=jV L:=by simp[jV]
@[simp] theorem jW (L T:Ls):j7 (L++T)=j7 L++j7 T:=by simp[j7]
@[simp] theorem qv (L T:Ls):jV (L++T)=jV L++jV T:=by simp[jV]
theorem mem_owned{L:Ls}{a:Addr}:a∈j7 L↔∃x,some x∈L/\a∈x.own:=by
 unfold j7;rw[List.mem_flatMap];constructor
 ·rintro ⟨y,hy,h⟩;cases y with
  |none=>exact nomatch h
  |some x=>exact⟨x,hy,h⟩
 ·rintro ⟨x,hx,h⟩;exact⟨some x,hx,h⟩
theorem mem_frozen{L:Ls}{a:Addr}:a∈jV L↔∃x,some x∈L/\a∈x.frz:=by
 unfold jV;rw[List.mem_flatMap];constructor
 ·rintro ⟨y,hy,h⟩;cases y with
  |none=>exact nomatch h
  |some x=>exact⟨x,hy,h⟩
 ·rintro ⟨x,hx,h⟩;exact⟨some x,hx,h⟩
def Sl.ok(K:PySem.W.Frag)(H:Hp)(x:Sl):Prop:=RepO K H x.o x.d x.v x.as
theorem Sl.ok.al{K:PySem.W.Frag}{H:Hp}{x:Sl}(h:x.ok K H):∀a∈x.as,(∃xs,H a=some (.lst xs))\/(∃ φ,H a=some (.ext φ))\/∃kvs,H a=some (.dK kvs):=(RepO.wk h).al
theorem Sl.ok.some{K:PySem.W.Frag}{H:Hp}{x:Sl}(h:x.ok K H){a:Addr}(ha:a∈x.as):H a≠none:=λz=>by
 rcases h.al a ha with⟨xs,e⟩|⟨xs,e⟩|⟨xs,e⟩<;>(rw[z]at e;cases e)
structure World (K:PySem.W.Frag)(H:Hp)(L:Ls):Prop where
 ok:∀x,some x∈L->x.ok K H
 nd:(j7 L).Nodup
 ds:∀a∈j7 L,a∉jV L
structure Step (H:Hp)(L:Ls)(H':Hp)(L':Ls):Prop where
 keep:∀a ob,H a=some ob->a∉j7 L->H' a=some ob
 own:∀a∈j7 L',a∈j7 L\/H a=none
 frz:∀a∈jV L',a∈jV L\/a∈j7 L\/H a=none
section
variable {K:PySem.W.Frag}{H H1 H2 H':Hp}{L L1 L2' L' T:Ls}{x y:Sl}
theorem World.own_al(w:World K H L){a:Addr}(h:a∈j7 L):(∃xs,H a=some (.lst xs))\/(∃ φ,H a=some (.ext φ))\/∃kvs,H a=some (.dK kvs):=by
 obtain⟨x,hx,ha⟩:=mem_owned.mp h;exact(w.ok x hx).al a (Sl.own_as ha)
theorem World.own_some(w:World K H L){a:Addr}(h:a∈j7 L):H a≠none:=by
 obtain⟨x,hx,ha⟩:=mem_owned.mp h;exact(w.ok x hx).some (Sl.own_as ha)
theorem World.frz_some(w:World K H L){a:Addr}(h:a∈jV L):H a≠none:=by
 obtain⟨x,hx,ha⟩:=mem_frozen.mp h;exact(w.ok x hx).some (Sl.frz_as ha)
theorem Step.refl:Step H L H L:=⟨λ_ _ h _=>h,λ_ h=>.inl h,λ_ h=>.inl h⟩
theorem Step.trans(a:Step H L H1 L1)(b:Step H1 L1 H2 L2'):Step H L H2 L2' where
 keep:=λc ob h hn=>b.keep c ob (a.keep c ob h hn) λz=>(a.own c z).elim hn λe=>by rw[h]at e;cases e
 own:=λc hc=>by
  rcases b.own c hc with z|z
  ·exact a.own c z
  ·by_cases h:c∈j7 L
   ·exact .inl h
   ·refine .inr ?_;cases e:H c with
    |none=>rfl
    |some ob=>rw[a.keep c ob e h]at z;cases z
 frz:=λc hc=>by
  rcases b.frz c hc with z|z|z
  ·exact a.frz c z
  ·exact .inr (a.own c z)
  ·by_cases h:c∈j7 L
   ·exact .inr (.inl h)
   ·refine .inr (.inr ?_);cases e:H c with
    |none=>rfl
    |some ob=>rw[a.keep c ob e h]at z;cases z
theorem Step.kp(a:Step H L H' L')(w:World K H L){as:List Addr}(h:∀b∈as,b∉j7 L):Kp H H' as:=by
 have no:∀b ob,H b=some ob->(∀xs,ob≠.lst xs)->(∀ φ,ob≠.ext φ)->(∀kvs,ob≠.dK kvs)->H' b=some ob:=λb ob e h1 h2 h3=>a.keep b ob e λz=>by
  rcases w.own_al z with⟨xs,q⟩|⟨es,q⟩|⟨es,q⟩
  ·rw[e]at q;cases q;exact h1 _ rfl
  ·rw[e]at q;cases q;exact h2 _ rfl
  ·rw[e]at q;cases q;exact h3 _ rfl
 exact⟨λb xs e=>no b _ e (λ_ z=>(nomatch z)) (λ_ z=>(nomatch z)) (λ_ z=>(nomatch z)),λb o u e=>no b _ e (λ_ z=>(nomatch z)) (λ_ z=>(nomatch z)) (λ_ z=>(nomatch z)),λb hb ob e=>a.keep b ob e (h b hb)⟩
theorem Step.frame(a:Step H L H' L')(w:World K H (L++T))(w':World K H' L')(wL:World K H L):World K H' (L'++T):=by
 have nd:=w.nd;rw [jW,X6]at nd;have dis:∀b∈j7 L,b∉j7 T:=λb hb hT=>nd.2.2 b hb b hT rfl
 have iy:∀x,some x∈T->x.ok K H:=λx hx=>w.ok x (lr9 _ hx)
 have nT:∀x,some x∈T->∀b∈x.as,b∉j7 L:=λx hx b hb hL=>by
  rcases Sl.as_of hb with z|z
  ·exact dis b hL (mem_owned.mpr ⟨x,hx,z⟩)
  ·refine w.ds b (by rw[jW];exact ll9 _ hL) ?_;rw[qv];exact lr9 _ (mem_frozen.mpr ⟨x,hx,z⟩)
 refine⟨λx hx=>?_,?_,λb hb=>?_⟩
 ·rcases List.mem_append.mp hx with hx|hx
  ·exact w'.ok x hx
  ·exact(iy x hx).kp (a.kp wL (nT x hx))
 ·rw[jW,X6];refine⟨w'.nd,nd.2.1,λb hb c hc e=>?_⟩;subst e;obtain⟨x,hx,fj⟩:=mem_owned.mp hc;rcases a.own b hb with z|z
  ·exact dis b z hc
  ·exact(iy x hx).some (Sl.own_as fj) z
 ·rw[jW]at hb;rw[qv];intro hf;rcases List.mem_append.mp hb with hb|hb
  ·rcases List.mem_append.mp hf with hf|hf
   ·exact w'.ds b hb hf
   ·obtain⟨x,hx,fj⟩:=mem_frozen.mp hf;rcases a.own b hb with z|z
    ·exact nT x hx b (Sl.frz_as fj) z
    ·exact(iy x hx).some (Sl.frz_as fj) z
  ·rcases List.mem_append.mp hf with hf|hf
   ·obtain⟨x,hx,fj⟩:=mem_owned.mp hb;rcases a.frz b hf with z|z|z
    ·exact w.ds b (by rw[jW];exact lr9 _ hb) (by rw[qv];exact ll9 _ z)
    ·exact dis b z hb
    ·exact(iy x hx).some (Sl.own_as fj) z
   ·exact w.ds b (by rw[jW];exact lr9 _ hb) (by rw[qv];exact lr9 _ hf)
theorem World.left(w:World K H (L++T)):World K H L:=by
 have nd:=w.nd;rw[jW,X6]at nd;exact⟨λx hx=>w.ok x (ll9 _ hx),nd.1,λa ha hf=>w.ds a (by rw[jW];exact ll9 _ ha) (by rw[qv];exact ll9 _ hf)⟩
theorem World.right(w:World K H (L++T)):World K H T:=by
 have nd:=w.nd;rw[jW,X6]at nd;exact⟨λx hx=>w.ok x (lr9 _ hx),nd.2.1,λa ha hf=>w.ds a (by rw[jW];exact lr9 _ ha) (by rw[qv];exact lr9 _ hf)⟩
theorem World.comm(w:World K H (L++T)):World K H (T++L):=by
 refine⟨λx hx=>w.ok x ?_,?_,λa ha hf=>w.ds a ?_ ?_⟩
 ·rcases List.mem_append.mp hx with h|h
  ·exact lr9 _ h
  ·exact ll9 _ h
 ·have nd:=w.nd;rw[jW,X6]at nd ⊢;exact⟨nd.2.1,nd.1,λa ha b hb e=>nd.2.2 b hb a ha e.symm⟩
 ·rw[jW]at ha ⊢;rcases List.mem_append.mp ha with h|h
  ·exact lr9 _ h
  ·exact ll9 _ h
 ·rw[qv]at hf ⊢;rcases List.mem_append.mp hf with h|h
  ·exact lr9 _ h
  ·exact ll9 _ h
theorem World.tail{q:Option Sl}(w:World K H (q::L)):World K H L:=World.right (L:=[q]) w
theorem World.head(w:World K H (some x::L)):x.ok K H:=w.ok x X2
theorem World.apart(w:World K H (some x::L)):∀a∈x.as,a∉j7 L:=λa ha hL=>by
 rcases Sl.as_of ha with z|z
 ·have nd:=w.nd;rw[jJ,X6]at nd;exact nd.2.2 a z a hL rfl
 ·exact w.ds a (by rw[jJ];exact lr9 _ hL) (by rw[qw];exact ll9 _ z)
theorem World.cons(w:World K H L)(h:x.ok K H)(n:x.own.Nodup)(h1:∀a∈x.own,a∉j7 L)(h2:∀a∈x.own,a∉jV L)(h3:∀a∈x.frz,a∉j7 L)(h4:∀a∈x.own,a∉x.frz):World K H (some x::L):=by
 refine⟨λy hy=>?_,?_,λa ha hf=>?_⟩
 ·rcases List.mem_cons.mp hy with z|z
  ·cases z;exact h
  ·exact w.ok y z
 ·rw[jJ,X6];exact⟨n,w.nd,λa ha b hb e=>by subst e;exact h1 a ha hb⟩
 ·rw[jJ]at ha;rw[qw]at hf;rcases List.mem_append.mp ha with ha|ha
  ·rcases List.mem_append.mp hf with hf|hf
   ·exact h4 a ha hf
   ·exact h2 a ha hf
  ·rcases List.mem_append.mp hf with hf|hf
   ·exact h3 a hf ha
   ·exact w.ds a ha hf
theorem World.consNo(w:World K H L)(h:x.ok K H)(ho:x.o=.no)(h3:∀a∈x.as,a∉j7 L):World K H (some x::L):=by
 have e1:x.own=[]:=by unfold Sl.own;rw[ho]
 have e2:x.frz=x.as:=by unfold Sl.frz;rw[ho]
 exact w.cons h (by rw[e1];exact Xr) (by rw[e1];exact λ_ z=>nomatch z) (by rw[e1];exact λ_ z=>nomatch z) (by rw[e2];exact h3) (by rw[e1];exact λ_ z=>nomatch z)
theorem World.consPu(w:World K H L)(h:x.ok K H)(e:x.as=[]):World K H (some x::L):=by
 have e1:∀a,a∉x.own:=λa ha=>by have:=Sl.own_as ha;rw[e]at this;exact nomatch this
 have e2:∀a,a∉x.frz:=λa ha=>by have:=Sl.frz_as ha;rw[e]at this;exact nomatch this
 have e3:x.own=[]:=List.eq_nil_iff_forall_not_mem.mpr e1;exact w.cons h (by rw[e3];exact Xr) (λa z=>absurd z (e1 a)) (λa z=>absurd z (e1 a)) (λa z=>absurd z (e2 a)) (λa z=>absurd z (e1 a))
theorem jqv{L:Ls}{i:Nat}{q:Option Sl}(h:some y∈L.set i q):q=some y\/some y∈L:=by
 rcases List.mem_or_eq_of_mem_set h with z|z
 ·exact .inr z
 ·exact .inl z.symm
theorem WX{i:Nat}{a:Addr}(h:a∈j7 (L.set i (some x))):a∈x.own\/a∈j7 L:=by
 obtain⟨y,hy,ha⟩:=mem_owned.mp h;rcases jqv hy with z|z
 ·cases z;exact .inl ha
 ·exact .inr (mem_owned.mpr ⟨y,z,ha⟩)
theorem ZK{i:Nat}{a:Addr}(h:a∈jV (L.set i (some x))):a∈x.frz\/a∈jV L:=by
 obtain⟨y,hy,ha⟩:=mem_frozen.mp h;rcases jqv hy with z|z
 ·cases z;exact .inl ha
 ·exact .inr (mem_frozen.mpr ⟨y,z,ha⟩)
theorem jqn:∀{L:Ls} {i:Nat},(x.own++j7 L).Nodup->(j7 (L.set i (some x))).Nodup
 |[],_,h=>by simp
 |q::L,0,h=>by
  rw[List.set_cons_zero,jJ];have e:j7 (q::L)=q.elim [] Sl.own++j7 L:=by simp[j7]
  rw[e,X6]at h;obtain⟨h1,h2,h3⟩:=h;rw[X6]at h2 ⊢;exact⟨h1,h2.2.1,λa ha b hb=>h3 a ha b (lr9 _ hb)⟩
 |q::L,i+1,h=>by
  rw[List.set_cons_succ];have e:∀M:Ls,j7 (q::M)=q.elim [] Sl.own++j7 M:=λM=>by simp[j7]
  rw[e]at h ⊢;rw[X6]at h;obtain⟨h1,h2,h3⟩:=h;rw[X6]at h2;rw[X6];refine⟨h2.1,jqn (by rw[X6];exact⟨h1,h2.2.1,λa ha b hb=>h3 a ha b (lr9 _ hb)⟩),λa ha b hb e=>?_⟩;subst e;rcases WX hb with z|z
  ·exact h3 a z a (ll9 _ ha) rfl
  ·exact h2.2.2 a ha a z rfl
theorem World.set{i:Nat}(w:World K H (some x::L)):World K H (L.set i (some x)):=by
 refine⟨λy hy=>?_,jqn (by have:=w.nd;rwa [jJ]at this),λa ha hf=>?_⟩
 ·rcases jqv hy with z|z
  ·cases z;exact w.head
  ·exact w.ok y (lc9 _ z)
 ·refine w.ds a ?_ ?_
  ·rw[jJ];exact List.mem_append.mpr (WX ha)
  ·rw[qw];exact List.mem_append.mpr (ZK hf)
theorem Step.set{i:Nat}:Step H (some x::L) H (L.set i (some x)) where
 keep:=λ_ _ h _=>h
 own:=λa ha=>.inl (by rw[jJ];exact List.mem_append.mpr (WX ha))
 frz:=λa ha=>.inl (by rw[qw];exact List.mem_append.mpr (ZK ha))
theorem Step.drop{q:Option Sl}:Step H (q::L) H L where
 keep:=λ_ _ h _=>h
 own:=λa ha=>.inl (by rw[show(q::L:Ls)=[q]++L from rfl,jW];exact lr9 _ ha)
 frz:=λa ha=>.inl (by rw[show(q::L:Ls)=[q]++L from rfl,qv];exact lr9 _ ha)
theorem wZ{i:Nat}(h:L[i]?=some (some x)):some x∈L:=Xh h
theorem W8(x:Sl):x.let.own=[]/\x.let.frz=x.as/\x.let.as=x.as:=⟨rfl,rfl,rfl⟩
theorem kw4{i:Nat}{a:Addr}(h:a∈j7 (L.set i (some x.let))):a∈j7 L:=by
 rcases WX h with z|z
 ·exact nomatch z
 ·exact z
theorem kxy:∀{L:Ls} {i:Nat},(j7 L).Nodup->(∀a∈j7 L,a∉jV L)->L[i]?=some (some x)->∀a∈x.as,a∉j7 (L.set i (some x.let))
 | [],_,_,_,h,_,_=>by simp at h
 | q::L,0,nd,ds,h,a,ha=>by
  have e:q=some x:=by simpa using h
  subst e;rw[List.set_cons_zero,jJ];intro hm;have hm:a∈j7 L:=by simpa [W8]using hm
  rcases Sl.as_of ha with z|z
  ·rw[jJ,X6]at nd;exact nd.2.2 a z a hm rfl
  ·exact ds a (by rw[jJ];exact lr9 _ hm) (by rw[qw];exact ll9 _ z)
 | q::L,i+1,nd,ds,h,a,ha=>by
  have h:L[i]?=some (some x):=by simpa using h
  rw[List.set_cons_succ];have e:∀M:Ls,j7 (q::M)=q.elim [] Sl.own++j7 M:=λM=>by simp[j7]
  have f:jV (q::L)=q.elim [] Sl.frz++jV L:=by simp[jV]
  rw[e];intro hm;rw[e,X6]at nd;rcases List.mem_append.mp hm with hm|hm
  ·rcases Sl.as_of ha with z|z
   ·exact nd.2.2 a hm a (mem_owned.mpr ⟨x,wZ h,z⟩) rfl
   ·exact ds a (by rw[e];exact ll9 _ hm) (by rw[f];exact lr9 _ (mem_frozen.mpr ⟨x,wZ h,z⟩))
  ·exact kxy (L:=L) nd.2.1 (λb hb hf=>ds b (by rw[e];exact lr9 _ hb) (by rw[f];exact lr9 _ hf)) h a ha hm
theorem KJ(h:x.ok K H):x.let.ok K H:=RepO.wk h
theorem World.let{i:Nat}(w:World K H L)(h:L[i]?=some (some x)):World K H (L.set i (some x.let)):=by
 have out:=kxy w.nd w.ds h;refine⟨λy hy=>?_,jqn (by rw[(W8 x).1];exact w.nd),λa ha hf=>?_⟩
 ·rcases jqv hy with z|z
  ·cases z;exact KJ (w.ok x (wZ h))
  ·exact w.ok y z
 ·rcases ZK hf with z|z
  ·exact out a z ha
  ·exact w.ds a (kw4 ha) z
theorem World.read{i:Nat}(w:World K H L)(h:L[i]?=some (some x)):World K H (some x.let::L.set i (some x.let)):=
 (w.let h).consNo (KJ (w.ok x (wZ h))) rfl (kxy (x:=x) w.nd w.ds h)
theorem Step.read{i:Nat}(h:L[i]?=some (some x)):Step H L H (some x.let::L.set i (some x.let)) where
 keep:=λ_ _ h _=>h
 own:=λa ha=>.inl (by rw[jJ,(W8 x).1]at ha;exact kw4 ha)
 frz:=λa ha=>by
  have hx:=wZ h;have q:∀a∈x.as,a∈jV L\/a∈j7 L\/H a=none:=λa ha=>by
   rcases Sl.as_of ha with z|z
   ·exact .inr (.inl (mem_owned.mpr ⟨x,hx,z⟩))
   ·exact .inl (mem_frozen.mpr ⟨x,hx,z⟩)
  rw[qw]at ha;rcases List.mem_append.mp ha with z|z
  ·exact q a z
  ·rcases ZK z with z|z
   ·exact q a z
   ·exact .inl z
end
inductive Mt:En->L2.St->Ls->Prop
 |nil:Mt [] [] []
 |un {E:En} {σ:L2.St} {L:Ls} {y:Option V}:Mt E σ L->Mt (none::E) (y :: σ) (none::L)
 |cons {E:En} {σ:L2.St} {L:Ls} {x:Sl}:Mt E σ L->Mt (some (x.o,x.d)::E) (some x.v :: σ) (some x::L)
theorem Mt.get:∀{E:En} {σ:L2.St} {L:Ls} {i:Nat} {o:Own} {d:D},Mt E σ L->E[i]?=some (some (o,d))->∃x,L[i]?=some (some x)/\x.o=o/\x.d=d/\σ[i]?=some (some x.v)
 |_,_,_,_,_,_,.nil,h=>by simp at h
 |_,_,_,0,_,_,.un _,h=>by simp at h
 |_,_,_,i+1,_,_,.un m,h=>by simpa using m.get (i:=i) (by simpa using h)
 |_,_,_,0,_,_,.cons (x:=x) m,h=>by
  simp only[List.getElem?_cons_zero,Option.some.injEq,Prod.mk.injEq]at h;exact⟨x,by simp,h.1,h.2,by simp⟩
 |_,_,_,i+1,_,_,.cons m,h=>by simpa using m.get (i:=i) (by simpa using h)
theorem Mt.set{x:Sl}:∀{E:En} {σ:L2.St} {L:Ls} (i:Nat),Mt E σ L->Mt (E.set i (some (x.o,x.d))) (σ.set i (some x.v)) (L.set i (some x))
 |_,_,_,_,.nil=>.nil
 |_,_,_,0,.un m=>.cons m
 |_,_,_,i+1,.un m=>.un (m.set i)
 |_,_,_,0,.cons m=>.cons m
 |_,_,_,i+1,.cons m=>.cons (m.set i)
theorem Mt.let{x:Sl}:∀{E:En} {σ:L2.St} {L:Ls} {i:Nat},Mt E σ L->L[i]?=some (some x)->Mt (E.set i (some (.no,x.d))) σ (L.set i (some x.let))
 |_,_,_,_,.nil,h=>by simp at h
 |_,_,_,0,.un m,h=>by simp at h
 |_,_,_,i+1,.un m,h=>.un (m.let (i:=i) (by simpa using h))
 |_,_,_,0,.cons (x:=y) m,h=>by
  have e:y=x:=by simpa using h
  subst e;exact .cons (x:=y.let) m
 |_,_,_,i+1,.cons m,h=>.cons (m.let (i:=i) (by simpa using h))
theorem Mt.len:∀{E:En} {σ:L2.St} {L:Ls},Mt E σ L->E.length=σ.length/\L.length=σ.length
 |_,_,_,.nil=>⟨rfl,rfl⟩
 |_,_,_,.un m=>by simp[m.len]
 |_,_,_,.cons m=>by simp[m.len]
def sls(L:Ls):List Sl:=L.filterMap id
theorem K8(L:Ls):j7 L=(sls L).flatMap Sl.own:=by
 induction L with
 |nil=>rfl
 |cons q L ih=>
  cases q with
  |none=>rw[qke,ih];rfl
  |some x=>rw[jJ,ih];rfl
theorem Qk(L:Ls):jV L=(sls L).flatMap Sl.frz:=by
 induction L with
 |nil=>rfl
 |cons q L ih=>
  cases q with
  |none=>rw[kz6,ih];rfl
  |some x=>rw[qw,ih];rfl
theorem mem_sls{L:Ls}{x:Sl}:x∈sls L↔some x∈L:=by simp[sls]
@[simp] theorem QK (L T:Ls):sls (L++T)=sls L++sls T:=by simp[sls]
@[simp] theorem qxx (L:Ls):sls (none::L)=sls L:=rfl
@[simp] theorem kzv (x:Sl)(L:Ls):sls (some x::L)=x::sls L:=rfl
@[simp] theorem wkn:sls []=[]:=rfl
@[simp] theorem wko (T:List Sl):sls (T.map some)=T:=by simp[sls]
@[simp] theorem vq0 (k:Nat):sls (List.replicate k none)=[]:=by
 induction k with
 |zero=>rfl
 |succ k ih=>rw[List.replicate_succ,qxx,ih]
theorem jqk{α β:Type}(f:α->List β){l l':List α}(h:l.Sublist l'):(l.flatMap f).Sublist (l'.flatMap f):=by
 induction h with
 |slnil=>exact List.Sublist.refl _
 |cons a _ ih=>rw[Ys];exact List.Sublist.trans ih (List.sublist_append_right _ _)
 |cons_cons a _ ih=>rw[Ys,Ys];exact List.Sublist.append (List.Sublist.refl _) ih
section
variable {K:PySem.W.Frag}{H H':Hp}{L L' M M':Ls}
theorem World.same(w:World K H L)(p:(sls L).Perm (sls L')):World K H L':=by
 have po:(j7 L).Perm (j7 L'):=by rw[K8,K8];exact p.flatMap_right _
 have pf:(jV L).Perm (jV L'):=by rw[Qk,Qk];exact p.flatMap_right _
 exact⟨λx hx=>w.ok x (mem_sls.mp (p.mem_iff.mpr (mem_sls.mpr hx))),po.nodup_iff.mp w.nd,λa ha hf=>w.ds a (po.mem_iff.mpr ha) (pf.mem_iff.mpr hf)⟩
theorem Step.same(s:Step H L H' L')(p:(sls L).Perm (sls M))(p':(sls L').Perm (sls M')):Step H M H' M':=by
 have po:(j7 L).Perm (j7 M):=by rw[K8,K8];exact p.flatMap_right _
 have pf:(jV L).Perm (jV M):=by rw[Qk,Qk];exact p.flatMap_right _
 have po':(j7 L').Perm (j7 M'):=by rw[K8,K8];exact p'.flatMap_right _
 have pf':(jV L').Perm (jV M'):=by rw[Qk,Qk];exact p'.flatMap_right _
 exact⟨λa ob h hn=>s.keep a ob h λz=>hn (po.mem_iff.mp z),λa ha=>(s.own a (po'.mem_iff.mpr ha)).imp (λz=>po.mem_iff.mp z) id,
  λa ha=>(s.frz a (pf'.mem_iff.mpr ha)).imp (λz=>pf.mem_iff.mp z) λz=>z.imp (λz=>po.mem_iff.mp z) id⟩
theorem World.sub(w:World K H L)(p:(sls L').Sublist (sls L)):World K H L':=by
 refine⟨λx hx=>w.ok x (mem_sls.mp (p.subset (mem_sls.mpr hx))),?_,λa ha hf=>w.ds a ?_ ?_⟩
 ·have:=w.nd;rw[K8]at this ⊢;exact(jqk _ p).nodup this
 ·rw[K8]at ha ⊢;exact(jqk _ p).subset ha
 ·rw[Qk]at hf ⊢;exact(jqk _ p).subset hf
theorem Step.sub(s:Step H L H' L')(p:(sls M).Sublist (sls L')):Step H L H' M:=by
 refine⟨s.keep,λa ha=>s.own a ?_,λa ha=>s.frz a ?_⟩
 ·rw[K8]at ha ⊢;exact(jqk _ p).subset ha
 ·rw[Qk]at ha ⊢;exact(jqk _ p).subset ha
end
theorem jx2:∀{L:Ls} {j:Nat},(sls (at' L j::L.set j none)).Perm (sls L)
 | [],j=>by simp[at',sls]
 | q::L,0=>by
  cases q with
  |none=>simp[at',sls]
  |some x=>simp[at',sls]
 | q::L,j+1=>by
  have ih:=jx2 (L:=L) (j:=j);have e:at' (q::L) (j+1)=at' L j:=by simp[at']
  rw[e,List.set_cons_succ];have e2:∀(a b:Option Sl) (M:Ls),(sls (a::b::M)).Perm (sls (b::a::M)):=λa b M=>by
   cases a<;>cases b<;>simp[sls]
   exact List.Perm.swap ..
  refine(e2 _ _ _).trans ?_;cases q with
  |none=>simpa [sls]using ih
  |some y=>simpa [sls]using ih
theorem qjs:∀{R:List Nat} {L:Ls},R.Nodup->(sls (R.map (at' L)++clr R L)).Perm (sls L)
 | [],L,_=>by simp[clr]
 | j::R,L,h=>by
  rw[List.nodup_cons]at h;have e:R.map (at' L)=R.map (at' (L.set j none)):=by
   apply List.map_congr_left;intro i hi;have:j≠i:=λe=>h.1 (e▸hi)
   unfold at';rw[Xs this]
  rw[List.map_cons,List.cons_append,clr,e];have ih:=qjs (R:=R) (L:=L.set j none) h.2;refine List.Perm.trans ?_ (jx2 (L:=L) (j:=j));cases hq:at' L j with
  |none=>simpa [sls]using ih
  |some x=>simpa [sls]using ih
theorem qwv{α:Type}:∀{R:List Nat} {L:List (Option α)},(clr R L).length=L.length
 |[],_=>rfl
 |j::R,L=>by rw[clr,qwv,Xz]
theorem qww{α:Type}:∀{R:List Nat} {L:List (Option α)} {j:Nat},j∈R->at' (clr R L) j=none
 | [],_,_,h=>by cases h
 | i :: R,L,j,h=>by
  rw [clr]
  by_cases hR:j∈R
  ·exact qww hR
  ·have e:j=i:=by simpa [hR]using h
   subst e;have gen:∀{R:List Nat} {M:List (Option α)},j∉R->at' (clr R M) j=at' M j:=by
    intro R
    induction R with
    |nil=>intro M _;rfl
    |cons r R ih=>
     intro M h;rw[Xw,not_or]at h;rw[clr,ih h.2];unfold at';rw[Xs (Ne.symm h.1)]
   rw[gen hR];unfold at'
   by_cases hl:j<L.length
   ·rw[Y1 hl];rfl
   ·rw[List.set_eq_of_length_le (by omega),List.getElem?_eq_none (by omega)];rfl
theorem kx6:∀{R:List Nat} {B L:Ls},R.Nodup->(∀j∈R,at' L j=none)->(∀j∈R,j<L.length)->B.length=R.length->(sls (back R B L)).Perm (sls (B++L))
 | [],B,L,_,_,_,hl=>by
  have:B=[]:=by simpa using hl
  subst this;simp [back]
 | j :: R,[],L,_,_,_,hl=>by simp at hl
 | j :: R,q::B,L,hn,hz,hr,hl=>by
  rw [List.nodup_cons]at hn;rw [back];have hj:=hr j X2;have ih:=kx6 (R:=R) (B:=B) (L:=L.set j q) hn.2 (λi hi=>by
   have:j≠i:=λe=>hn.1 (e▸hi)
   unfold at';rw [Xs this];exact hz i (lc9 _ hi)) (λi hi=>by rw[Xz];exact hr i (lc9 _ hi)) (by simpa using hl)
  refine ih.trans ?_;have sp:∀{M:Ls} {i:Nat},at' M i=none->i<M.length->(sls (M.set i q)).Perm (sls (q::M)):=by
   intro M
   induction M with
   | nil=>intro i _ h;simp at h
   | cons r M ihM=>
    intro i h1 h2;cases i with
    | zero=>
     have:r=none:=by simpa [at']using h1
     subst this;cases q<;>simp[sls]
    | succ i=>
     have:=ihM (i:=i) (by simpa [at']using h1) (by simpa using h2);rw[List.set_cons_succ];cases r with
     | none=>cases q<;>simpa [sls]using this
     | some y=>
      cases q with
      |none=>simpa [sls]using this
      |some x=>
       simp only[kzv]at this ⊢;exact(this.cons y).trans (List.Perm.swap ..)
  rw[QK,List.cons_append];have h1:=sp (hz j X2) hj;have h2:(sls B++sls (L.set j q)).Perm (sls B++sls (q::L)):=h1.append_left _;refine h2.trans ?_;cases q with
  |none=>simp
  |some x=>
   simp only[kzv,QK];exact List.perm_middle
section
variable {K:PySem.W.Frag}{H H1 H2 H':Hp}{L L1 L' T:Ls}{x y:Sl}
theorem XW(p:L.Perm L'):(j7 L).Perm (j7 L'):=p.flatMap_right _
theorem jwu(p:L.Perm L'):(jV L).Perm (jV L'):=p.flatMap_right _
theorem World.perm(w:World K H L)(p:L.Perm L'):World K H L':=
 ⟨λx hx=>w.ok x (p.mem_iff.mpr hx),(XW p).nodup_iff.mp w.nd,λa ha hf=>w.ds a ((XW p).mem_iff.mpr ha) ((jwu p).mem_iff.mpr hf)⟩
theorem Step.perm(s : Step H L H' L'){M M' : Ls}(p : L.Perm M)(p' : L'.Perm M'): Step H M H' M':=
  ⟨λa ob h hn=>s.keep a ob h λz=>hn ((XW p).mem_iff.mp z),
   λa ha=>(s.own a ((XW p').mem_iff.mpr ha)).imp (λz=>(XW p).mem_iff.mp z) id,
   λa ha=>(s.frz a ((jwu p').mem_iff.mpr ha)).imp (λz=>(jwu p).mem_iff.mp z) λz=>z.imp (λz=>(XW p).mem_iff.mp z) id⟩
theorem Step.frm(s:Step H L H' L'):Step H (L++T) H' (L'++T) where
 keep:=λa ob h hn=>s.keep a ob h λz=>hn (by rw[jW];exact ll9 _ z)
 own:=λa ha=>by
  rw[jW]at ha ⊢;rcases List.mem_append.mp ha with z|z
  ·exact(s.own a z).imp (ll9 _) id
  ·exact .inl (lr9 _ z)
 frz:=λa ha=>by
  rw[qv]at ha ⊢;rw[jW];rcases List.mem_append.mp ha with z|z
  ·exact(s.frz a z).imp (ll9 _) λz=>z.imp (ll9 _) id
  ·exact .inl (lr9 _ z)
theorem Z5(w:World K H (T++L))(s:Step H L H' L')(w':World K H' L'):World K H' (T++L')/\Step H (T++L) H' (T++L'):=by
 have w1:World K H (L++T):=w.comm;exact⟨(s.frame w1 w' w1.left).comm,s.frm.perm List.perm_append_comm List.perm_append_comm⟩
end
theorem ex8{α β γ:Type}{P:Prop}{a b c d e:α->β->γ->Prop}(h:∃x y z,a x y z/\b x y z/\c x y z/\d x y z/\e x y z)(f:∀x y z,a x y z->b x y z->c x y z->d x y z->e x y z->P):P:=
 h.elim λx h=>h.elim λy h=>h.elim λz h=>f x y z h.1 h.2.1 h.2.2.1 h.2.2.2.1 h.2.2.2.2
theorem ex7{α β γ:Type}{P:Prop}{a b c d:α->β->γ->Prop}(h:∃x y z,a x y z/\b x y z/\c x y z/\d x y z)(f:∀x y z,a x y z->b x y z->c x y z->d x y z->P):P:=
 h.elim λx h=>h.elim λy h=>h.elim λz h=>f x y z h.1 h.2.1 h.2.2.1 h.2.2.2
theorem qX{X:Cx}{e:Expr}{t t':TE}(h:PE X e t)(w:∀ σ H Q,t' σ H Q->t σ H Q):PE X e t':=λpins s σ H Q I q=>h pins s σ H Q I (w σ H Q q)
theorem qqy{X:Cx}{e:Expr}{t t':TT}(h:PT X e t)(w:∀ σ H Q,t' σ H Q->t σ H Q):PT X e t':=λpins s σ H Q I q=>h pins s σ H Q I (w σ H Q q)
theorem xk{X:Cx}{e:Stmt}{t t':TS}(h:PS X e t)(w:∀D σ H,t' D σ H->t D σ H):PS X e t':=λpins s σ H D I q=>h pins s σ H D I (w D σ H q)
theorem qqz{X:Cx}{e:List Stmt}{t t':TS}(h:PSs X e t)(w:∀D σ H,t' D σ H->t D σ H):PSs X e t':=λpins s σ H D I q=>h pins s σ H D I (w D σ H q)
structure Fx0 where
 K:PySem.W.Frag
 mg:Str->Option Value
 EX:XK
def Xc{α:Type}(Z:Fx0)(σ:L2.St)(H:Hp)(L:Ls)(r:Res α):Prop:=∀E' c,r=.exc E' c->∀C L' H',Z.mg c=some (.ref C)->Mt E' σ L'->World Z.K H' L'->Step H L H' L'->Z.EX (.ref C) none H'
theorem Xc.step{α:Type}{Z:Fx0}{σ:L2.St}{H H1:Hp}{L L1:Ls}{r:Res α}(x:Xc Z σ H L r)(s:Step H L H1 L1):Xc Z σ H1 L1 r:=λE' c e C L' H' hm m w s'=>x E' c e C L' H' hm m w (s.trans s')
theorem Xc.map{α β:Type}{Z:Fx0}{σ:L2.St}{H:Hp}{L:Ls}{r:Res α}{E':En}{c:Str}(x:Xc Z σ H L r)(e:r=.exc E' c):Xc Z σ H L (.exc E' c:Res β):=λE1 c1 e1=>by
 injection e1 with h1 h2;subst h1 h2;exact x _ _ e
def tQ(Z:Fx0)(q:Bool)(c:Ex):TE:=fun σ H Q=>∃E L r,Mt E σ L/\World Z.K H L/\c E=some r/\Xc Z σ H L r /\
 ∀E' a,r=.ok E' a->∀(x:Sl) L' H',x.o=a.1->x.d=a.2->Mt E' σ L'->World Z.K H' (some x::L')->Step H L H' (some x::L')->(q=true->k8 H H'/\∀b∈x.own,H b=none)->Q x.v H'
def Src(H:Hp)(L:Ls)(as:List Addr):Prop:=∀b∈as,b∈jV L\/b∈j7 L\/H b=none
theorem Src.back{H H1:Hp}{L L1:Ls}{as:List Addr}(h:Src H1 L1 as)(s:Step H L H1 L1):Src H L as:=λb hb=>by
 rcases h b hb with z|z|z
 ·exact s.frz b z
 ·exact .inr (s.own b z)
 ·by_cases ho:b∈j7 L
  ·exact .inr (.inl ho)
  ·refine .inr (.inr ?_);cases e:H b with
   |none=>rfl
   |some ob=>rw[s.keep b ob e ho]at z;cases z
def tV(Z:Fx0)(q:Bool)(c:Ex):TE:=fun σ H Q=>∃E L r,Mt E σ L/\World Z.K H L/\c E=some r/\Xc Z σ H L r /\
 ∀E' a,r=.ok E' a->∀(x:Sl) L' H',x.o=a.1->x.d=a.2->Mt E' σ L'->World Z.K H' L'->x.ok Z.K H'->(∀b∈x.frz,b∉j7 L')->Src H L x.as->Step H L H' L'->(q=true->k8 H H')->Q x.v H'
def QE(X:Cx)(Z:Fx0)(q:Bool)(c:Ex)(e:Expr):Prop:=PE X e (tQ Z q c)
def QV(X:Cx)(Z:Fx0)(q:Bool)(c:Ex)(e:Expr):Prop:=PE X e (tV Z q c)
section
variable {X:Cx}{Z:Fx0}{q qa qb:Bool}{a b c:Ex}{e ea eb:Expr}{pos:Pos}{α:Type}{σ:L2.St}{H:Hp}{L:Ls}{E:En}
theorem wW{β:Type}{m:Option (Res α)}{F:En->α->Option (Res β)}{r:Res β}(h:bnd m F=some r):(∃E1 x,m=some (.ok E1 x)/\F E1 x=some r)\/∃E1 c,m=some (.exc E1 c)/\r=.exc E1 c:=by
 cases m with
 |none=>cases h
 |some q=>
  cases q with
  |ok E1 x=>exact .inl ⟨E1,x,rfl,h⟩
  |exc E1 c=>exact .inr ⟨E1,c,rfl,(oq9 h).symm⟩
theorem W6{F:En->Sd->Option (Res α)}{r:Res α}{G:VK}(m:Mt E σ L)(w:World Z.K H L)(h:bnd (a E) F=some r)(xc:Xc Z σ H L r)
  (k:∀E1 s,F E1 s=some r->∀(x:Sl) L1 H1,x.o=s.1->x.d=s.2->Mt E1 σ L1->World Z.K H1 (some x::L1)->Step H L H1 (some x::L1)->(q=true->k8 H H1/\∀b∈x.own,H b=none)->G x.v H1):tQ Z q a σ H G:=by
 rcases wW h with⟨E1,s,h1,h2⟩|⟨E1,c,h1,h2⟩
 ·exact⟨E,L,_,m,w,h1,(λ_ _ z=>by cases z),λE' s' z x L' H' e1 e2 m' w' st sm=>by
   injection z with z1 z2;subst z1 z2;exact k _ _ h2 x L' H' e1 e2 m' w' st sm⟩
 ·exact⟨E,L,_,m,w,h1,xc.map h2,λE' s' z=>by cases z⟩
theorem wV{F:En->Sd->Option (Res α)}{r:Res α}{G:VK}(m:Mt E σ L)(w:World Z.K H L)(h:bnd (a E) F=some r)(xc:Xc Z σ H L r)
  (k:∀E1 s,F E1 s=some r->∀(x:Sl) L1 H1,x.o=s.1->x.d=s.2->Mt E1 σ L1->World Z.K H1 L1->x.ok Z.K H1->(∀b∈x.frz,b∉j7 L1)->Src H L x.as->Step H L H1 L1->(q=true->k8 H H1)->G x.v H1):tV Z q a σ H G:=by
 rcases wW h with⟨E1,s,h1,h2⟩|⟨E1,c,h1,h2⟩
 ·exact⟨E,L,_,m,w,h1,(λ_ _ z=>by cases z),λE' s' z x L' H' e1 e2 m' w' ok fr sr st sm=>by
   injection z with z1 z2;subst z1 z2;exact k _ _ h2 x L' H' e1 e2 m' w' ok fr sr st sm⟩
 ·exact⟨E,L,_,m,w,h1,xc.map h2,λE' s' z=>by cases z⟩
theorem YQ{x:Sl}{K:PySem.W.Frag}{H1 H2:Hp}{L1 L2':Ls}(ok:x.ok K H1)(fr:∀b∈x.frz,b∉j7 L1)(st:Step H1 L1 H2 L2')(sm:k8 H1 H2):x.ok K H2/\∀b∈x.frz,b∉j7 L2':=
 ⟨RepO.kp ok (Kp.of_same sm),λb hb ho=>(st.own b ho).elim (fr b hb) λz=>ok.some (Sl.frz_as hb) z⟩
theorem K5{x:Option α}{r:Res α}(h:val E x=some r):∃y,x=some y/\r=.ok E y:=by
 cases x with
 |none=>cases h
 |some y=>exact⟨y,rfl,(oq9 h).symm⟩
theorem QE.weak(h:QE X Z true c e):QE X Z q c e:=qX h fun σ H Q af=>ex8 af λE L r m w hc xc k=>⟨E,L,r,m,w,hc,xc,λE' s z x L' H' e1 e2 m' w' st sm=>k E' s z x L' H' e1 e2 m' w' st λ_=>sm rfl⟩
theorem jzr{x:Sl}{H1:Hp}{L1:Ls}(st:Step H L H1 (some x::L1)):Src H L x.as:=λb hb=>by
 rcases Sl.as_of hb with z|z
 ·exact .inr (st.own b (by rw[jJ];exact ll9 _ z))
 ·exact st.frz b (by rw[qw];exact ll9 _ z)
theorem j8(h:QE X Z q c e):QV X Z q (vE c) e:=qX h fun σ H Q af=>ex8 af λE L r m w hc xc k=>
 W6 m w hc xc λE1 s h1 x L1 H1 e1 e2 m1 w1 st sm=>by
  cases oq9 h1;exact k _ _ rfl x.let L1 H1 rfl e2 m1 w1.tail (KJ w1.head) (λb hb=>w1.apart b hb) (jzr (x:=x) st) (st.trans Step.drop) λhq=>(sm hq).1
theorem J3{x:Sl}{H1:Hp}{L1:Ls}(st:Step H L H1 L1)(sr:Src H L x.as)(ho:x.own=[]):Step H L H1 (some x::L1) where
 keep:=st.keep
 own:=λb hb=>by rw[jJ,ho]at hb;exact st.own b hb
 frz:=λb hb=>by
  rw[qw]at hb;rcases List.mem_append.mp hb with z|z
  ·exact sr b (Sl.frz_as z)
  ·exact st.frz b z
theorem qvc{x:Sl}(h:x.o=.no):x.own=[]:=by unfold Sl.own;rw[h]
theorem kwl{x:Sl}(h:x.o=.no):x.frz=x.as:=by unfold Sl.frz;rw[h]
theorem vv3{x:Sl}(h:x.as=[]):x.own=[]:=List.eq_nil_iff_forall_not_mem.mpr λa ha=>by have:=Sl.own_as ha;rw[h]at this;exact nomatch this
theorem kz(h:QV X Z q c e):QE X Z q (cH c) e:=qX h fun σ H Q af=>ex8 af λE L r m w hc xc k=>
 wV m w hc xc λE1 s h1 x L1 H1 e1 e2 m1 w1 ok fr sr st sm=>by
  by_cases ho:s.1=.no
  ·rw[Xb ho]at h1;cases oq9 h1;have eo:x.o=.no:=e1.trans ho;exact k _ _ rfl x L1 H1 eo e2 m1 (w1.consNo ok eo λb hb=>fr b (by rw[kwl eo];exact hb)) (J3 st sr (qvc eo)) λhq=>⟨sm hq,by rw[qvc eo];exact λ_ z=>(nomatch z)⟩
  ·rw[Xe ho]at h1
   by_cases hp:s.2.pure=true
   ·rw[Xb hp]at h1;cases oq9 h1;obtain⟨z,rp⟩:=RepL.pu (g':=false) (RepO.wk ok) (by rw[e2];exact hp);exact k _ _ rfl ⟨.dp,x.d,x.v,[]⟩ L1 H1 rfl e2 m1 (w1.consPu rp rfl) (J3 (x:=⟨.dp,x.d,x.v,[]⟩) st (λb hb=>nomatch hb) rfl) λhq=>⟨sm hq,λ_ z=>(nomatch z)⟩
   ·rw[Xe hp]at h1;cases h1
theorem q_C{d:D}{v:V}(h:PE X e (tC v))(hr:∀H,RepL Z.K H false d v []):QE X Z true (cC d) e:=qX h fun σ H Q af=>ex8 af λE L r m w hc xc k=>by
 cases oq9 hc;exact k _ _ rfl ⟨.dp,d,v,[]⟩ L H rfl rfl m (w.consPu (hr H) rfl) (J3 (x:=⟨.dp,d,v,[]⟩) Step.refl (λb hb=>nomatch hb) rfl) λ_=>⟨λ_ _ z=>z,λ_ z=>(nomatch z)⟩
theorem q_V{i:Nat}(h:PE X e (J9 i)):QE X Z true (cV i) e:=qX h fun σ H Q af=>ex8 af λE L r m w hc xc k=>by
 unfold cV at hc
 split at hc
 ·rename_i o d hE;cases oq9 hc;obtain⟨x,h1,h2,h3,h4⟩:=m.get hE;refine⟨x.v,h4,k _ _ rfl x.let _ H rfl h3 ?_ (w.read h1) (Step.read h1) λ_=>⟨λ_ _ z=>z,λ_ z=>(nomatch z)⟩⟩;have:=m.let h1
  rwa [h3]at this
 ·cases hc
theorem Vk:∀{E:En} {σ:L2.St} {L:Ls} (j:Nat),Mt E σ L->Mt (E.set j none) σ (L.set j none):=by
 intro E σ L j m
 induction m generalizing j with
 |nil=>exact .nil
 |un m ih=>cases j with
  |zero=>exact .un m
  |succ j=>exact .un (ih j)
 |cons m ih=>cases j with
  |zero=>exact .un m
  |succ j=>exact .cons (ih j)
theorem Z2{x:Sl}:∀{L:Ls} {i:Nat},L[i]?=some (some x)->(none::L).Perm (some x::L.set i none)
 |[],_,h=>by simp at h
 |q::L,0,h=>by
  have e:q=some x:=by simpa using h
  subst e;exact List.Perm.swap ..
 |q::L,i+1,h=>by
  have:=Z2 (L:=L) (i:=i) (by simpa using h);rw[List.set_cons_succ];exact(List.Perm.swap ..).trans ((this.cons q).trans (List.Perm.swap ..))
theorem XJ{i:Nat}(h:PE X e (J9 i)):QE X Z false (cMv i) e:=qX h fun σ H Q af=>ex8 af λE L r m w hc xc k=>by
 unfold cMv at hc
 split at hc
 ·rename_i s hE;cases oq9 hc;obtain⟨o,d⟩:=s;obtain⟨x,h1,h2,h3,h4⟩:=m.get hE;have wn:World Z.K H (none::L):=⟨λy hy=>w.ok y (by simpa using hy),by simpa using w.nd,by simpa using w.ds⟩;have sn:Step H L H (none::L):=⟨λ_ _ z _=>z,λa z=>.inl (by simpa using z),λa z=>.inl (by simpa using z)⟩;exact⟨x.v,h4,k _ _ rfl x _ H h2 h3 (Vk i m) (wn.perm (Z2 h1)) (sn.trans (Step.refl.perm (List.Perm.refl _) (Z2 h1))) λz=>(nomatch z)⟩
 ·cases hc
theorem q_vV{i:Nat}(h:PE X e (J9 i)):QV X Z true (vV i) e:=qX h fun σ H Q af=>ex8 af λE L r m w hc xc k=>by
 unfold vV at hc
 split at hc
 ·rename_i s hE;cases oq9 hc;obtain⟨o,d⟩:=s;obtain⟨x,h1,h2,h3,h4⟩:=m.get hE;have hx:=wZ h1;refine⟨x.v,h4,k _ _ rfl x L H h2 h3 m w (w.ok x hx) (λb hb ho=>w.ds b ho (mem_frozen.mpr ⟨x,hx,hb⟩)) (λb hb=>?_) Step.refl λ_=>λ_ _ z=>z⟩;rcases Sl.as_of hb with z|z
  ·exact .inr (.inl (mem_owned.mpr ⟨x,hx,z⟩))
  ·exact .inl (mem_frozen.mpr ⟨x,hx,z⟩)
 ·cases hc
structure Out (K:PySem.W.Frag)(H H':Hp)(z:Sl)(fr:List Addr):Prop where
 same:k8 H H'
 ok:z.ok K H'
 new:∀b∈z.own,H b=none
 nd:z.own.Nodup
 fr:∀b∈z.frz,b∈fr
def Ad1(K:PySem.W.Frag)(r:V->Hp->VK->Prop)(f:Sd->Option Sd):Prop:=∀(H:Hp) (x:Sl) (s:Sd) (Q:VK),x.ok K H->f (x.o,x.d)=some s->(∀(z:Sl) H',z.o=s.1->z.d=s.2->Out K H H' z x.frz->Q z.v H')->r x.v H Q
def Ad2(K:PySem.W.Frag)(r:R2)(f:Sd->Sd->Option Sd):Prop:=∀(H:Hp) (x y:Sl) (s:Sd) (Q:VK),x.ok K H->y.ok K H->f (x.o,x.d) (y.o,y.d)=some s->(∀(z:Sl) H',z.o=s.1->z.d=s.2->Out K H H' z (x.frz++y.frz)->Q z.v H')->r x.v y.v H Q
theorem Zq{K:PySem.W.Frag}{H H':Hp}{d:D}{v:V}{fr:List Addr}(s:k8 H H')(r:RepL K H' false d v []):Out K H H' ⟨.dp,d,v,[]⟩ fr:=⟨s,r,λ_ h=>(nomatch h),Xr,λ_ h=>(nomatch h)⟩
theorem xJ{H:Hp}:k8 H H:=λ_ _ z=>z
theorem qK{H H1 H2:Hp}(a:k8 H H1)(b:k8 H1 H2):k8 H H2:=λc ob h=>b c ob (a c ob h)
theorem Q5{z:Sl}{fr:List Addr}{H1 H2:Hp}{L1:Ls}(w:World Z.K H1 L1)(st:Step H L H1 L1)(o:Out Z.K H1 H2 z fr)(ap:∀b∈fr,b∉j7 L1)(al:∀b∈fr,H1 b≠none)(sr:Src H L fr):
  World Z.K H2 (some z::L1)/\Step H L H2 (some z::L1):=by
 have w2:World Z.K H2 L1:=⟨λx hx=>RepO.kp (w.ok x hx) (Kp.of_same o.same),w.nd,w.ds⟩;refine⟨w2.cons o.ok o.nd (λb hb ho=>w.own_some ho (o.new b hb)) (λb hb hf=>w.frz_some hf (o.new b hb)) (λb hb=>ap b (o.fr b hb)) (λb hb hf=>al b (o.fr b hf) (o.new b hb)),?_⟩;refine⟨λb ob h hn=>o.same b ob (st.keep b ob h hn),λb hb=>?_,λb hb=>?_⟩
 ·rw[jJ]at hb;rcases List.mem_append.mp hb with z|z
  ·by_cases ho:b∈j7 L
   ·exact .inl ho
   ·refine .inr ?_;cases e:H b with
    |none=>rfl
    |some ob=>have:=o.new b z;rw[st.keep b ob e ho]at this;cases this
  ·exact st.own b z
 ·rw[qw]at hb;rcases List.mem_append.mp hb with z|z
  ·exact sr b (o.fr b z)
  ·exact st.frz b z
theorem jx1{as bs:List Addr}(h:Src H L as)(hb:∀b∈bs,b∈as):Src H L bs:=λb z=>h b (hb b z)
theorem vkz{as bs:List Addr}(h:Src H L as)(h':Src H L bs):Src H L (as++bs):=λb z=>(List.mem_append.mp z).elim (h b) (h' b)
theorem xX{H H1:Hp}{b:Addr}(s:k8 H H1)(h:H1 b=none):H b=none:=by
 cases e:H b with
 |none=>rfl
 |some ob=>rw[s b ob e]at h;cases h
theorem kvj{r:V->Hp->VK->Prop}{f:Sd->Option Sd}(ad:Ad1 Z.K r f){Q:VK}(h:tQ Z q (cF1 f a) σ H Q):tUn r (tV Z q a) σ H Q:=by
 obtain⟨E,L,R,m,w,hc,xc,k⟩:=h;refine wV m w hc xc λE1 s h1 x L1 H1 e1 e2 m1 w1 ok fr sr st sm=>?_
 obtain⟨z,hz,rfl⟩:=K5 h1;refine ad H1 x z Q ok (by rw[e1,e2];exact hz) λy H' ho hd o=>?_
 obtain⟨w3,cn⟩:=Q5 w1 st o fr (λb hb=>ok.some (Sl.frz_as hb)) (jx1 sr λb hb=>Sl.frz_as hb);exact k _ _ rfl y L1 H' ho hd m1 w3 cn λhq=>⟨qK (sm hq) o.same,λb hb=>xX (sm hq) (o.new b hb)⟩
theorem kvi{r:R2}{f:Sd->Sd->Option Sd}(ad:Ad2 Z.K r f){Q:VK}(h:tQ Z qa (cF2 f a b) σ H Q):tOp r (tV Z qa a) (tV Z true b) σ H Q:=by
 obtain⟨E,L,R,m,w,hc,xc,k⟩:=h;refine wV m w hc xc λE1 s h1 x L1 H1 e1 e2 m1 w1 ok fr sr st sm=>?_
 refine wV m1 w1 h1 (xc.step st) λE2 s2 h2 y L2 H2 e3 e4 m2 w2 ig fr2 sr2 bg em=>?_
 obtain⟨z,hz,rfl⟩:=K5 h2;have kx:=YQ ok fr bg (em rfl);refine ad H2 x y z Q kx.1 ig (by rw[e1,e2,e3,e4];exact hz) λy' H' ho hd o=>?_
 obtain⟨w3,cn⟩:=Q5 w2 (st.trans bg) o (λb hb=>(List.mem_append.mp hb).elim (kx.2 b) (fr2 b)) (λb hb=>(List.mem_append.mp hb).elim (λz=>kx.1.some (Sl.frz_as z)) λz=>ig.some (Sl.frz_as z))
  (vkz (jx1 sr λb hb=>Sl.frz_as hb) (jx1 (sr2.back st) λb hb=>Sl.frz_as hb))
 exact k _ _ rfl y' L2 H' ho hd m2 w3 cn λhq=>⟨qK (sm hq) (qK (em rfl) o.same),λb hb=>xX (qK (sm hq) (em rfl)) (o.new b hb)⟩
theorem Wj{op:Operator}{r:R2}{f:Sd->Sd->Option Sd}(ho:OpR X (binaryOp op) r)(ad:Ad2 Z.K r f)(ha:QV X Z qa a ea)(hb:QV X Z true b eb):QE X Z qa (cF2 f a b) (.BinOp ea op eb pos):=
 qX (wq7 ho ha hb) fun σ H Q h=>kvi ad h
theorem xz{op:CmpOp}{r:R2}{f:Sd->Sd->Option Sd}(ho:OpR X (compareOp op) r)(ad:Ad2 Z.K r f)(ha:QV X Z qa a ea)(hb:QV X Z true b eb)(hm:behindInMarks op eb=false):QE X Z qa (cF2 f a b) (.Compare ea [op] [eb] pos):=
 qX (vqy ho ha hb hm) fun σ H Q h=>kvi ad h
theorem RepA.get{K:PySem.W.Frag}{H:Hp}{g:Bool}:∀{ds:List D} {xs:List V} {as:List Addr} {i:Nat} {d:D},RepA K H g ds xs as->ds[i]?=some d->∃v bs,xs[i]?=some v/\RepL K H g d v bs/\∀b∈bs,b∈as
 | [],_,_,_,_,_,e=>by simp at e
 | d::ds,_,_,i,d',h,e=>by
  unfold RepA at h;obtain⟨x,r,bs,cs,rfl,rfl,h1,h2⟩:=h;cases i with
  |zero=>
   have e:d=d':=by simpa using e
   subst e;exact⟨x,bs,by simp,h1,λb hb=>ll9 _ hb⟩
  |succ i=>
   obtain⟨v,ce,e1,e2,e3⟩:=RepA.get (i:=i) h2 (by simpa using e);exact⟨v,ce,by simpa using e1,e2,λb hb=>lr9 _ (e3 b hb)⟩
theorem RepA.len{K:PySem.W.Frag}{H:Hp}{g:Bool}:∀{ds:List D} {xs:List V} {as:List Addr},RepA K H g ds xs as->ds.length=xs.length
 |[],_,_,h=>by unfold RepA at h;rw[h.1];rfl
 |d::ds,_,_,h=>by
  unfold RepA at h;obtain⟨x,r,bs,cs,rfl,rfl,h1,h2⟩:=h;simp[RepA.len h2]
theorem items{K:PySem.W.Frag}{H:Hp}{x:Sl}{ds:List D}(ok:x.ok K H)(h:x.d=.lst ds\/x.d=.tup ds):∃a xs bs,x.v=.ref a/\((x.d=.lst ds/\LsR K H a xs)\/(x.d=.tup ds/\SqT K H a xs))/\RepA K H (x.o != .dp) ds xs bs/\(∀b∈bs,b∈x.as)/\(x.o≠.dp->∀b∈bs,b∈x.frz):=by
 obtain⟨o,d,v,as⟩:=x;dsimp only at h;rcases h with rfl|rfl
 ·cases o with
  |no=>
   have ok:RepL K H true (.lst ds) v as:=ok;unfold RepL at ok;obtain⟨a,xs,bs,rfl,r,q⟩:=ok;rcases q with⟨q,rfl⟩|⟨_,q,rfl⟩
   ·exact⟨a,xs,bs,rfl,.inl ⟨rfl,.inl (.inl q)⟩,r,λb hb=>lc9 _ hb,λ_ b hb=>lc9 _ hb⟩
   ·exact⟨a,xs,as,rfl,.inl ⟨rfl,.of q⟩,r,λb hb=>hb,λ_ b hb=>hb⟩
  |rt=>
   obtain⟨a,xs,bs,rfl,r,q,rfl⟩:=(show RepR K H (.lst ds) v as from ok);exact⟨a,xs,bs,rfl,.inl ⟨rfl,.inl (.inl q)⟩,r,λb hb=>lc9 _ hb,λ_ b hb=>by simpa [Sl.frz]using hb⟩
  |dp=>
   have ok:RepL K H false (.lst ds) v as:=ok;unfold RepL at ok;obtain⟨a,xs,bs,rfl,r,q⟩:=ok;rcases q with⟨q,rfl⟩|⟨z,_⟩
   ·exact⟨a,xs,bs,rfl,.inl ⟨rfl,.inl (.inl q)⟩,r,λb hb=>lc9 _ hb,λz=>absurd rfl z⟩
   ·cases z
 ·cases o with
  |no=>
   have ok:RepL K H true (.tup ds) v as:=ok;unfold RepL at ok;obtain⟨a,xs,rfl,q,r⟩:=ok;exact⟨a,xs,as,rfl,.inr ⟨rfl,q⟩,r,λb hb=>hb,λ_ b hb=>hb⟩
  |rt=>exact(show RepR K H (.tup ds) v as from ok).elim
  |dp=>
   have ok:RepL K H false (.tup ds) v as:=ok;unfold RepL at ok;obtain⟨a,xs,rfl,q,r⟩:=ok;exact⟨a,xs,as,rfl,.inr ⟨rfl,q⟩,r,λb hb=>hb,λz=>absurd rfl z⟩
theorem z9{K:PySem.W.Frag}{H:Hp}{x:Sl}{ds:List D}(ok:x.ok K H)(h:x.d=.lst ds\/x.d=.tup ds)(hl:qW (x.o,x.d)=true):∃a xs bs,x.v=.ref a/\((x.d=.lst ds/\LsR K H a xs)\/(x.d=.tup ds/\SqT K H a xs))/\RepA K H true ds xs bs/\(∀b∈bs,b∈x.frz):=by
 obtain⟨a,xs,bs,e,q,r,h1,h2⟩:=items ok h
 by_cases ho:x.o=.dp
 ·have hp:D.pures ds=true:=by
   unfold qW at hl;rw[show(x.o,x.d).1=Own.dp from ho]at hl;have:ww1 x.d=ds:=by rcases h with h|h<;>rw[h]<;>rfl
   simpa [this]using hl
  obtain⟨rfl,r'⟩:=RepA.pu (g':=true) r hp;exact⟨a,xs,[],e,q,r',λ_ z=>nomatch z⟩
 ·have:(x.o != Own.dp)=true:=by simpa using ho
  rw[this]at r;exact⟨a,xs,bs,e,q,r,h2 ho⟩
end
section
variable {K:PySem.W.Frag}{H:Hp}{x y:Sl}
theorem wv{i:Int}(ok:x.ok K H)(h:x.d=.int i):x.v=.int i:=by
 have:=RepO.wk ok;rw[h]at this;unfold RepL at this;exact this.1
theorem W0{i:Bool}(ok:x.ok K H)(h:x.d=.bl i):x.v=.bl i:=by
 have:=RepO.wk ok;rw[h]at this;unfold RepL at this;exact this.1
theorem vjz(ok:x.ok K H)(h:x.d=.non):x.v=.non:=by
 have:=RepO.wk ok;rw[h]at this;unfold RepL at this;exact this.1
theorem xx{z:Str}(ok:x.ok K H)(h:x.d=.str z):x.v=.str z/\z.length<=sizeLine:=by
 have:=RepO.wk ok;rw[h]at this;unfold RepL at this;exact⟨this.1,this.2.2⟩
theorem JQ{i:Int}{g:Bool}:RepL K H g (.int i) (.int i) []:=by unfold RepL;exact⟨rfl,rfl⟩
theorem YZ{i:Bool}{g:Bool}:RepL K H g (.bl i) (.bl i) []:=by unfold RepL;exact⟨rfl,rfl⟩
theorem kqo{g:Bool}:RepL K H g .non .non []:=by unfold RepL;exact⟨rfl,rfl⟩
theorem kj8{z:Str}{g:Bool}(h:z.length<=sizeLine):RepL K H g (.str z) (.str z) []:=by unfold RepL;exact⟨rfl,rfl,h⟩
theorem VZ{i:Int}{fr:List Addr}:Out K H H ⟨.dp,.int i,.int i,[]⟩ fr:=Zq xJ JQ
theorem xv{i:Bool}{fr:List Addr}:Out K H H ⟨.dp,.bl i,.bl i,[]⟩ fr:=Zq xJ YZ
theorem wqb{z:Str}{fr:List Addr}(h:z.length<=sizeLine):Out K H H ⟨.dp,.str z,.str z,[]⟩ fr:=Zq xJ (kj8 h)
theorem vwi{C:Int->Int->Prop}{g:Int->Int->Int}{f:Int->Int->Option Int}(h:∀i j k,f i j=some k->C i j/\k=g i j):Ad2 K (rI C λi j=>.int (g i j)) (pu2 (i2 f)):=by
 intro H x y s Q ox oy hf k;unfold pu2 i2 at hf;dsimp only at hf
 split at hf
 ·rename_i i j e1 e2;cases hk:f i j with
  |none=>rw[hk]at hf;cases hf
  |some n=>
   rw[hk]at hf;cases oq9 hf;obtain⟨hc,rfl⟩:=h i j n hk;exact⟨i,j,wv ox e1,wv oy e2,hc,k ⟨.dp,.int (g i j),.int (g i j),[]⟩ H rfl rfl VZ⟩
 ·cases hf
theorem K0{g:Int->Int->Bool}:Ad2 K (rI0 λi j=>.bl (g i j)) (pu2 (c2 g)):=by
 intro H x y s Q ox oy hf k;unfold pu2 c2 at hf;dsimp only at hf
 split at hf
 ·rename_i i j e1 e2;cases oq9 hf;exact⟨i,j,wv ox e1,wv oy e2,k ⟨.dp,.bl (g i j),.bl (g i j),[]⟩ H rfl rfl xv⟩
 ·cases hf
theorem vko:Ad2 K (rI wk2 λi j=>.int (i / j)) (pu2 z6):=vwi λi j k h=>by
 split at h
 ·rename_i c;exact⟨c,(oq9 h).symm⟩
 ·cases h
theorem wjx:Ad2 K (rI (λ_ j=>0<j) λi j=>.int (i % j)) (pu2 kW):=vwi λi j k h=>by
 split at h
 ·rename_i c;exact⟨c,(oq9 h).symm⟩
 ·cases h
theorem vkm:Ad2 K (rI ww6 λi j=>.int (i ^ j.toNat)) (pu2 WY):=vwi λi j k h=>by
 split at h
 ·rename_i c;exact⟨c,(oq9 h).symm⟩
 ·cases h
end
def vxq(K:PySem.W.Frag):R2:=λx y H Q=>∃l b xs zs,x=.ref l/\y=.ref b/\LsR K H l xs/\LsR K H b zs/\xs.length+zs.length<=sizeLine/\∀p,H p=none->Q (.ref p) (upd H p (.lst (xs++zs)))
theorem op_catL{X:Cx}:OpR X (binaryOp .Add) (vxq X.K):=by
 intro pins s σ H x y v u Q I rx ry h;obtain⟨l,b,xs,zs,rfl,rfl,hH,hB,hz,q⟩:=h;cases rx;cases ry;obtain⟨z,a9,n,r,e⟩:=hH.is I;obtain⟨z2,fh,n2,r2,e2⟩:=hB.is I;have hl:=r.length;have rj:=r2.length;refine PySem.P.add_list e e2 ?_ (by rw[X7,X7];omega);have ea:a9.toArray++fh.toArray=(a9++fh).toArray:=by simp
 rw[ea];exact⟨.ref _,_,I.lnew (t':=s.toks) (r.append r2) (by rw[Xn];omega),rfl,q _ I.fresh⟩
def vxr(K:PySem.W.Frag):R2:=λx y H Q=>∃a b ys,x=.ref a/\y=.ref b/\SqT K H a []/\SqT K H b ys/\Q (.ref b) H
theorem op_catE{X:Cx}:OpR X (binaryOp .Add) (vxr X.K):=by
 intro pins s σ H x y v u Q I rx ry h;obtain⟨a,b,ys,rfl,rfl,ha,hb,q⟩:=h;cases rx;cases ry;obtain⟨a9,r1,p1,_⟩:=I.tuple ha;obtain⟨fh,r2,p2,_⟩:=I.tuple hb;obtain⟨⟨cls,dd,data,sl⟩,ho,hc,n,hd⟩:=id p1;obtain⟨⟨cls2,dd2,data2,lp⟩,ho2,hc2,n2,hd2⟩:=id p2;simp only at hc hd hc2 hd2;subst hc hd hc2 hd2;have e:a9=[]:=r1.nil_iff.mpr rfl;subst e;exact concat_meets ⟨_,ho,rfl⟩ ⟨_,ho2,rfl⟩ noFill_tuple_add seq_tuple_add PySem.F.slot_tuple_add PySem.F.entry_tuple_add (PySem.F.args_tuple_add_2 _ _)
   (tuple_addW0 a b [].toArray fh.toArray n n2 dd dd2 sl lp (by simp)) ⟨ho,ho2,⟨.ref b,H,I,rfl,q⟩⟩
def vxs(K:PySem.W.Frag):R2:=λx y H Q=>rI0 (λi j=>.int (i+j)) x y H Q\/(∃i j,x=.str i/\y=.str j/\i.length+j.length<=sizeLine/\Q (.str (i++j)) H)\/vxq K x y H Q\/vxr K x y H Q\/vxp K x y H Q
theorem vzq{X:Cx}{K:PySem.W.Frag}(hK:X.K=K):OpR X (binaryOp .Add) (vxs K):=by subst hK;exact op_add.or (op_add_str.or (op_catL.or (op_catE.or vv7)))
theorem RepA.app{K:PySem.W.Frag}{H:Hp}{g:Bool}{ds':List D}{xs':List V}{ce:List Addr}(h':RepA K H g ds' xs' ce):∀{ds:List D} {xs:List V} {as:List Addr},RepA K H g ds xs as->RepA K H g (ds++ds') (xs++xs') (as++ce)
 |[],_,_,h=>by unfold RepA at h;rw[h.1,h.2];exact h'
 |d::ds,_,_,h=>by
  unfold RepA at h;obtain⟨x,r,bs,cs,rfl,rfl,h1,h2⟩:=h;rw[List.cons_append];unfold RepA;exact⟨x,r++xs',bs,cs++ce,rfl,by rw[Xq],h1,RepA.app h' h2⟩
theorem wX{H:Hp}{p:Addr}{o:HO}(h:H p=none):k8 H (upd H p o):=λb u q=>by rw[qz (zW q h)];exact q
theorem KY{K:PySem.W.Frag}{H:Hp}{p:Addr}{ds:List D}{xs:List V}{bs fr:List Addr}(hp:H p=none)(r:RepA K H true ds xs bs)(hb:∀b∈bs,b∈fr):Out K H (upd H p (.lst xs)) ⟨.rt,.lst ds,.ref p,p::bs⟩ fr:=by
 refine⟨wX hp,⟨p,xs,bs,rfl,r.kp (Kp.of_same (wX hp)),wQ,rfl⟩,λb hb=>?_,?_,λb dq=>hb b (by simpa [Sl.frz]using dq)⟩
 ·have:b=p:=by simpa [Sl.own]using hb
  rw[this];exact hp
 ·simp[Sl.own]
theorem kjc{K:PySem.W.Frag}{H:Hp}{p:Addr}{ds:List D}{xs:List V}{bs fr:List Addr}(hp:H p=none)(r:RepA K H true ds xs bs)(hb:∀b∈bs,b∈fr):Out K H (upd H p (.tup xs)) ⟨.no,.tup ds,.ref p,bs⟩ fr:=by
 refine⟨wX hp,?_,λb hb=>(nomatch hb),Xr,λb dq=>hb b dq⟩;show RepL K _ true (.tup ds) (.ref p) bs;unfold RepL;exact⟨p,xs,rfl,SqT.of wQ,r.kp (Kp.of_same (wX hp))⟩
theorem wk0{K:PySem.W.Frag}:Ad2 K (vxs K) jq:=by
 intro H x y s Q ox oy hf k;unfold jq at hf;dsimp only at hf
 split at hf
 ·rename_i i j e1 e2;cases oq9 hf;exact .inl ⟨i,j,wv ox e1,wv oy e2,k ⟨.dp,.int _,.int _,[]⟩ H rfl rfl VZ⟩
 ·rename_i i j e1 e2
  split at hf
  ·rename_i hl;cases oq9 hf;have hl':(i++j).length<=sizeLine:=by rw[strLen_append];exact hl
   exact .inr (.inl ⟨i,j,(xx ox e1).1,(xx oy e2).1,hl,k ⟨.dp,.str _,.str _,[]⟩ H rfl rfl (wqb hl')⟩)
  ·cases hf
 ·rename_i i j e1 e2
  split at hf
  ·rename_i hl;cases oq9 hf;obtain⟨a,xs,bs,e3,q3,r3,h3⟩:=z9 ox (.inl e1) hl.2.1;obtain⟨b,ys,cs,e4,q4,r4,h4⟩:=z9 oy (.inl e2) hl.2.2;have q3:LsR K H a xs:=by rcases q3 with⟨_,z⟩|⟨z,_⟩;exact z;rw[e1]at z;cases z
   have q4:LsR K H b ys:=by rcases q4 with⟨_,z⟩|⟨z,_⟩;exact z;rw[e2]at z;cases z
   refine .inr (.inr (.inl ⟨a,b,xs,ys,e3,e4,q3,q4,by rw[<-r3.len,<-r4.len];exact hl.1,λp hp=>?_⟩));exact k ⟨.rt,.lst (i++j),.ref p,p::(bs++cs)⟩ _ rfl rfl (KY hp (r4.app r3) λb hb=>(List.mem_append.mp hb).elim (λz=>ll9 _ (h3 b z)) λz=>lr9 _ (h4 b z))
  ·cases hf
 ·rename_i i j e1 e2
  split at hf
  ·rename_i hl;cases oq9 hf;obtain⟨a,xs,bs,e3,q3,r3,h3⟩:=z9 ox (.inr e1) hl.2.1;obtain⟨b,ys,cs,e4,q4,r4,h4⟩:=z9 oy (.inr e2) hl.2.2;have q3:SqT K H a xs:=by rcases q3 with⟨z,_⟩|⟨_,z⟩;rw[e1]at z;cases z;exact z
   have q4:SqT K H b ys:=by rcases q4 with⟨z,_⟩|⟨_,z⟩;rw[e2]at z;cases z;exact z
   have ap:=r4.app r3;have qe:∀b∈bs++cs,b∈x.frz++y.frz:=λb hb=>(List.mem_append.mp hb).elim (λz=>ll9 _ (h3 b z)) λz=>lr9 _ (h4 b z)
   have same:∀c zs,zs=xs++ys->SqT K H c zs->Q (.ref c) H:=λc zs e hq=>by
    refine k ⟨.no,.tup (i++j),.ref c,bs++cs⟩ H rfl rfl ⟨xJ,?_,λb hb=>(nomatch hb),Xr,qe⟩;show RepL K H true (.tup (i++j)) (.ref c) (bs++cs);unfold RepL;exact⟨c,zs,rfl,hq,by rw[e];exact ap⟩
   by_cases hx:xs=[]
   ·subst hx;exact .inr (.inr (.inr (.inl ⟨a,b,ys,e3,e4,q3,q4,same b ys rfl q4⟩)))
   ·refine .inr (.inr (.inr (.inr ⟨a,b,xs,ys,e3,e4,q3,q4,hx,by rw[<-r3.len,<-r4.len];exact hl.1,λhy=>?_,λhy p hp=>?_⟩)))
    ·exact same a xs (by rw[hy,Xp]) q3
    ·exact k ⟨.no,.tup (i++j),.ref p,bs++cs⟩ _ rfl rfl (kjc hp ap qe)
  ·cases hf
 ·cases hf
def tT(Z:Fx0)(q:Bool)(c:Ts):TT:=fun σ H Q=>∃E L r,Mt E σ L/\World Z.K H L/\c E=some r/\Xc Z σ H L r /\
 ∀E' k,r=.ok E' k->∀L' H',Mt E' σ L'->World Z.K H' L'->Step H L H' L'->(q=true->k8 H H')->Q k H'
def QT(X:Cx)(Z:Fx0)(q:Bool)(c:Ts)(e:Expr):Prop:=PT X e (tT Z q c)
def QW(X:Cx)(Z:Fx0)(q:Bool)(c:Ts)(e:Expr):Prop:=PW X e (tT Z q c)
section
variable {X:Cx}{Z:Fx0}{q qa qb:Bool}{a b c:Ex}{u v:Ts}{e ea eb:Expr}{es:List Expr}{pos:Pos}{α β:Type}{σ:L2.St}{H:Hp}{L:Ls}{E:En}
theorem vjq{e:Expr}{t t':TT}(h:PW X e t)(w:∀ σ H Q,t' σ H Q->t σ H Q):PW X e t':=λwh pins s σ H Q I q=>h wh pins s σ H Q I (w σ H Q q)
theorem qxp{F:En->Bool->Option (Res α)}{r:Res α}{G:Bool->Hp->Prop}(m:Mt E σ L)(w:World Z.K H L)(h:bnd (u E) F=some r)(xc:Xc Z σ H L r)
  (k:∀E1 s,F E1 s=some r->∀L1 H1,Mt E1 σ L1->World Z.K H1 L1->Step H L H1 L1->(q=true->k8 H H1)->G s H1):tT Z q u σ H G:=by
 rcases wW h with⟨E1,s,h1,h2⟩|⟨E1,c,h1,h2⟩
 ·exact⟨E,L,_,m,w,h1,(λ_ _ z=>by cases z),λE' s' z L' H' m' w' st sm=>by
   injection z with z1 z2;subst z1 z2;exact k _ _ h2 L' H' m' w' st sm⟩
 ·exact⟨E,L,_,m,w,h1,xc.map h2,λE' s' z=>by cases z⟩
theorem J6(ha:QT X Z q u ea):QW X Z q u (.BoolOp .And [ea] pos):=vqj ha
theorem Zv(ha:QT X Z q u ea):QW X Z q u (.BoolOp .Or [ea] pos):=vz3 ha
theorem J7(ha:QT X Z q u ea)(hb:QW X Z q v (.BoolOp .And (eb::es) pos)):QW X Z q (Q.tAnd u v) (.BoolOp .And (ea::eb::es) pos):=
 vjq (vz4 ha hb) fun σ H Q af=>ex8 af λE L r m w hc xc k=>qxp m w hc xc λE1 s h1 L1 H1 m1 w1 st sm=>by
  cases s with
  |true=>
   rw[Xb rfl]at h1 ⊢;exact⟨E1,L1,r,m1,w1,h1,xc.step st,λE' k' z L' H' m' w' df fy=>k E' k' z L' H' m' w' (st.trans df) λhq=>qK (sm hq) (fy hq)⟩
  |false=>
   rw[Xe (by decide)]at h1 ⊢;cases oq9 h1;exact k _ _ rfl L1 H1 m1 w1 st sm
theorem W2(ha:QT X Z q u ea)(hb:QW X Z q v (.BoolOp .Or (eb::es) pos)):QW X Z q (Q.tOr u v) (.BoolOp .Or (ea::eb::es) pos):=
 vjq (wq2 ha hb) fun σ H Q af=>ex8 af λE L r m w hc xc k=>qxp m w hc xc λE1 s h1 L1 H1 m1 w1 st sm=>by
  cases s with
  |false=>
   rw[Xe (by decide)]at h1 ⊢;exact⟨E1,L1,r,m1,w1,h1,xc.step st,λE' k' z L' H' m' w' df fy=>k E' k' z L' H' m' w' (st.trans df) λhq=>qK (sm hq) (fy hq)⟩
  |true=>
   rw[Xb rfl]at h1 ⊢;cases oq9 h1;exact k _ _ rfl L1 H1 m1 w1 st sm
theorem QW.pt(h:QW X Z q u e):QT X Z q u e:=PW.pt h
theorem vxu(ha:QT X Z q u ea):QT X Z q (Q.tNot u) (.UnaryOp .Not ea pos):=
 qqy (vz5 ha) fun σ H Q af=>ex8 af λE L r m w hc xc k=>qxp m w hc xc λE1 s h1 L1 H1 m1 w1 st sm=>by
  cases oq9 h1;exact k _ _ rfl L1 H1 m1 w1 st sm
theorem kK{op:CmpOp}{r:R2}{f:Sd->Sd->Option Sd}(ho:OpR X (compareOp op) r)(ad:Ad2 Z.K r f)(ha:QV X Z qa a ea)(hb:QV X Z true b eb)(hm:behindInMarks op eb=false)(hf:∀x y s,f x y=some s->∃k,s.2=.bl k):QT X Z qa (Q.tE (cF2 f a b)) (.Compare ea [op] [eb] pos):=
 qqy (vqn ho ha hb hm) fun σ H Q af=>ex8 af λE L r m w hc xc k=>by
  refine kvi ad ?_;have iz:bnd (cF2 f a b E) (λE x=>val E (truth x.2))=some r:=hc;rcases wW iz with⟨E1,s,h1,h2⟩|⟨E1,c,h1,h2⟩
  ·refine⟨E,L,_,m,w,h1,(λ_ _ z=>by cases z),λE' s' z x L' H' e1 e2 m' w' st sm=>?_⟩;injection z with z1 z2;subst z1 z2;obtain⟨kk,hk⟩:∃k,s.2=.bl k:=by
    unfold cF2 at h1;rcases wW h1 with⟨E2,s2,h3,h4⟩|⟨_,_,_,z⟩
    ·rcases wW h4 with⟨E3,s3,h5,h6⟩|⟨_,_,_,z⟩
     ·obtain⟨y,hy,z⟩:=K5 h6;cases z;exact hf _ _ _ hy
     ·cases z
    ·cases z
   rw[hk]at h2;cases oq9 h2;exact⟨kk,W0 w'.head (e2.trans hk),k _ _ rfl L' H' m' w'.tail (st.trans Step.drop) λhq=>(sm hq).1⟩
  ·exact⟨E,L,_,m,w,h1,xc.map h2,λE' s' z=>by cases z⟩
end
def Pn(pn:List Nat)(σ σ':L2.St):Prop:=∀p∈pn,σ'[p]?=σ[p]?
theorem Pn.refl{pn:List Nat}{σ:L2.St}:Pn pn σ σ:=λ_ _=>rfl
theorem Pn.trans{pn:List Nat}{σ σ1 σ2:L2.St}(a:Pn pn σ σ1)(b:Pn pn σ1 σ2):Pn pn σ σ2:=λp hp=>(b p hp).trans (a p hp)
theorem Pn.set{pn:List Nat}{σ σ1:L2.St}{i:Nat}{y:Option V}(a:Pn pn σ σ1)(h:i∉pn):Pn pn σ (σ1.set i y):=λp hp=>by
 have:i≠p:=λe=>h (e▸hp)
 rw[Xs this];exact a p hp
def FlP(Z:Fx0)(pn:List Nat)(D:Ends)(σ:L2.St)(H:Hp)(L:Ls):Fl->Prop
 |.nx E'=>∀ σ' L' H',Pn pn σ σ'->Mt E' σ' L'->World Z.K H' L'->Step H L H' L'->D.nx σ' H'
 |.ct E'=>∀ σ' L' H',Pn pn σ σ'->Mt E' σ' L'->World Z.K H' L'->Step H L H' L'->D.ct σ' H'
 |.bk E'=>∀ σ' L' H',Pn pn σ σ'->Mt E' σ' L'->World Z.K H' L'->Step H L H' L'->D.bk σ' H'
 |.rt E' a=>∀(x:Sl) σ' L' H',x.o=a.1->x.d=a.2->Pn pn σ σ'->Mt E' σ' L'->World Z.K H' (some x::L')->Step H L H' (some x::L')->D.rt x.v H'
 |.xc E' c=>∀C σ' L' H',Z.mg c=some (.ref C)->Pn pn σ σ'->Mt E' σ' L'->World Z.K H' L'->Step H L H' L'->Z.EX (.ref C) none H'
theorem FlP.step{Z:Fx0}{pn:List Nat}{D:Ends}{σ σ1:L2.St}{H H1:Hp}{L L1:Ls}{r:Fl}(k:FlP Z pn D σ H L r)(s:Step H L H1 L1)(p:Pn pn σ σ1):FlP Z pn D σ1 H1 L1 r:=by
 cases r with
 |nx E'=>exact fun σ' L' H' p' m w s'=>k σ' L' H' (p.trans p') m w (s.trans s')
 |ct E'=>exact fun σ' L' H' p' m w s'=>k σ' L' H' (p.trans p') m w (s.trans s')
 |bk E'=>exact fun σ' L' H' p' m w s'=>k σ' L' H' (p.trans p') m w (s.trans s')
 |rt E' a=>exact λx σ' L' H' e1 e2 p' m w s'=>k x σ' L' H' e1 e2 (p.trans p') m w (s.trans s')
 |xc E' c=>exact λC σ' L' H' hm p' m w s'=>k C σ' L' H' hm (p.trans p') m w (s.trans s')
theorem FlP.xc{α:Type}{Z:Fx0}{pn:List Nat}{D:Ends}{σ:L2.St}{H:Hp}{L:Ls}{E':En}{c:Str}(k:FlP Z pn D σ H L (.xc E' c)):Xc Z σ H L (.exc E' c:Res α):=λE1 c1 e C L' H' hm m w s=>by
 injection e with h1 h2;subst h1 h2;exact k C σ L' H' hm Pn.refl m w s
def tS(Z:Fx0)(pn:List Nat)(c:Sm):TS:=λD σ H=>∃E L r,Mt E σ L/\World Z.K H L/\c E=some r/\FlP Z pn D σ H L r
def QS(X:Cx)(Z:Fx0)(pn:List Nat)(c:Sm)(st:Stmt):Prop:=PS X st (tS Z pn c)
def QSs(X:Cx)(Z:Fx0)(pn:List Nat)(c:Sm)(st:List Stmt):Prop:=PSs X st (tS Z pn c)
section
variable {X:Cx}{Z:Fx0}{pn:List Nat}{q qa qb:Bool}{a b c:Ex}{u v:Ts}{A B:Sm}{e ea eb:Expr}{st:Stmt}{ss tt:List Stmt}{pos:Pos}{α:Type}{σ:L2.St}{H:Hp}{L:Ls}{E:En}{D:Ends}
theorem jx7{m:Option (Res α)}{F:En->α->Option Fl}{r:Fl}(h:ofE m F=some r):(∃E1 x,m=some (.ok E1 x)/\F E1 x=some r)\/∃E1 c,m=some (.exc E1 c)/\r=.xc E1 c:=by
 cases m with
 |none=>cases h
 |some q=>
  cases q with
  |ok E1 x=>exact .inl ⟨E1,x,rfl,h⟩
  |exc E1 c=>exact .inr ⟨E1,c,rfl,(oq9 h).symm⟩
theorem Wz{F:En->Sd->Option Fl}{r:Fl}{G:VK}(m:Mt E σ L)(w:World Z.K H L)(h:ofE (a E) F=some r)(k:FlP Z pn D σ H L r)
  (g:∀E1 s,F E1 s=some r->∀(x:Sl) L1 H1,x.o=s.1->x.d=s.2->Mt E1 σ L1->World Z.K H1 (some x::L1)->Step H L H1 (some x::L1)->(q=true->k8 H H1/\∀b∈x.own,H b=none)->G x.v H1):tQ Z q a σ H G:=by
 rcases jx7 h with⟨E1,s,h1,h2⟩|⟨E1,c,h1,rfl⟩
 ·exact⟨E,L,_,m,w,h1,(λ_ _ z=>by cases z),λE' s' z x L' H' e1 e2 m' w' st sm=>by
   injection z with z1 z2;subst z1 z2;exact g _ _ h2 x L' H' e1 e2 m' w' st sm⟩
 ·exact⟨E,L,_,m,w,h1,k.xc,λE' s' z=>by cases z⟩
theorem vxc{F:En->Bool->Option Fl}{r:Fl}{G:Bool->Hp->Prop}(m:Mt E σ L)(w:World Z.K H L)(h:ofE (u E) F=some r)(k:FlP Z pn D σ H L r)
  (g:∀E1 s,F E1 s=some r->∀L1 H1,Mt E1 σ L1->World Z.K H1 L1->Step H L H1 L1->G s H1):tT Z q u σ H G:=by
 rcases jx7 h with⟨E1,s,h1,h2⟩|⟨E1,c,h1,rfl⟩
 ·exact⟨E,L,_,m,w,h1,(λ_ _ z=>by cases z),λE' s' z L' H' m' w' st sm=>by
   injection z with z1 z2;subst z1 z2;exact g _ _ h2 L' H' m' w' st⟩
 ·exact⟨E,L,_,m,w,h1,k.xc,λE' s' z=>by cases z⟩
theorem wJ:QSs X Z pn k7 []:=qqz vqo λD σ H af=>ex7 af λE L r m w hc k=>by
 cases oq9 hc;exact k σ L H Pn.refl m w Step.refl
theorem j9(h1:QS X Z pn A st)(h2:QSs X Z pn B ss):QSs X Z pn (j4 A B) (st::ss):=qqz (qz8 h1 h2) λD σ H af=>ex7 af λE L r m w hc k=>by
 unfold j4 at hc;cases ha:A E with
 |none=>rw[ha]at hc;cases hc
 |some f=>
  rw[ha]at hc;cases f with
  |nx E1=>exact⟨E,L,_,m,w,ha,fun σ' L' H' p m' w' s=>⟨E1,L',r,m',w',hc,k.step s p⟩⟩
  |ct E1=>cases oq9 hc;exact⟨E,L,_,m,w,ha,k⟩
  |bk E1=>cases oq9 hc;exact⟨E,L,_,m,w,ha,k⟩
  |rt E1 x=>cases oq9 hc;exact⟨E,L,_,m,w,ha,k⟩
  |xc E1 x=>cases oq9 hc;exact⟨E,L,_,m,w,ha,k⟩
theorem jz(h1:QS X Z pn A st):QSs X Z pn A [st]:=kxk h1
theorem vxz:QS X Z pn vq5 (.Continue pos):=xk kxl λD σ H af=>ex7 af λE L r m w hc k=>by
 cases oq9 hc;exact k σ L H Pn.refl m w Step.refl
theorem kY(h:QE X Z q a ea):QS X Z pn (jv a) (.Return (some ea) pos):=xk (vz7 h) λD σ H af=>ex7 af λE L r m w hc k=>
 Wz m w hc k λE1 s h1 x L1 H1 e1 e2 m1 w1 st _=>by
  cases oq9 h1;exact k x σ L1 H1 e1 e2 Pn.refl m1 w1 st
theorem vY(hc:QT X Z q u e)(ha:QSs X Z pn A ss)(hb:QSs X Z pn B tt):QS X Z pn (sIf u A B) (.If e ss tt pos):=xk (wq3 hc ha hb) λD σ H af=>ex7 af λE L r m w hc k=>
 vxc m w hc k λE1 s h1 L1 H1 m1 w1 st=>by
  cases s with
  |true=>rw[Xb rfl]at h1 ⊢;exact⟨E1,L1,r,m1,w1,h1,k.step st Pn.refl⟩
  |false=>rw[Xe (by decide)]at h1 ⊢;exact⟨E1,L1,r,m1,w1,h1,k.step st Pn.refl⟩
theorem Q3{x:Sl}{i:Nat}{s:Sd}(m:Mt E σ L)(e1:x.o=s.1)(e2:x.d=s.2):Mt (E.set i (some s)) (σ.set i (some x.v)) (L.set i (some x)):=by
 have:=m.set (x:=x) i;rw[e1,e2]at this;exact this
theorem wq0{i:Nat}{y:Str}{cw:Pos}(hN:X.N.Nodup)(hi:X.N[i]?=some y)(hx:Loc X.env.scope y)(h:QE X Z q a ea)(hp:i∉pn:=by decide)(hs:swapsWith ea (some (.Name y cw)) pos.line X.env=pure false:=by rfl)(hf:X.fn y=true\/X.env.scope.names.lookup y=some .local:=by first|exact .inl rfl|exact .inr rfl|assumption):
  QS X Z pn (j6 i a) (.Assign [.Name y cw] ea pos):=xk (vz6 hN hi hx h hs hf) λD σ H af=>ex7 af λE L r m w hc k=>
 Wz m w hc k λE1 s h1 x L1 H1 e1 e2 m1 w1 st _=>by
  cases oq9 h1;exact k (σ.set i (some x.v)) (L1.set i (some x)) H1 (Pn.refl.set hp) (Q3 m1 e1 e2) w1.set (st.trans Step.set)
theorem vz2{i:Nat}{y:Str}{cw:Pos}(hp:i∉pn)(h:PS X (.Assign [.Name y cw] ea pos) (λD σ H=>tQ Z q a σ H λv H1=>D.nx (σ.set i (some v)) H1)):
  QS X Z pn (j6 i a) (.Assign [.Name y cw] ea pos):=xk h λD σ H af=>ex7 af λE L r m w hc k=>
 Wz m w hc k λE1 s h1 x L1 H1 e1 e2 m1 w1 st _=>by
  cases oq9 h1;exact k (σ.set i (some x.v)) (L1.set i (some x)) H1 (Pn.refl.set hp) (Q3 m1 e1 e2) w1.set (st.trans Step.set)
theorem qqt(hp:PassesOwn (model X.prog X.w) X.A X.env X.xe)(hc:QT X Z q u e)(hb:QSs X Z pn B ss):QS X Z pn (sWhile u B) (.While e ss [] pos):=xk (qz9 hp hc hb) λD σ H af=>ex7 af λE L r m w hr k=>by
 obtain⟨n0,hn⟩:=vkr hr;refine⟨λn σ1 H1=>∃E1 L1,Mt E1 σ1 L1/\World Z.K H1 L1/\whN u B n E1=some r/\Step H L H1 L1/\Pn pn σ σ1,⟨n0,E,L,m,w,hn,Step.refl,Pn.refl⟩,?_⟩;rintro n σ1 H1 ⟨E1,L1,m1,w1,h1,gw,p1⟩;cases n with
 | zero=>cases h1
 | succ n=>
  have k1:=k.step gw p1;unfold whN at h1;cases ht:u E1 with
  | none=>rw[ht]at h1;cases h1
  | some f=>
   rw [ht]at h1;cases f with
   | exc E2 c=>
    cases oq9 h1;exact⟨E1,L1,_,m1,w1,ht,k1.xc,λE' s' z=>by cases z⟩
   | ok E2 kk=>
    refine⟨E1,L1,_,m1,w1,ht,(λ_ _ z=>by cases z),λE' s' z L' H' m' w' st sm=>?_⟩;injection z with z1 z2;subst z1 z2;cases kk with
    | false=>
     rw[Xe (by decide)];cases oq9 h1;exact k1 σ1 L' H' Pn.refl m' w' st
    | true=>
     rw[Xb rfl];dsimp only at h1;refine⟨fun σ2 H2=>∃E2 L2,Mt E2 σ2 L2/\World Z.K H2 L2/\whN u B n E2=some r/\Step H L H2 L2/\Pn pn σ σ2,fun σ2 H2 h2=>⟨n,by omega,h2⟩,?_⟩;cases hB:B E2 with
     |none=>rw[hB]at h1;cases h1
     |some g=>
      rw[hB]at h1;have k2:=k1.step st Pn.refl;refine⟨E2,L',g,m',w',hB,?_⟩;cases g with
      |nx E3=>exact fun σ3 L3 H3 p3 m3 w3 s3=>⟨E3,L3,m3,w3,h1,gw.trans (st.trans s3),p1.trans p3⟩
      |ct E3=>exact fun σ3 L3 H3 p3 m3 w3 s3=>⟨E3,L3,m3,w3,h1,gw.trans (st.trans s3),p1.trans p3⟩
      |bk E3=>cases oq9 h1;exact k2
      |rt E3 x=>cases oq9 h1;exact k2
      |xc E3 c=>cases oq9 h1;exact k2
end
structure Walks (K:PySem.W.Frag)(J:It)(T:List Sl)(ds:List D):Prop where
 no:∀t∈T,t.o=.no
 go:∀i H,(∀t∈T,t.ok K H)->i<ds.length->J.go i H
 stop:∀H,(∀t∈T,t.ok K H)->J.stop ds.length H
 yld:∀i H v H' d,(∀t∈T,t.ok K H)->J.yld i H v H'->ds[i]?=some d->∃z:Sl,z.o=.no/\z.d=d/\z.v=v/\k8 H H'/\z.ok K H'/\∀b∈z.as,∃t∈T,b∈t.as
def tI(Z:Fx0)(q:Bool)(it:Ev (List D)):TI:=fun σ H R=>∃E L r,Mt E σ L/\World Z.K H L/\it E=some r/\Xc Z σ H L r /\
 ∀E' ds,r=.ok E' ds->∀J T L' H',Mt E' σ L'->World Z.K H' (L'++T.map some)->Step H L H' (L'++T.map some)->ds.length<=sizeLine->(q=true->k8 H H')->Walks Z.K J T ds->R J H'
def QI(X:Cx)(Z:Fx0)(q:Bool)(tg:Expr)(it:Ev (List D))(e:Expr):Prop:=PI X tg e (tI Z q it)
def wva(K:PySem.W.Frag)(H0:Hp)(T:List Sl)(H:Hp):Prop:=(∀t∈T,t.ok K H)/\∀t∈T,Kp H0 H t.as
structure WalksD (K:PySem.W.Frag)(H0:Hp)(J:It)(T:List Sl)(ds:List D):Prop where
 no:∀t∈T,t.o=.no
 go:∀i H,wva K H0 T H->i<ds.length->J.go i H
 stop:∀H,wva K H0 T H->J.stop ds.length H
 yld:∀i H v H' d,wva K H0 T H->J.yld i H v H'->ds[i]?=some d->∃z:Sl,z.o=.no/\z.d=d/\z.v=v/\k8 H H'/\z.ok K H'/\∀b∈z.as,∃t∈T,b∈t.as
theorem Walks.D{K:PySem.W.Frag}{H0:Hp}{J:It}{T:List Sl}{ds:List D}(h:Walks K J T ds):WalksD K H0 J T ds:=⟨h.no,λi H o=>h.go i H o.1,λH o=>h.stop H o.1,λi H v H' d o=>h.yld i H v H' d o.1⟩
def tID(Z:Fx0)(q:Bool)(it:Ev (List D)):TI:=fun σ H R=>∃E L r,Mt E σ L/\World Z.K H L/\it E=some r/\Xc Z σ H L r /\
 ∀E' ds,r=.ok E' ds->∀J T L' H',Mt E' σ L'->World Z.K H' (L'++T.map some)->Step H L H' (L'++T.map some)->ds.length<=sizeLine->(q=true->k8 H H')->WalksD Z.K H' J T ds->R J H'
def QID(X:Cx)(Z:Fx0)(q:Bool)(tg:Expr)(it:Ev (List D))(e:Expr):Prop:=PI X tg e (tID Z q it)
theorem QI.D{X:Cx}{Z:Fx0}{q:Bool}{tg:Expr}{it:Ev (List D)}{e:Expr}(h:QI X Z q tg it e):QID X Z q tg it e:=λpins s σ H R I hz=>h pins s σ H R I (by
 obtain⟨E,L,r,m,w,e,x,k⟩:=hz;exact⟨E,L,r,m,w,e,x,λE' ds z J T L' H' m' w' st hl sm wk=>k E' ds z J T L' H' m' w' st hl sm wk.D⟩)
structure WalksS (K:PySem.W.Frag)(q:Bool)(H0:Hp)(J:It)(T:List Sl)(ds:List D):Prop where
 no:∀t∈T,t.o=.no
 go:∀i H,(∀t∈T,t.ok K H)->(q=true->k8 H0 H)->i<ds.length->J.go i H
 stop:∀H,(∀t∈T,t.ok K H)->(q=true->k8 H0 H)->J.stop ds.length H
 yld:∀i H v H' d,(∀t∈T,t.ok K H)->(q=true->k8 H0 H)->J.yld i H v H'->ds[i]?=some d->∃z:Sl,z.o=.no/\z.d=d/\z.v=v/\k8 H H'/\z.ok K H'/\∀b∈z.as,∃t∈T,b∈t.as
theorem vks{K:PySem.W.Frag}{q:Bool}{H0:Hp}{J:It}{T:List Sl}{ds:List D}(h:Walks K J T ds):WalksS K q H0 J T ds:=⟨h.no,λi H o _=>h.go i H o,λH o _=>h.stop H o,λi H v H' d o _=>h.yld i H v H' d o⟩
def tIS(Z:Fx0)(q:Bool)(it:Ev (List D)):TI:=fun σ H R=>∃E L r,Mt E σ L/\World Z.K H L/\it E=some r/\Xc Z σ H L r /\
 ∀E' ds,r=.ok E' ds->∀J T L' H',Mt E' σ L'->World Z.K H' (L'++T.map some)->Step H L H' (L'++T.map some)->ds.length<=sizeLine->(q=true->k8 H H')->WalksS Z.K q H J T ds->R J H'
def QIS(X:Cx)(Z:Fx0)(q:Bool)(tg:Expr)(it:Ev (List D))(e:Expr):Prop:=PI X tg e (tIS Z q it)
theorem wvp{X:Cx}{Z:Fx0}{q:Bool}{tg:Expr}{it:Ev (List D)}{e:Expr}(h:QI X Z q tg it e):QIS X Z q tg it e:=λpins s σ H R I hz=>h pins s σ H R I (by
 obtain⟨E,L,r,m,w,e,x,k⟩:=hz;exact⟨E,L,r,m,w,e,x,λE' ds z J T L' H' m' w' st hl sm wk=>k E' ds z J T L' H' m' w' st hl sm (vks wk)⟩)
def tG(Z:Fx0)(pn:List Nat)(tg:Tg):TG:=λv σ H Q=>∃(E:En) (L:Ls) (z:Sl) (E':En),Mt E σ L/\World Z.K H (some z::L)/\z.o=.no/\z.v=v/\tg.put z.d E=some E' /\
 ∀ σ' L',Pn pn σ σ'->Mt E' σ' L'->World Z.K H L'->Step H (some z::L) H L'->Q σ' H
def QG(X:Cx)(Z:Fx0)(pn:List Nat)(tg:Tg)(e:Expr):Prop:=PG X e (tG Z pn tg)
section
variable {X:Cx}{Z:Fx0}{pn:List Nat}{e:Expr}{σ:L2.St}{H:Hp}{L:Ls}{E:En}
theorem vjt{t t':TG}(h:PG X e t)(w:∀v σ H Q,t' v σ H Q->t v σ H Q):PG X e t':=λpins s σ H x v Q I r q=>h pins s σ H x v Q I r (w x σ H Q q)
theorem YJ{i:Nat}(h:PG X e (W3 i))(hp:i∉pn:=by decide):QG X Z pn (.n i) e:=vjt h λv σ H Q ⟨E,L,z,E',m,w,ho,hv,bc,k⟩=>by
 cases oq9 bc;rw[<-hv];exact k (σ.set i (some z.v)) (L.set i (some z)) (Pn.refl.set hp) (Q3 m ho rfl) w.set Step.set
def gNs:List Nat->TGs
 |[]=>ww2
 |i::is=>wjj (W3 i) (gNs is)
theorem qwe{Q:L2.St->Hp->Prop}{M:Ls}{σ0:L2.St}:∀{is:List Nat} {ds:List D} {xs:List V} {bs:List Addr} {E:En} {L:Ls} {σ:L2.St} {E':En},Mt E σ L->World Z.K H L->RepA Z.K H true ds xs bs->(∀b∈bs,b∉j7 L)->(∀b∈bs,b∈jV M)->Step H M H L->Pn pn σ0 σ ->
  setAll is ds E=some E'->(∀i∈is,i∉pn)->(∀ σ' L',Pn pn σ0 σ'->Mt E' σ' L'->World Z.K H L'->Step H M H L'->Q σ' H)->gNs is xs σ H Q
 | [],[],xs,bs,E,L,σ,E',m,w,r,_,_,st,p,e,_,k=>by
  cases oq9 e;unfold RepA at r;exact⟨r.1,k σ L p m w st⟩
 | [],_::_,_,_,_,_,_,_,_,_,_,_,_,_,_,e,_,_=>by cases e
 | _::_,[],_,_,_,_,_,_,_,_,_,_,_,_,_,e,_,_=>by cases e
 | i::is,d::ds,xs,bs,E,L,σ,E',m,w,r,hb,hf,st,p,e,hi,k=>by
  unfold RepA at r;obtain⟨x,rr,cs,es,rfl,rfl,h1,h2⟩:=r;have w1:World Z.K H (some ⟨.no,d,x,cs⟩::L):=w.consNo (x:=⟨.no,d,x,cs⟩) h1 rfl λb dq=>hb b (ll9 _ dq)
  have s1:Step H M H (L.set i (some ⟨.no,d,x,cs⟩)):=by
   refine⟨λ_ _ h _=>h,λa ha=>?_,λa ha=>?_⟩
   ·rcases WX ha with z|z
    ·exact nomatch z
    ·exact st.own a z
   ·rcases ZK ha with z|z
    ·exact .inl (hf a (ll9 _ z))
    ·exact st.frz a z
  exact⟨x,rr,rfl,qwe (is:=is) (Q3 (x:=⟨.no,d,x,cs⟩) (s:=(.no,d)) m rfl rfl) w1.set h2 (λb dq ho=>by
   rcases WX ho with z|z
   ·exact nomatch z
   ·exact hb b (lr9 _ dq) z) (λb dq=>hf b (lr9 _ dq)) s1 (p.set (hi i X2)) e (λj hj=>hi j (lc9 _ hj)) k⟩
theorem kku:∀{is:List Nat} {ds:List D} {E E':En},setAll is ds E=some E'->is.length=ds.length
 |[],[],_,_,_=>rfl
 |[],_::_,_,_,e=>by cases e
 |_::_,[],_,_,e=>by cases e
 |i::is,d::ds,E,E',e=>by rw[Xl,Xl,kku (E:=E.set i (some (.no,d))) e]
def wqq(K:PySem.W.Frag)(n:Nat)(t:TGs):TG:=λv σ H Q=>∃a xs,v=.ref a/\(SqT K H a xs\/SqL K H a xs)/\xs.length=n/\t xs σ H Q
section
variable {prog:Program}{w:PySem.World}{A:Around}{E':Value->Shared->Prop}
theorem kwu{it t:Addr}{items:Array Value}(cx:t≠it):∀(n i:Nat) (s:Shared) (Q:List Value->Shared->Prop),s.heap.IsListIter it t i->s.heap.IsList t items->i+n<=items.size ->
  (∀h',h'.IsListIter it t (i+n)->Heap.SameBut it s.heap h'->Q ((items.toList.drop i).take n) { s with heap:=h' })->wpAny (model prog w) A (draw (.ref it) n) Q E' s
 | 0,i,s,Q,p6,_,_,hQ=>by
  show wpAny _ _ (pure []) Q E' s;exact X4 (by simpa using hQ s.heap p6 (Heap.SameBut.refl ..))
 | n+1,i,s,Q,p6,ht,fe,hQ=>by
  have az:i<items.size:=by omega
  show wpAny _ _ (pyNext (.ref it) >>= _) Q E' s;refine X0 (wpAny_pyNext_list_item p6 ht (x:=items[i]) (by simp[az]) λh₁ mw ol=>?_);have ht₁:h₁.IsList t items:=by
   obtain⟨o,ho,r⟩:=ht;exact⟨o,(ol.2 t cx).trans ho,r⟩
  refine X0 (Yp (kwu cx n (i+1) _ _ mw ht₁ (by omega) λh₂ hit₂ hs₂=>X4 ?_));have hd:items.toList.drop i=items[i]::items.toList.drop (i+1):=by simp[Yi,az]
  have:=hQ h₂ (by rw[show i+(n+1)=i+1+n by omega];exact hit₂) (ol.trans hs₂);rw[hd,List.take_succ_cons]at this;exact this
theorem jzk{s:Shared}{t:Addr}{items:Array Value}{Q:List Value->Shared->Prop}(hh:A.handled=none)(ht:s.heap.IsList t items)
  (hQ:∀h',Heap.ExtBut s.heap.objs.size s.heap h'->Q items.toList { s with heap:=h' }):wpAny (model prog w) A (unpackItems (.ref t) items.size none) Q E' s:=by
 have az:t≠s.heap.objs.size:=by obtain⟨o,ho,_⟩:=ht;exact Xy (Xf ho)
 unfold unpackItems;refine X0 ?_;unfold notIterableAtAll;refine X0 (wpAny_specialOf ht.typeIs slot_list_iter.lookup ?_);refine X4 ?_;simp only[Bool.false_eq_true,if_false];refine X0 (Yp (wpAny_pyIter_list ht ?_));have ht0:∀o:Obj,(s.heap.push o).IsList t items:=λo=>by
  obtain⟨ob,ho,r⟩:=ht;exact⟨ob,X9 _ ho,r⟩
 refine X0 (Yp (kwu az items.size 0 _ _ ⟨_,Xj _ rfl,rfl,rfl⟩ (ht0 _) (by omega) λh₁ mw ol=>?_));have mz:List.take items.size (List.drop 0 items.toList)=items.toList:=by
  rw[List.drop_zero];exact List.take_of_length_le (by simp)
 rw[mz];rw[Xe (by simp)];have ht₁:h₁.IsList t items:=by
  obtain⟨o,ho,r⟩:=ht0 _;exact⟨o,(ol.2 t az).trans ho,r⟩
 refine X0 (Yp (wpAny_pyNext_list_end hh mw ht₁ (by simp) λh₂ he₂=>?_));simp only[Option.isSome_none,Bool.false_eq_true,if_false];exact X4 (hQ h₂ λb o hb e=>he₂ b o hb (ol.extBut b o hb (X9 _ e)))
theorem jz7{s:Shared}{env:Env}{ez:List Expr}{x1}{pos:Pos}{t:Addr}{items:Array Value}{Q:Unit->Shared->Prop}(hh:A.handled=none)(ht:s.heap.IsList t items)
  (hn:(assignEach ez env).length=items.size) (og:(assignEach ez env).findIdx? (·.1)=none)
  (h:∀h',Heap.ExtBut s.heap.objs.size s.heap h'->wpAny (model prog w) A (assignInOrder ((assignEach ez env).map (·.2)) items.toList) Q E' { s with heap:=h' }):
  wpAny (model prog w) A (assign (.Tuple ez x1 pos) env (.ref t)) Q E' s:=by
 rw[assign_Tuple];refine X0 (wpAny_standAt ?_);unfold unpack;rw[hn,og];exact X0 (Yp (jzk hh ht h))
end
theorem qj6(K:PySem.W.Frag){es:List Expr}{k:Nat}{t:TGs}{n:Nat}{pos:Pos}(h:PGs X es t)(hc:X.calm=true:=by rfl)(hK:X.K=K:=by rfl)
  (hn:(assignEach es X.env).length=n:=by rfl) (b7:(assignEach es X.env).findIdx? (·.1)=none:=by rfl):PG X (.Tuple es k pos) (wqq K n t):=by
 subst hK;intro pins s σ H v u Q I r hw;obtain⟨a,xs,e1,hq,hl,hw⟩:=hw;subst e1;cases r;rcases hq with hq|hq
 ·obtain⟨a9,rv,ht,hz⟩:=I.tuple hq;refine assign_Tuple_tuple (I.ok.hd hc) ht (by simp[hn,<-hl,rv.length]) b7 λh' hx=>?_
  have I1:L2.Inv X pins σ H { s with heap:=h' }:=I.kept (t':=s.toks) λb o e=>hx b o (Xy (Xf e)) e
  exact h pins _ σ H xs _ Q I1 (by simpa using rv) hw
 ·obtain⟨a9,rv,ht,hz⟩:=I.list hq;refine jz7 (I.ok.hd hc) ht.isList (by simp[hn,<-hl,rv.length]) b7 λh' hx=>?_
  have I1:L2.Inv X pins σ H { s with heap:=h' }:=I.kept (t':=s.toks) λb o e=>hx b o (Xy (Xf e)) e
  exact h pins _ σ H xs _ Q I1 (by simpa using rv) hw
theorem wk9{is:List Nat}(h:PG X e (wqq Z.K is.length (gNs is)))(hp:∀i∈is,i∉pn:=by decide):QG X Z pn (.t is) e:=vjt h λv σ H Q ⟨E,L,z,E',m,w,ho,hv,bc,k⟩=>by
 have fin:∀ds:List D,(z.d=.lst ds\/z.d=.tup ds)->setAll is ds E=some E'->wqq Z.K is.length (gNs is) v σ H Q:=λds hd bc=>by
  obtain⟨a,xs,bs,e1,q1,r,h1,h2⟩:=items w.head hd;rw[ho]at r;refine⟨a,xs,hv.symm.trans e1,?_,by rw[kku bc,r.len],qwe (M:=some z::L) m w.tail r (λb hb=>w.apart b (h1 b hb)) (λb hb=>?_) Step.drop Pn.refl bc hp k⟩
  ·rcases q1 with⟨_,z'⟩|⟨_,z'⟩
   ·exact .inr z'.sq
   ·exact .inl z'
  ·rw[qw,kwl ho];exact ll9 _ (h1 b hb)
 cases hd:z.d with
 |tup ds=>rw[hd]at bc;exact fin ds (.inr hd) bc
 |lst ds=>rw[hd]at bc;exact fin ds (.inl hd) bc
 |_=>rw[hd]at bc;cases bc
theorem vjo{is:List Nat}{q:Bool}{c:Ex}{ea tg:Expr}{pos:Pos}(h:QE X Z q c ea)(hg:QG X Z pn (.t is) tg)(hs:swapsWithSole [tg] ea pos.line X.env=pure false:=by rfl)(hw:swappedStores [tg] ea X.env=pure none:=by rfl)(h1:(assignEach [tg] X.env).map (·.2)=[assign tg X.env]:=by rfl):
  QS X Z pn (Yx is c) (.Assign [tg] ea pos):=xk (vz8 h hg hs hw h1) λD σ H af=>ex7 af λE L r m w hc k=>
 Wz m w (show ofE (c E) _=some r from hc) k λE1 s h1 x L1 H1 e1 e2 m1 w1 st _=>by
  cases hp:Tg.put (.t is) s.2 E1 with
  |none=>rw[hp]at h1;cases h1
  |some E2=>
   rw[hp]at h1;cases oq9 h1;have w2:World Z.K H1 (some x.let::L1):=w1.tail.consNo (KJ w1.head) rfl λb hb=>w1.apart b hb
   have s2:Step H L H1 (some x.let::L1):=J3 (x:=x.let) (st.trans Step.drop) (jzr (x:=x) st) rfl;exact⟨E1,L1,x.let,E2,m1,w2,rfl,rfl,by rw[show x.let.d=s.2 from e2];exact hp,fun σ' L' p m' w' s'=>k σ' L' H1 p m' w' (s2.trans s')⟩
end
section
variable {X:Cx}{Z:Fx0}{pn:List Nat}{q:Bool}{tg iter:Expr}{it:Ev (List D)}{t:Tg}{B:Sm}{ss:List Stmt}{pos:Pos}{σ:L2.St}{H:Hp}{L:Ls}{E:En}
theorem kq1{K:PySem.W.Frag}{T:List Sl}{H1 H2:Hp}{L1:Ls}{z:Sl}(w:World K H1 (L1++T.map some))(hT:∀t∈T,t.o=.no)(sm:k8 H1 H2)(ok:z.ok K H2)(ho:z.o=.no)(hz:∀b∈z.as,∃t∈T,b∈t.as):
  World K H2 ((some z::L1)++T.map some)/\Step H1 (L1++T.map some) H2 ((some z::L1)++T.map some):=by
 have w2:World K H2 (L1++T.map some):=⟨λx hx=>RepO.kp (w.ok x hx) (Kp.of_same sm),w.nd,w.ds⟩;have hf:∀b∈z.as,b∈jV (L1++T.map some):=λb hb=>by
  obtain⟨t,ht,hbt⟩:=hz b hb;rw[qv];exact lr9 _ (mem_frozen.mpr ⟨t,Xk ht,by rw[kwl (hT t ht)];exact hbt⟩)
 refine⟨w2.consNo ok ho λb hb hL=>w2.ds b hL (hf b hb),λa ob h _=>sm a ob h,λa ha=>?_,λa ha=>?_⟩
 ·rw[List.cons_append,jJ,qvc ho]at ha;exact .inl ha
 ·rw[List.cons_append,qw,kwl ho]at ha;rcases List.mem_append.mp ha with q|q
  ·exact .inl (hf a q)
  ·exact .inl q
theorem stay{K:PySem.W.Frag}{T L1 L2:Ls}{H1 H2:Hp}(w:World K H1 (L1++T))(s:Step H1 L1 H2 L2)(w2:World K H2 L2):World K H2 (L2++T)/\Step H1 (L1++T) H2 (L2++T):=⟨s.frame w w2 w.left,s.frm⟩
theorem Step.dropT{T:Ls}{H1:Hp}{L1:Ls}:Step H1 (L1++T) H1 L1:=⟨λ_ _ h _=>h,λa ha=>.inl (by rw[jW];exact ll9 _ ha),λa ha=>.inl (by rw[qv];exact ll9 _ ha)⟩
theorem Kp.trans{H H1 H2:Hp}{as:List Addr}(a:Kp H H1 as)(b:Kp H1 H2 as):Kp H H2 as:=⟨λc xs e=>b.1 c xs (a.1 c xs e),λc o u e=>b.2.1 c o u (a.2.1 c o u e),λc hc ob e=>b.2.2 c hc ob (a.2.2 c hc ob e)⟩
theorem qj5{K:PySem.W.Frag}{H2 H3:Hp}{L2 L3:Ls}{T:List Sl}(w:World K H2 (L2++T.map some))(hT:∀t∈T,t.o=.no)(s:Step H2 L2 H3 L3){H0:Hp}(h:∀t∈T,Kp H0 H2 t.as):∀t∈T,Kp H0 H3 t.as:=λt ht=>
 (h t ht).trans (s.kp w.left λb hb z=>w.ds b (by rw[jW];exact ll9 _ z) (by
  rw[qv];exact lr9 _ (mem_frozen.mpr ⟨t,Xk ht,by rw[kwl (hT t ht)];exact hb⟩)))
theorem vxx(hp:PassesOwn (model X.prog X.w) X.A X.env X.xe)(hc:X.calm=true)(hi:QID X Z q tg it iter)(hg:QG X Z pn t tg)(hb:QSs X Z pn B ss)(hs:∀x,foldedSetIterable iter X.env x=pure x:=by intro _;rfl):QS X Z pn (qQ it t B) (.For tg iter ss [] pos):=xk (qv1 hp hc hi hg hb hs) λD σ H af=>ex7 af λE L r m w hr k=>by
 have hr:ofE (it E) (λE ds=>Jk t B ds E)=some r:=hr;rcases jx7 hr with⟨E1,ds,h1,h2⟩|⟨E1,c,h1,rfl⟩
 rotate_left
 ·exact⟨E,L,_,m,w,h1,k.xc,λE' s' z=>by cases z⟩
 refine⟨E,L,_,m,w,h1,(λ_ _ z=>by cases z),λE' ds' z J T L' H' m' w' st hz _ wk=>?_⟩;injection z with z1 z2;subst z1 z2;have iy:∀{H2:Hp} {L2:Ls},World Z.K H2 (L2++T.map some)->∀t∈T,t.ok Z.K H2:=λw2 t ht=>w2.ok t (lr9 _ (Xk ht))
 refine⟨λi n σ1 H1=>∃E1 L1,Mt E1 σ1 L1/\World Z.K H1 (L1++T.map some)/\Step H L H1 (L1++T.map some)/\Pn pn σ σ1/\Jk t B (ds.drop i) E1=some r/\i<=ds.length/\n=ds.length - i/\∀t∈T,Kp H' H1 t.as,⟨_,E1,L',m',w',st,Pn.refl,h2,Xv _,rfl,λ_ _=>Kp.of_same xJ⟩,?_⟩;rintro i n σ1 H1 ⟨E1,L1,m1,w1,gw,p1,f1,hi,rfl,pins⟩
 by_cases az:i<ds.length
 ·have hd:ds.drop i=ds[i]::ds.drop (i+1):=Yi az;rw [hd]at f1;unfold Jk at f1;cases bc:t.put ds[i] E1 with
  | none=>rw[bc]at f1;cases f1
  | some E2=>
   rw[bc]at f1;dsimp only at f1;refine .inr ⟨wk.go i H1 ⟨iy w1,pins⟩ az,fun σ2 H2=>∃E2 L2,Mt E2 σ2 L2/\World Z.K H2 (L2++T.map some)/\Step H L H2 (L2++T.map some)/\Pn pn σ σ2/\Jk t B (ds.drop (i+1)) E2=some r/\∀t∈T,Kp H' H2 t.as,fun σ2 H2 ⟨E2,L2,a1,a2,a3,a4,a5,a6⟩=>⟨ds.length - (i+1),by omega,E2,L2,a1,a2,a3,a4,a5,az,rfl,a6⟩,λv H2 hy=>?_⟩;obtain⟨z,zo,zd,zv,sm,ot,zas⟩:=wk.yld i H1 v H2 ds[i] ⟨iy w1,pins⟩ hy (X1 az);obtain⟨wz,sz⟩:=kq1 w1 wk.no sm ot zo zas;refine⟨E1,L1,z,E2,m1,wz.left,zo,zv,by rw[zd];exact bc,fun σ2 L2 p2 m2 w2 bg=>?_⟩;obtain⟨w3,cn⟩:=stay wz bg w2;have ix:Step H L H2 (L2++T.map some):=gw.trans (sz.trans cn);have m6:∀t∈T,Kp H' H2 t.as:=λt ht=>(pins t ht).trans (Kp.of_same sm)
   cases hB:B E2 with
   | none=>rw[hB]at f1;cases f1
   | some g=>
    rw[hB]at f1;refine⟨E2,L2,g,m2,w2,hB,?_⟩;have fin:∀{g:Fl},g=r->(∀ σ',D.nx σ'=D.nx σ')->FlP Z pn D σ2 H2 (L2++T.map some) g:=λe _=>e▸k.step ix (p1.trans p2)
    cases g with
    |nx E3=>
     intro σ3 L3 H3 p3 m3 w4 s3;obtain⟨w5,s5⟩:=stay w3 s3 w4;exact⟨E3,L3,m3,w5,ix.trans s5,(p1.trans p2).trans p3,f1,qj5 w3 wk.no s3 m6⟩
    |ct E3=>
     intro σ3 L3 H3 p3 m3 w4 s3;obtain⟨w5,s5⟩:=stay w3 s3 w4;exact⟨E3,L3,m3,w5,ix.trans s5,(p1.trans p2).trans p3,f1,qj5 w3 wk.no s3 m6⟩
    |bk E3=>
     have e:=oq9 f1;subst e;intro σ3 L3 H3 p3 m3 w4 s3;exact k σ3 L3 H3 ((p1.trans p2).trans p3) m3 w4 ((ix.trans Step.dropT).trans s3)
    |rt E3 x=>
     have e:=oq9 f1;subst e;intro y σ3 L3 H3 e1 e2 p3 m3 w4 s3;exact k y σ3 L3 H3 e1 e2 ((p1.trans p2).trans p3) m3 w4 ((ix.trans Step.dropT).trans s3)
    |xc E3 c=>
     have e:=oq9 f1;subst e;intro C σ3 L3 H3 hm p3 m3 w4 s3;exact k C σ3 L3 H3 hm ((p1.trans p2).trans p3) m3 w4 ((ix.trans Step.dropT).trans s3)
 ·have e:i=ds.length:=by omega
  subst e;rw[List.drop_length]at f1;cases oq9 f1;exact .inl ⟨wk.stop H1 ⟨iy w1,pins⟩,k σ1 L1 H1 p1 m1 w1.left (gw.trans Step.dropT)⟩
theorem wky(hp:PassesOwn (model X.prog X.w) X.A X.env X.xe)(hc:X.calm=true)(hi:QI X Z q tg it iter)(hg:QG X Z pn t tg)(hb:QSs X Z pn B ss)(hs:∀x,foldedSetIterable iter X.env x=pure x:=by intro _;rfl):QS X Z pn (qQ it t B) (.For tg iter ss [] pos):=vxx hp hc hi.D hg hb hs
end
mutual
def jw(h:Heap):D->Value->Prop
 |.non,u=>u=.none
 |.bl b,u=>u=.bool b
 |.int i,u=>∃t,u=.int i t
 |.str z,u=>∃t,u=.str z t
 |.tup ds,u=>∃a us,u=.ref a/\h.IsTuple a us.toArray/\CReps h ds us
 |.lst ds,u=>∃a us,u=.ref a/\h.IsList a us.toArray/\CReps h ds us
 |.dct _,_=>False
 |.obj _ _,_=>False
def CReps(h:Heap):List D->List Value->Prop
 |[],us=>us=[]
 |d::ds,us=>∃u r,us=u::r/\jw h d u/\CReps h ds r
end
theorem qjp{n:Nat}{k:List (D×D)}:D.flat n (.dct k)=false:=by cases n<;>simp[D.flat]
theorem qjo{n:Nat}{c:Str}{k:List (Str×D)}:D.flat n (.obj c k)=false:=by cases n<;>simp[D.flat]
section
variable {X:Cx}{pins:List (Addr×Obj)}{σ:L2.St}{H:Hp}{s:Shared}
mutual
theorem Qz(I:Inv X pins σ H s){g:Bool}:∀{n:Nat} {d:D} {v:V} {as:List Addr} {u:Value},RepL X.K H g d v as->d.flat n=true->RelV v u->jw s.heap d u
 | _,.non,_,_,_,h,_,r=>by
  unfold RepL at h;rw[h.1]at r;unfold jw;exact r
 | _,.bl _,_,_,_,h,_,r=>by
  unfold RepL at h;rw[h.1]at r;unfold jw;exact r
 | _,.int _,_,_,_,h,_,r=>by
  unfold RepL at h;rw[h.1]at r;unfold jw;exact r
 | _,.str _,_,_,_,h,_,r=>by
  unfold RepL at h;rw[h.1]at r;unfold jw;exact r
 | 0,.tup ds,_,_,_,h,f,r=>by unfold D.flat at f;cases f
 | n+1,.tup ds,_,_,_,h,f,r=>by
  unfold RepL at h;unfold D.flat at f;obtain⟨a,xs,rfl,q,ra⟩:=h;cases r;obtain⟨a9,rv,p,_⟩:=I.tuple q;unfold jw;exact⟨a,a9,rfl,p,creps_of I ra f rv⟩
 | 0,.lst ds,_,_,_,h,f,r=>by unfold D.flat at f;cases f
 | n+1,.lst ds,_,_,_,h,f,r=>by
  unfold RepL at h;unfold D.flat at f;obtain⟨a,xs,bs,rfl,ra,q⟩:=h;cases r;have q':SqL X.K H a xs:=by
   rcases q with⟨q,_⟩|⟨_,q,_⟩
   ·exact SqL.of q
   ·exact(LsR.of q).sq
  obtain⟨a9,rv,p,_⟩:=I.list q';unfold jw;exact⟨a,a9,rfl,p.isList,creps_of I ra f rv⟩
 |_,.dct _,_,_,_,h,f,r=>by rw[qjp]at f;cases f
 |_,.obj _ _,_,_,_,h,f,r=>by rw[qjo]at f;cases f
theorem creps_of(I:Inv X pins σ H s){g:Bool}:∀{n:Nat} {ds:List D} {xs:List V} {as:List Addr} {us:List Value},RepA X.K H g ds xs as->D.flats n ds=true->Vals xs us->CReps s.heap ds us
 | _,[],_,_,_,h,_,r=>by
  unfold RepA at h;rw[h.1]at r;cases r;unfold CReps;rfl
 | n,d::ds,_,_,_,h,f,r=>by
  unfold RepA at h;unfold D.flats at f;rw[Bool.and_eq_true]at f;obtain⟨x,rr,bs,cs,rfl,rfl,h1,h2⟩:=h;cases r with
  |cons r1 r2=>
   unfold CReps;exact⟨_,_,rfl,Qz I h1 f.1 r1,creps_of I h2 f.2 r2⟩
end
end
theorem CReps.len{h:Heap}:∀{ds:List D} {us:List Value},CReps h ds us->ds.length=us.length
 |[],_,r=>by unfold CReps at r;rw[r];rfl
 |d::ds,_,r=>by
  unfold CReps at r;obtain⟨u,rr,rfl,_,h2⟩:=r;simp[CReps.len h2]
theorem CReps.get{h:Heap}:∀{ds:List D} {us:List Value} {j:Nat} {d:D},CReps h ds us->ds[j]?=some d->∃u,us[j]?=some u/\jw h d u
 | [],_,_,_,_,e=>by simp at e
 | d::ds,_,j,d',r,e=>by
  unfold CReps at r;obtain⟨u,rr,rfl,h1,h2⟩:=r;cases j with
  |zero=>
   have e:d=d':=by simpa using e
   subst e;exact⟨u,by simp,h1⟩
  |succ j=>
   obtain⟨w,e1,e2⟩:=CReps.get (j:=j) h2 (by simpa using e);exact⟨w,by simpa using e1,e2⟩
theorem vkw{h:Heap}{a:Addr}{x y:Array Value}(p:h.IsTuple a x)(q:h.IsTuple a y):x=y:=by
 obtain⟨o,h1,_,n,h2⟩:=p;obtain⟨o',h3,_,n',h4⟩:=q;rw[h1]at h3;cases h3;rw[h2]at h4;injection h4
theorem vvh{h:Heap}{a:Addr}{x y:Array Value}(p:h.IsList a x)(q:h.IsList a y):x=y:=by
 obtain⟨o,h1,_,n,h2⟩:=p;obtain⟨o',h3,_,n',h4⟩:=q;rw[h1]at h3;cases h3;rw[h2]at h4;injection h4
theorem qvp{h:Heap}{a:Addr}{x y:Array Value}(p:h.IsList a x)(q:h.IsTuple a y):False:=by
 obtain⟨o,h1,h2,_⟩:=p;obtain⟨o',h3,h4,_⟩:=q;rw[h1]at h3;cases h3;rw[h2]at h4;exact absurd (Value.type.inj h4) (by decide)
mutual
theorem jzy{h:Heap}:∀{d d':D} {u:Value},jw h d u->jw h d' u->d=d'
 | .non,d',u,a,b=>by
  unfold jw at a;subst a;cases d'<;>unfold jw at b<;>first|rfl|exact b.elim|(cases b;done)|(obtain⟨_,b⟩:=b;cases b;done)|(obtain⟨_,_,b,_⟩:=b;cases b)
 | .bl k,d',u,a,b=>by
  unfold jw at a;subst a;cases d'<;>unfold jw at b<;>first|exact b.elim|(cases b;rfl)|(cases b;done)|(obtain⟨_,b⟩:=b;cases b;done)|(obtain⟨_,_,b,_⟩:=b;cases b)
 | .int k,d',u,a,b=>by
  unfold jw at a;obtain⟨t,rfl⟩:=a;cases d'<;>unfold jw at b<;>first|exact b.elim|(cases b;done)|(obtain⟨_,b⟩:=b;cases b;rfl)|(obtain⟨_,b⟩:=b;cases b;done)|(obtain⟨_,_,b,_⟩:=b;cases b)
 | .str k,d',u,a,b=>by
  unfold jw at a;obtain⟨t,rfl⟩:=a;cases d'<;>unfold jw at b<;>first|exact b.elim|(cases b;done)|(obtain⟨_,b⟩:=b;cases b;rfl)|(obtain⟨_,b⟩:=b;cases b;done)|(obtain⟨_,_,b,_⟩:=b;cases b)
 | .tup ds,d',u,a,b=>by
  unfold jw at a;obtain⟨x,us,rfl,p,r⟩:=a;cases d' with
  |tup es=>
   unfold jw at b;obtain⟨y,ws,e,p',r'⟩:=b;cases e;have e2:us=ws:=by simpa using vkw p p'
   subst e2;rw[creps_inj r r']
  |lst es=>
   unfold jw at b;obtain⟨y,ws,e,p',r'⟩:=b;cases e;exact(qvp p' p).elim
  |non=>unfold jw at b;cases b
  |bl k=>unfold jw at b;cases b
  |int k=>unfold jw at b;obtain⟨_,b⟩:=b;cases b
  |str k=>unfold jw at b;obtain⟨_,b⟩:=b;cases b
  |dct k=>unfold jw at b;exact b.elim
  |obj k l=>unfold jw at b;exact b.elim
 | .lst ds,d',u,a,b=>by
  unfold jw at a;obtain⟨x,us,rfl,p,r⟩:=a;cases d' with
  |lst es=>
   unfold jw at b;obtain⟨y,ws,e,p',r'⟩:=b;cases e;have e2:us=ws:=by simpa using vvh p p'
   subst e2;rw[creps_inj r r']
  |tup es=>
   unfold jw at b;obtain⟨y,ws,e,p',r'⟩:=b;cases e;exact(qvp p p').elim
  |non=>unfold jw at b;cases b
  |bl k=>unfold jw at b;cases b
  |int k=>unfold jw at b;obtain⟨_,b⟩:=b;cases b
  |str k=>unfold jw at b;obtain⟨_,b⟩:=b;cases b
  |dct k=>unfold jw at b;exact b.elim
  |obj k l=>unfold jw at b;exact b.elim
 |.dct k,_,_,a,_=>by unfold jw at a;exact a.elim
 |.obj k l,_,_,a,_=>by unfold jw at a;exact a.elim
theorem creps_inj{h:Heap}:∀{ds ds':List D} {us:List Value},CReps h ds us->CReps h ds' us->ds=ds'
 | [],ds',us,a,b=>by
  unfold CReps at a;subst a;cases ds' with
  |nil=>rfl
  |cons d ds=>unfold CReps at b;obtain⟨_,_,e,_⟩:=b;cases e
 | d::ds,ds',us,a,b=>by
  unfold CReps at a;obtain⟨u,r,rfl,h1,h2⟩:=a;cases ds' with
  |nil=>unfold CReps at b;cases b
  |cons d' ds'=>
   unfold CReps at b;obtain⟨u',r',e,h3,h4⟩:=b;cases e;rw[jzy h1 h3,creps_inj h2 h4]
end
mutual
theorem Yv:∀{n:Nat} {d:D},d.flat n=true->peq d d=true
 |_,.non,_=>by unfold peq;rfl
 |_,.bl b,_=>by unfold peq;simp
 |_,.int b,_=>by unfold peq;simp
 |_,.str b,_=>by unfold peq;simp
 |0,.tup ds,f=>by unfold D.flat at f;cases f
 |n+1,.tup ds,f=>by unfold peq;unfold D.flat at f;exact peqs_refl f
 |0,.lst ds,f=>by unfold D.flat at f;cases f
 |n+1,.lst ds,f=>by unfold peq;unfold D.flat at f;exact peqs_refl f
 |_,.dct _,f=>by rw[qjp]at f;cases f
 |_,.obj _ _,f=>by rw[qjo]at f;cases f
theorem peqs_refl:∀{n:Nat} {d:List D},D.flats n d=true->peqs d d=true
 |_,[],_=>by unfold peqs;rfl
 |n,d::ds,f=>by
  unfold D.flats at f;rw[Bool.and_eq_true]at f;unfold peqs;rw[Yv f.1,peqs_refl f.2];rfl
end
theorem jxd : ∀{n : Nat} {ds : List D} {j : Nat} {d : D}, D.flats n ds = true -> ds[j]? = some d -> d.flat n = true
  | _, [], _, _, _, e=>by simp at e
  | n, d::ds, j, d', f, e=>by
    unfold D.flats at f;rw[Bool.and_eq_true]at f;cases j with
    | zero => have e : d = d':= by simpa using e
              subst e; exact f.1
    |succ j=>exact jxd (j:= j) f.2 (by simpa using e)
def pAt(as bs:List D)(j:Nat):Bool:=match as[j]?,bs[j]? with
 |some a,some b=>peq a b
 |_,_=>true
theorem jwc:∀(as bs:List D),as.length=bs.length->(List.range as.length).all (pAt as bs)=peqs as bs
 |[],[],_=>by unfold peqs;rfl
 |a::as,b::bs,h=>by
  have ih:=jwc as bs (by simpa using h);rw[Xl,List.range_succ_eq_map,List.all_cons,List.all_map];unfold peqs;rw[<-ih];rfl
 |[],_::_,h=>by simp at h
 |_::_,[],h=>by simp at h
theorem jzu:∀(as bs:List D),as.length≠bs.length->peqs as bs=false
 |[],[],h=>by simp at h
 |a::as,b::bs,h=>by
  unfold peqs;rw[jzu as bs (by simpa using h),Bool.and_false]
 |[],_::_,_=>by unfold peqs;rfl
 |_::_,[],_=>by unfold peqs;rfl
theorem kzp(as bs:List D):((List.range (min as.length bs.length)).all (pAt as bs)&&as.length==bs.length)=peqs as bs:=by
 by_cases e:as.length=bs.length
 ·rw[<-e,Nat.min_self,jwc as bs e];simp[e]
 ·rw[jzu as bs e];have:(as.length==bs.length)=false:=by simpa using e
  rw[this,Bool.and_false]
section
variable {s:Shared}
theorem kxp{as bs:List D}{us ws:List Value}{A:Around}(ra:CReps s.heap as us)(rb:CReps s.heap bs ws)
  (h:∀(j:Nat) (d d':D) (u w:Value),as[j]?=some d->bs[j]?=some d'->jw s.heap d u->jw s.heap d' w->SeqAt.EqAt A s u w (peq d d')):
  ∀j (h1:j<us.toArray.size) (h2:j<ws.toArray.size),SeqAt.EqAt A s us.toArray[j] ws.toArray[j] (pAt as bs j):=λj h1 h2=>by
 have l1:=ra.len;have l2:=rb.len;simp only[X7]at h1 h2;have ha:j<as.length:=by omega
 have hb:j<bs.length:=by omega
 obtain⟨u,eu,ru⟩:=ra.get (X1 ha);obtain⟨w,ew,oz⟩:=rb.get (X1 hb);have e1:us.toArray[j]=u:=by
  obtain⟨_,q⟩:=List.getElem?_eq_some_iff.mp eu
  simpa using q
 have e2:ws.toArray[j]=w:=by
  obtain⟨_,q⟩:=List.getElem?_eq_some_iff.mp ew
  simpa using q
 have e3:pAt as bs j=peq as[j] bs[j]:=by
  unfold pAt;rw[X1 ha,X1 hb]
 rw[e1,e2,e3];exact h j _ _ u w (X1 ha) (X1 hb) ru oz
inductive Cv (h:Heap):D->Value->Prop
 |non:Cv h .non .none
 |bl (b:Bool):Cv h (.bl b) (.bool b)
 |int (i:Int) (t:_):Cv h (.int i) (.int i t)
 |str (z:Str) (t:_):Cv h (.str z) (.str z t)
 |lst {ds:List D} {a:Addr} {us:List Value} (p:h.IsList a us.toArray) (q:CReps h ds us):Cv h (.lst ds) (.ref a)
 |tup {ds:List D} {a:Addr} {us:List Value} (p:h.IsTuple a us.toArray) (q:CReps h ds us):Cv h (.tup ds) (.ref a)
theorem crv{h:Heap}{d:D}{u:Value}(r:jw h d u):Cv h d u:=by
 cases d<;>unfold jw at r
 all_goals first|exact r.elim|(subst r;constructor)|(obtain⟨_,rfl⟩:=r;constructor)|(obtain⟨_,_,rfl,p,q⟩:=r;first|exact .lst p q|exact .tup p q)
theorem vxi{A:Around}{d d':D}{u w:Value}(hu:A.units<cLine)(r:jw s.heap d u)(r':jw s.heap d' w)
  (el:∀(as bs:List D) (us ws:List Value),(d=.lst as\/d=.tup as)->(d'=.lst bs\/d'=.tup bs)->CReps s.heap as us->CReps s.heap bs ws->∀j (h1:j<us.toArray.size) (h2:j<ws.toArray.size),SeqAt.EqAt A.in1 s us.toArray[j] ws.toArray[j] (pAt as bs j)):
  SeqAt.RcAt A s u w (peq d d'):=by
 cases crv r<;>cases crv r'<;>unfold peq
 ·exact SeqAt.RcAt.none_none
 ·exact SeqAt.RcAt.none_bool _
 ·exact SeqAt.RcAt.none_int _ _
 ·exact SeqAt.RcAt.none_str _ _
 ·exact SeqAt.RcAt.none_list ‹_› hu
 ·exact SeqAt.RcAt.none_tuple ‹_› hu
 ·exact SeqAt.RcAt.bool_none _
 ·exact SeqAt.RcAt.bool_bool _ _
 ·exact SeqAt.RcAt.bool_int _ _ _
 ·exact SeqAt.RcAt.bool_str _ _ _
 ·exact SeqAt.RcAt.bool_list _ ‹_› hu
 ·exact SeqAt.RcAt.bool_tuple _ ‹_› hu
 ·exact SeqAt.RcAt.int_none _ _
 ·exact SeqAt.RcAt.int_bool _ _ _
 ·exact SeqAt.RcAt.int_int _ _ _ _
 ·exact SeqAt.RcAt.int_str _ _ _ _
 ·exact SeqAt.RcAt.int_list _ _ ‹_› hu
 ·exact SeqAt.RcAt.int_tuple _ _ ‹_› hu
 ·exact SeqAt.RcAt.str_none _ _
 ·exact SeqAt.RcAt.str_bool _ _ _
 ·exact SeqAt.RcAt.str_int _ _ _ _
 ·exact SeqAt.RcAt.str_str _ _ _ _
 ·exact SeqAt.RcAt.str_list _ _ ‹_› hu
 ·exact SeqAt.RcAt.str_tuple _ _ ‹_› hu
 ·exact SeqAt.RcAt.list_none ‹_› hu
 ·exact SeqAt.RcAt.list_bool _ ‹_› hu
 ·exact SeqAt.RcAt.list_int _ _ ‹_› hu
 ·exact SeqAt.RcAt.list_str _ _ ‹_› hu
 ·rename_i as a us p ra bs b ws p' rb;have l1:=ra.len;have l2:=rb.len
  by_cases hl:as.length=bs.length
  ·rw[<-jwc as bs hl];have z:=SeqAt.RcAt.lists (A:=A) (s:=s) (e:=pAt as bs) p p' (by simp only[X7];omega) hu (el as bs us ws (.inl rfl) (.inl rfl) ra rb);rw[X7,<-l1]at z;exact z
  ·rw[jzu as bs hl];exact SeqAt.RcAt.lists_lengths p p' (by simp only[X7,bne_iff_ne];omega) hu
 ·exact SeqAt.RcAt.list_tuple ‹_› ‹_› hu
 ·exact SeqAt.RcAt.tuple_none ‹_› hu
 ·exact SeqAt.RcAt.tuple_bool _ ‹_› hu
 ·exact SeqAt.RcAt.tuple_int _ _ ‹_› hu
 ·exact SeqAt.RcAt.tuple_str _ _ ‹_› hu
 ·exact SeqAt.RcAt.tuple_list ‹_› ‹_› hu
 ·rename_i as a us p ra bs b ws p' rb;have l1:=ra.len;have l2:=rb.len;rw[<-kzp as bs];have z:=SeqAt.RcAt.tuples (A:=A) (s:=s) (e:=pAt as bs) p p' hu (el as bs us ws (.inr rfl) (.inr rfl) ra rb);rw[X7,X7,<-l1,<-l2]at z;exact z
theorem wkt{A:Around}{d d':D}{u w:Value}(hu:A.units<cLine)(r:jw s.heap d u)(r':jw s.heap d' w)
  (el:∀(as bs:List D) (us ws:List Value),(d=.lst as\/d=.tup as)->(d'=.lst bs\/d'=.tup bs)->CReps s.heap as us->CReps s.heap bs ws->∀j (h1:j<us.toArray.size) (h2:j<ws.toArray.size),SeqAt.EqAt A.in1 s us.toArray[j] ws.toArray[j] (pAt as bs j)):
  SeqAt.RcNeAt A s u w (!peq d d'):=by
 cases crv r<;>cases crv r'<;>unfold peq
 ·exact SeqAt.RcNeAt.none_none
 ·exact SeqAt.RcNeAt.none_bool _
 ·exact SeqAt.RcNeAt.none_int _ _
 ·exact SeqAt.RcNeAt.none_str _ _
 ·exact SeqAt.RcNeAt.none_list ‹_› hu
 ·exact SeqAt.RcNeAt.none_tuple ‹_› hu
 ·exact SeqAt.RcNeAt.bool_none _
 ·exact SeqAt.RcNeAt.bool_bool _ _
 ·exact SeqAt.RcNeAt.bool_int _ _ _
 ·exact SeqAt.RcNeAt.bool_str _ _ _
 ·exact SeqAt.RcNeAt.bool_list _ ‹_› hu
 ·exact SeqAt.RcNeAt.bool_tuple _ ‹_› hu
 ·exact SeqAt.RcNeAt.int_none _ _
 ·exact SeqAt.RcNeAt.int_bool _ _ _
 ·exact SeqAt.RcNeAt.int_int _ _ _ _
 ·exact SeqAt.RcNeAt.int_str _ _ _ _
 ·exact SeqAt.RcNeAt.int_list _ _ ‹_› hu
 ·exact SeqAt.RcNeAt.int_tuple _ _ ‹_› hu
 ·exact SeqAt.RcNeAt.str_none _ _
 ·exact SeqAt.RcNeAt.str_bool _ _ _
 ·exact SeqAt.RcNeAt.str_int _ _ _ _
 ·exact SeqAt.RcNeAt.str_str _ _ _ _
 ·exact SeqAt.RcNeAt.str_list _ _ ‹_› hu
 ·exact SeqAt.RcNeAt.str_tuple _ _ ‹_› hu
 ·exact SeqAt.RcNeAt.list_none ‹_› hu
 ·exact SeqAt.RcNeAt.list_bool _ ‹_› hu
 ·exact SeqAt.RcNeAt.list_int _ _ ‹_› hu
 ·exact SeqAt.RcNeAt.list_str _ _ ‹_› hu
 ·rename_i as a us p ra bs b ws p' rb;have l1:=ra.len;have l2:=rb.len
  by_cases hl:as.length=bs.length
  ·rw[<-jwc as bs hl];have z:=SeqAt.RcNeAt.lists (A:=A) (s:=s) (e:=pAt as bs) p p' (by simp only[X7];omega) hu (el as bs us ws (.inl rfl) (.inl rfl) ra rb);rw[X7,<-l1]at z;exact z
  ·rw[jzu as bs hl];exact SeqAt.RcNeAt.lists_lengths p p' (by simp only[X7,bne_iff_ne];omega) hu
 ·exact SeqAt.RcNeAt.list_tuple ‹_› ‹_› hu
 ·exact SeqAt.RcNeAt.tuple_none ‹_› hu
 ·exact SeqAt.RcNeAt.tuple_bool _ ‹_› hu
 ·exact SeqAt.RcNeAt.tuple_int _ _ ‹_› hu
 ·exact SeqAt.RcNeAt.tuple_str _ _ ‹_› hu
 ·exact SeqAt.RcNeAt.tuple_list ‹_› ‹_› hu
 ·rename_i as a us p ra bs b ws p' rb;have l1:=ra.len;have l2:=rb.len;rw[<-kzp as bs];have z:=SeqAt.RcNeAt.tuples (A:=A) (s:=s) (e:=pAt as bs) p p' hu (el as bs us ws (.inr rfl) (.inr rfl) ra rb);rw[X7,X7,<-l1,<-l2]at z;exact z
theorem kva{A:Around}{a a':Addr}{b:Bool}(nv:Value.ref a=Value.ref a'->b=true)(rc:SeqAt.RcAt A s (.ref a) (.ref a') b):SeqAt.EqAt A s (.ref a) (.ref a') b:=by
 by_cases e:a=a'
 ·subst e;rw[nv rfl];exact SeqAt.EqAt.same _
 ·exact SeqAt.EqAt.of_refs e rc
theorem vj5{A:Around}{d d':D}{u w:Value}(hu:A.units<cLine)(r:jw s.heap d u)(r':jw s.heap d' w)(nv:u=w->peq d d'=true)(rc:SeqAt.RcAt A s u w (peq d d')):SeqAt.EqAt A s u w (peq d d'):=by
 cases crv r<;>cases crv r'<;>try unfold peq
 ·exact SeqAt.EqAt.same _
 ·exact SeqAt.EqAt.none_bool _
 ·exact SeqAt.EqAt.none_int _ _
 ·exact SeqAt.EqAt.none_str _ _
 ·exact SeqAt.EqAt.none_list ‹_› hu
 ·exact SeqAt.EqAt.none_tuple ‹_› hu
 ·exact SeqAt.EqAt.bool_none _
 ·exact SeqAt.EqAt.bool_bool _ _
 ·exact SeqAt.EqAt.bool_int _ _ _
 ·exact SeqAt.EqAt.bool_str _ _ _
 ·exact SeqAt.EqAt.bool_list _ ‹_› hu
 ·exact SeqAt.EqAt.bool_tuple _ ‹_› hu
 ·exact SeqAt.EqAt.int_none _ _
 ·exact SeqAt.EqAt.int_bool _ _ _
 ·exact SeqAt.EqAt.int_int _ _ _ _
 ·exact SeqAt.EqAt.int_str _ _ _ _
 ·exact SeqAt.EqAt.int_list _ _ ‹_› hu
 ·exact SeqAt.EqAt.int_tuple _ _ ‹_› hu
 ·exact SeqAt.EqAt.str_none _ _
 ·exact SeqAt.EqAt.str_bool _ _ _
 ·exact SeqAt.EqAt.str_int _ _ _ _
 ·exact SeqAt.EqAt.str_str _ _ _ _
 ·exact SeqAt.EqAt.str_list _ _ ‹_› hu
 ·exact SeqAt.EqAt.str_tuple _ _ ‹_› hu
 ·exact SeqAt.EqAt.list_none ‹_› hu
 ·exact SeqAt.EqAt.list_bool _ ‹_› hu
 ·exact SeqAt.EqAt.list_int _ _ ‹_› hu
 ·exact SeqAt.EqAt.list_str _ _ ‹_› hu
 ·exact kva nv rc
 ·exact kva nv rc
 ·exact SeqAt.EqAt.tuple_none ‹_› hu
 ·exact SeqAt.EqAt.tuple_bool _ ‹_› hu
 ·exact SeqAt.EqAt.tuple_int _ _ ‹_› hu
 ·exact SeqAt.EqAt.tuple_str _ _ ‹_› hu
 ·exact kva nv rc
 ·exact kva nv rc
theorem W4:∀(n:Nat) {d d':D} {u w:Value} {A:Around},d.flat n=true->jw s.heap d u->jw s.heap d' w->A.units+n<cLine->SeqAt.EqAt A s u w (peq d d')
 | n,d,d',u,w,A,f,r,r',hu=>by
  refine vj5 (by omega) r r' (λe=>?_) (vxi (by omega) r r' λas bs us ws h1 h2 ra rb=>?_)
  rotate_left
  ·cases n with
   |zero=>rcases h1 with rfl|rfl<;>(unfold D.flat at f;cases f)
   |succ n=>
    have fs:D.flats n as=true:=by rcases h1 with rfl|rfl<;>(unfold D.flat at f;exact f)
    exact kxp ra rb λj d d' u w e1 e2 q1 q2=>W4 n (jxd fs e1) q1 q2 (by have:=L3.in1_units A;omega)
  ·subst e;rw[jzy r' r];exact Yv f
end
section
variable {X:Cx}{Z:Fx0}{K:PySem.W.Frag}
def wvo(K:PySem.W.Frag):R2:=λx y H Q=>∃d d' as bs,RepL K H true d x as/\RepL K H true d' y bs/\d.flat 40=true/\d'.flat 40=true/\Q (.bl (peq d d')) H
def wvi(K:PySem.W.Frag):R2:=λx y H Q=>∃d d' as bs,RepL K H true d x as/\RepL K H true d' y bs/\d.flat 40=true/\d'.flat 40=true/\Q (.bl (!peq d d')) H
theorem v7(hu:X.A.units+64<cLine)(hK:X.K=K:=by rfl):OpR X (compareOp .Eq) (wvo K):=by
 subst hK;intro pins s σ H x y v u Q I rx ry h;obtain⟨d,d',as,bs,h1,h2,f1,f2,q⟩:=h;have c1:=Qz I h1 f1 rx;have c2:=Qz I h2 f2 ry;refine vxi (by omega) c1 c2 (λas bs us ws e1 e2 ra rb=>kxp ra rb λj d d' u w e3 e4 q1 q2=>?_) _ _ _ _ ⟨.bl _,H,I,rfl,q⟩;have fs:D.flats 39 as=true:=by rcases e1 with rfl|rfl<;>(unfold D.flat at f1;exact f1)
 exact W4 39 (jxd fs e3) q1 q2 (by have:=L3.in1_units X.A;omega)
theorem wqc(hu:X.A.units+64<cLine)(hK:X.K=K:=by rfl):OpR X (compareOp .NotEq) (wvi K):=by
 subst hK;intro pins s σ H x y v u Q I rx ry h;obtain⟨d,d',as,bs,h1,h2,f1,f2,q⟩:=h;have c1:=Qz I h1 f1 rx;have c2:=Qz I h2 f2 ry;refine wkt (by omega) c1 c2 (λas bs us ws e1 e2 ra rb=>kxp ra rb λj d d' u w e3 e4 q1 q2=>?_) _ _ _ _ ⟨.bl _,H,I,rfl,q⟩;have fs:D.flats 39 as=true:=by rcases e1 with rfl|rfl<;>(unfold D.flat at f1;exact f1)
 exact W4 39 (jxd fs e3) q1 q2 (by have:=L3.in1_units X.A;omega)
theorem vj:Ad2 K (wvo K) (pu2 fEq):=by
 intro H x y s Q ox oy hf k;unfold pu2 fEq at hf;dsimp only at hf
 by_cases hc:(x.d.flat 40&&y.d.flat 40)=true
 ·rw[Xb hc]at hf;rw[Bool.and_eq_true]at hc;cases oq9 hf;exact⟨x.d,y.d,x.as,y.as,RepO.wk ox,RepO.wk oy,hc.1,hc.2,k ⟨.dp,.bl _,.bl _,[]⟩ H rfl rfl xv⟩
 ·rw[Xe hc]at hf;cases hf
theorem wv5:Ad2 K (wvi K) (pu2 fNe):=by
 intro H x y s Q ox oy hf k;unfold pu2 fNe at hf;dsimp only at hf
 by_cases hc:(x.d.flat 40&&y.d.flat 40)=true
 ·rw[Xb hc]at hf;rw[Bool.and_eq_true]at hc;cases oq9 hf;exact⟨x.d,y.d,x.as,y.as,RepO.wk ox,RepO.wk oy,hc.1,hc.2,k ⟨.dp,.bl _,.bl _,[]⟩ H rfl rfl xv⟩
 ·rw[Xe hc]at hf;cases hf
end
end Q
namespace Q
open PySem PySem.Spec PyProof.Rows L2 L3
mutual
def YY:D->Nat
 |.tup xs=>drwDs xs+1
 |_=>1
def drwDs:List D->Nat
 |[]=>0
 |a::x=>YY a+drwDs x
end
mutual
theorem qjh:∀{n:Nat} {d:D},jX n d=true->d.flat n=true
 |n,.non,_=>by cases n<;>rfl
 |n,.bl _,h=>by cases n<;>(unfold jX at h;cases h)
 |n,.int _,_=>by cases n<;>rfl
 |n,.str _,h=>by cases n<;>(unfold jX at h;cases h)
 |0,.tup _,h=>by unfold jX at h;cases h
 |n+1,.tup xs,h=>by unfold jX at h;unfold D.flat;exact keys_flat h
 |n,.lst _,h=>by cases n<;>(unfold jX at h;cases h)
 |n,.dct _,h=>by cases n<;>(unfold jX at h;cases h)
 |n,.obj _ _,h=>by cases n<;>(unfold jX at h;cases h)
theorem keys_flat:∀{n:Nat} {ds:List D},keyDs n ds=true->D.flats n ds=true
 |_,[],_=>by unfold D.flats;rfl
 |n,a::x,h=>by
  unfold keyDs at h;rw[Bool.and_eq_true]at h;unfold D.flats;rw[qjh h.1,keys_flat h.2];rfl
end
mutual
theorem qw5:∀{n m:Nat} {a b:D},jX n a=true->jX m b=true->peq a b=decide (a=b)
 | n,m,.non,b,_,hb=>by
  cases b with
  | non=>simp[peq]
  | int _=>simp[peq]
  | tup _=>simp[peq]
  | _=>cases m<;>(unfold jX at hb;cases hb)
 | n,m,.int i,b,_,hb=>by
  cases b with
  | non=>simp[peq]
  | int j=>by_cases h:i=j<;>simp[peq,h]
  | tup _=>simp[peq]
  | _=>cases m<;>(unfold jX at hb;cases hb)
 | 0,_,.tup _,_,ha,_=>by unfold jX at ha;cases ha
 | n+1,m,.tup xs,b,ha,hb=>by
  cases b with
  | non=>simp[peq]
  | int j=>simp[peq]
  | tup ys=>
   cases m with
   |zero=>unfold jX at hb;cases hb
   |succ m=>
    unfold jX at ha hb;have:=keys_peq ha hb;rw[show peq (.tup xs) (.tup ys)=peqs xs ys by simp[peq],this]
    by_cases h:xs=ys<;>simp[h]
  |_=>cases m<;>(unfold jX at hb;cases hb)
 |n,_,.bl _,_,ha,_=>by cases n<;>(unfold jX at ha;cases ha)
 |n,_,.str _,_,ha,_=>by cases n<;>(unfold jX at ha;cases ha)
 |n,_,.lst _,_,ha,_=>by cases n<;>(unfold jX at ha;cases ha)
 |n,_,.dct _,_,ha,_=>by cases n<;>(unfold jX at ha;cases ha)
 |n,_,.obj _ _,_,ha,_=>by cases n<;>(unfold jX at ha;cases ha)
theorem keys_peq:∀{n m:Nat} {a b:List D},keyDs n a=true->keyDs m b=true->peqs a b=decide (a=b)
 |_,_,[],[],_,_=>by simp[peqs]
 |_,_,[],_::_,_,_=>by simp[peqs]
 |_,_,_::_,[],_,_=>by simp[peqs]
 |n,m,a::x,b::y,ha,hb=>by
  unfold keyDs at ha hb;rw[Bool.and_eq_true]at ha hb;rw[show peqs (a::x) (b::y)=(peq a b&&peqs x y)by simp[peqs],qw5 ha.1 hb.1,keys_peq ha.2 hb.2]
  by_cases h1:a=b<;>by_cases h2:x=y<;>simp[h1,h2]
end
section
variable {prog:Program}{w:PySem.World}{A:Around}{E:Value->Shared->Prop}{s:Shared}
theorem qjk{Q:Int->Shared->Prop}(h:Q 4238894112 { s with toks:=s.toks+1 }):wpAny (model prog w) A (pyHash .none) Q E s:=by
 have ty:s.TypeIs Value.none "NoneType":=rfl;unfold pyHash;unfold pyHashByItsType;refine X0 ?_;rw[cRoomFor,Xe (show ¬([Value.none].any Value.onHeap)=true by decide)];refine X4 (X0 (wpAny_specialOf ty F.slot_NoneType_hash.lookup ?_));show wpAny _ _ (if(some (Value.builtin "NoneType.__hash__")==some Value.none)=true then _ else _) Q E s;rw[Xe (show ¬(some (Value.builtin "NoneType.__hash__")==some Value.none)=true by rw[beq_builtin_none];exact Bool.false_ne_true)];refine X0 (wpAny_specialOf ty F.slot_NoneType_hash.lookup ?_);show wpAny _ _ (callSpecialIfBoundUnlessNone? Value.none "__hash__" _ >>= _) Q E s;refine X0 (wpAny_callSpecialIfBoundUnlessNone?_slot ty F.slot_NoneType_hash (Yd F.slot_NoneType_hash ty F.entry_NoneType_hash ?_ (F.args_NoneType_hash_1 _)));show wpAny _ _ (retInt 4238894112) _ _ s;refine wpAny_ret_mkInt ?_;show wpAny _ _ (if(decide (-(2:Int) ^ 63<=(4238894112:Int))&&decide ((4238894112:Int)<2 ^ 63))=true then _ else _) Q E _;rw[Xb (by decide)];exact X4 h
theorem kjp{d:D}:∀ds:List D,hashDs (ds++[d])=hashDs ds++[Kk d]
 |[]=>by simp[hashDs]
 |a::x=>by rw[List.cons_append,hashDs,hashDs,kjp x];rfl
theorem kq4{d:D}:∀ds:List D,drwDs (ds++[d])=drwDs ds+YY d
 |[]=>by simp[drwDs]
 |a::x=>by rw[List.cons_append,drwDs,drwDs,kq4 x];omega
theorem wjh:∀(n:Nat) {d:D} {u:Value} {A:Around} {s:Shared} {Q:Int->Shared->Prop},jX n d=true->jw s.heap d u->A.units+4*n<cLine->Q (Kk d) { s with toks:=s.toks+YY d }->wpAny (model prog w) A (pyHash u) Q E s:=by
 intro n
 induction n with
 | zero=>
  intro d u A s Q hk hr hu h;cases d with
  | non=>unfold jw at hr;subst hr;exact qjk h
  | int i=>unfold jw at hr;obtain⟨t,rfl⟩:=hr;exact wpAny_pyHash_int h
  | _=>unfold jX at hk;cases hk
 | succ n ih=>
  intro d u A s Q hk hr hu h;cases d with
  | non=>unfold jw at hr;subst hr;exact qjk h
  | int i=>unfold jw at hr;obtain⟨t,rfl⟩:=hr;exact wpAny_pyHash_int h
  | tup ds=>
   unfold jX at hk;unfold jw at hr;obtain⟨a,us,rfl,ht,hi⟩:=hr;have ty:=ht.typeIs;obtain⟨ob,gq,f7,nn,my⟩:=ht;unfold pyHash;unfold pyHashByItsType;refine X0 (wpAny_cRoomFor_or (.inr (by omega)) ?_);refine X0 (wpAny_specialOf ty F.slot_tuple_hash.lookup ?_);show wpAny _ _ (if(some (Value.builtin "tuple.__hash__")==some Value.none)=true then _ else _) Q E s;rw [Xe (show ¬(some (Value.builtin "tuple.__hash__")==some Value.none)=true by rw[beq_builtin_none];exact Bool.false_ne_true)];refine X0 (wpAny_specialOf ty F.slot_tuple_hash.lookup ?_);show wpAny _ _ (callSpecialIfBoundUnlessNone? (Value.ref a) "__hash__" _ >>= _) Q E s;refine X0 (wpAny_callSpecialIfBoundUnlessNone?_slot ty F.slot_tuple_hash (Yd F.slot_tuple_hash ty F.entry_tuple_hash ?_ (F.args_tuple_hash_1 _)));show wpAny _ _ (Builtin.Tuple.tupleItemsOf (Value.ref a) >>= _) _ _ s;refine X0 (wpAny_tupleItemsOf gq my ?_);refine X0 ?_;rw [<-Array.forIn_toList];refine wpAny_forIn_list _ (λrest (b:Array Int) s'=>∃pre post,ds=pre++post/\keyDs n post=true/\CReps s.heap post rest/\b.toList=hashDs pre/\s'={ s with toks:=s.toks+drwDs pre }) _ ?_ ?_ _ _ ⟨[],ds,rfl,hk,hi,rfl,rfl⟩
   ·rintro x rest b s' ⟨pre,post,rfl,f8,hl,hb,rfl⟩;cases post with
    | nil=>unfold CReps at hl;cases hl
    | cons d post=>
     unfold CReps at hl;obtain⟨u1,r1,e1,h1,h2⟩:=hl;injection e1 with e1 e2;subst e1 e2;unfold keyDs at f8;rw[Bool.and_eq_true]at f8;have ru:A.in1.units+4*n<cLine:=by show A.units+1+4*n<cLine;omega
     have fin:∃p q,pre++d::post=p++q/\keyDs n q=true/\CReps s.heap q rest/\(b.push (Kk d)).toList=hashDs p/\({ s with toks:=s.toks+drwDs pre+YY d }:Shared)={ s with toks:=s.toks+drwDs p }:=
      ⟨pre++[d],post,by simp,f8.2,h2,by rw[kjp,<-hb];simp,by rw[kq4,Nat.add_assoc]⟩
     refine X0 (ih f8.1 h1 ru ?_)
     first
      |exact X4 fin
      |exact X0 (X4 (X4 fin))
   ·rintro b s' ⟨pre,post,rfl,f8,hl,hb,rfl⟩;have:post=[]:=by
     cases post with
     |nil=>rfl
     |cons d post=>unfold CReps at hl;obtain⟨_,_,z,_⟩:=hl;cases z
    subst this;rw[Xp]at h;show wpAny _ _ (retInt (Builtin.Tuple.tupleHashOf b.toList)) _ _ _;rw[hb];refine wpAny_ret_mkInt ?_;generalize hv:Builtin.Tuple.tupleHashOf (hashDs pre)=v;have h:Q (reduceHash v) { s with toks:=s.toks+drwDs pre+1 }:=by rw[<-hv];unfold Kk YY at h;rw[Nat.add_assoc];exact h
    show wpAny _ _ (if(decide (-(2:Int) ^ 63<=v)&&decide (v<2 ^ 63))=true then _ else _) Q E _;unfold reduceHash at h
    by_cases hq:(decide (-(2:Int) ^ 63<=v)&&decide (v<2 ^ 63))=true
    ·rw[Xb hq]at h ⊢;exact X4 h
    ·rw[Xe hq]at h ⊢;exact X0 (wpAny_rule (X4 h))
  |_=>unfold jX at hk;cases hk
theorem vq9:∀(n m:Nat) {d:D} {u:Value} {A:Around} {s:Shared} {Q:Bool->Shared->Prop},n<=m->jX n d=true->jw s.heap d u->Q true s->wpAny (model prog w) A (eqIsQuiet m u) Q E s:=by
 have byv:∀(m:Nat) {v:Value} {A:Around} {s:Shared} {Q:Bool->Shared->Prop},carriedByValue v=true->Q true s->wpAny (model prog w) A (eqIsQuiet m v) Q E s:=λm v A s Q hv h=>by
  rw [eqIsQuiet_byValue m hv];exact X4 h
 intro n
 induction n with
 | zero=>
  intro m d u A s Q _ hk hr h;cases d with
  | non=>unfold jw at hr;subst hr;exact byv m rfl h
  | int i=>unfold jw at hr;obtain⟨t,rfl⟩:=hr;exact byv m rfl h
  | _=>unfold jX at hk;cases hk
 | succ n ih=>
  intro m d u A s Q hm hk hr h;cases d with
  | non=>unfold jw at hr;subst hr;exact byv m rfl h
  | int i=>unfold jw at hr;obtain⟨t,rfl⟩:=hr;exact byv m rfl h
  | tup ds=>
   unfold jX at hk;unfold jw at hr;obtain⟨a,us,rfl,ht,hi⟩:=hr;have ty:=ht.typeIs;obtain⟨ob,gq,f7,nn,my⟩:=ht;cases m with
   | zero=>omega
   | succ m=>
    unfold eqIsQuiet;refine X0 (wpAny_specialOf ty F.slot_tuple_eq.lookup ?_);show wpAny _ _ (isInstance (Value.ref a) (.type "tuple") >>= _) _ _ s;refine X0 (wpAny_isInstance ty isSubtype_tuple_tuple ?_);simp only[Bool.not_true,Bool.false_eq_true,if_false];refine X0 (wpAny_seqItems gq my (X0 ?_));show wpAny _ _ (forIn us.toArray _ _) _ _ s;rw[<-Array.forIn_toList];refine wpAny_forIn_list _ (λrest r s'=>r.1=none/\s'=s/\∃post,keyDs n post=true/\CReps s.heap post rest) _ ?_ ?_ _ _ ⟨rfl,rfl,ds,hk,hi⟩
    ·rintro v rest r s' ⟨hr,rfl,post,f8,hl⟩;cases post with
     |nil=>unfold CReps at hl;cases hl
     |cons d post=>
      unfold CReps at hl;obtain⟨u1,r1,e1,h1,h2⟩:=hl;injection e1 with e1 e2;subst e1 e2;unfold keyDs at f8;rw[Bool.and_eq_true]at f8;refine X0 (ih m (by omega) f8.1 h1 ?_);simp only[Bool.not_true,Bool.false_eq_true,if_false];exact X4 ⟨rfl,rfl,post,f8.2,h2⟩
    ·rintro ⟨r1,r2⟩ s' ⟨hr,rfl,_⟩;simp only at hr;subst hr;exact X4 h
  |_=>unfold jX at hk;cases hk
end
mutual
theorem kq6{h h':Heap}{x:Addr}{o:Obj}{es:Array DictEntry}{ep:Nat}(ho:h.get? x=some o)(hd:o.data=.dict es ep)(hs:Heap.SameBut x h h'):∀{n:Nat} {d:D} {u:Value},jX n d=true->jw h d u->jw h' d u
 | _,.non,_,_,r=>by unfold jw at r ⊢;exact r
 | n,.bl _,_,hk,_=>by cases n<;>(unfold jX at hk;cases hk)
 | _,.int _,_,_,r=>by unfold jw at r ⊢;exact r
 | n,.str _,_,hk,_=>by cases n<;>(unfold jX at hk;cases hk)
 | 0,.tup _,_,hk,_=>by unfold jX at hk;cases hk
 | n+1,.tup ds,_,hk,r=>by
  unfold jX at hk;unfold jw at r ⊢;obtain⟨a,us,e,⟨ob,gq,hc,nn,my⟩,hi⟩:=r;have cx:a≠x:=by
   rintro rfl;rw[ho]at gq;cases gq;rw[hd]at my;cases my
  exact⟨a,us,e,⟨ob,(hs.2 a cx).trans gq,hc,nn,my⟩,creps_keeps ho hd hs hk hi⟩
 |n,.lst _,_,hk,_=>by cases n<;>(unfold jX at hk;cases hk)
 |n,.dct _,_,hk,_=>by cases n<;>(unfold jX at hk;cases hk)
 |n,.obj _ _,_,hk,_=>by cases n<;>(unfold jX at hk;cases hk)
theorem creps_keeps{h h':Heap}{x:Addr}{o:Obj}{es:Array DictEntry}{ep:Nat}(ho:h.get? x=some o)(hd:o.data=.dict es ep)(hs:Heap.SameBut x h h'):∀{n:Nat} {ds:List D} {us:List Value},keyDs n ds=true->CReps h ds us->CReps h' ds us
 |_,[],_,_,r=>by unfold CReps at r ⊢;exact r
 |n,d::ds,_,hk,r=>by
  unfold keyDs at hk;rw[Bool.and_eq_true]at hk;unfold CReps at r ⊢;obtain⟨u,rr,e,h1,h2⟩:=r;exact⟨u,rr,e,kq6 ho hd hs hk.1 h1,creps_keeps ho hd hs hk.2 h2⟩
end
def kzq(prog:Program)(w:PySem.World):HeapKind prog w Kd where
 is:=λh k a=>jw h k.1 (.ref a)
 hash:=λk=>Kk k.1
 draws:=λk=>YY k.1
 room:=λA=>A.units+40<cLine
 inj:=λhx hy=>Subtype.ext (jzy hx hy)
 keeps:=fun {h h' k a d o es ep} x ho hd hs=>kq6 ho hd hs k.2 x
 pyHash:=fun {A E s k a Q} hu hk h=>wjh 6 k.2 hk (Nat.lt_of_le_of_lt (Nat.add_le_add_left (by decide) _) hu) h
 eqBool:=fun {A E s x y a b Q} hu hx hy h=>by
  have e:peq x.1 y.1=decide (x=y):=by
   rw[qw5 x.2 y.2]
   by_cases z:x=y
   ·rw[Xd z,Xd (congrArg Subtype.val z)]
   ·rw[Xa z,Xa λq=>z (Subtype.ext q)]
  have:=W4 (s:=s) 6 (A:=A) (qjh x.2) hx hy (Nat.lt_of_le_of_lt (Nat.add_le_add_left (by decide) _) hu);rw[e]at this;exact this prog w E Q h
 quiet:=fun {A E s k a Q} hk h=>vq9 6 8 (by decide) k.2 hk h
abbrev Sl.sd(x:Sl):Sd:=(x.o,x.d)
def tA(Z:Fx0)(q:Bool)(cs:List Ex):TA:=fun σ H Q=>∃E L r,Mt E σ L/\World Z.K H L/\qJ cs E=some r/\Xc Z σ H L r /\
 ∀E' ys,r=.ok E' ys->∀(xs:List Sl) L' H',xs.map Sl.sd=ys->Mt E' σ L'->World Z.K H' (xs.map some++L')->Step H L H' (xs.map some++L')->(q=true->k8 H H'/\∀b∈j7 (xs.map some),H b=none)->Q (xs.map Sl.v) H'
def QA(X:Cx)(Z:Fx0)(q:Bool)(cs:List Ex)(es:List Expr):Prop:=PA X es (tA Z q cs)
theorem W9{X:Cx}{es:List Expr}{t t':TA}(h:PA X es t)(w:∀ σ H Q,t' σ H Q->t σ H Q):PA X es t':=λpos pins s σ H Q I q=>h pos pins s σ H Q I (w σ H Q q)
section
variable {X:Cx}{Z:Fx0}{pn:List Nat}{q:Bool}{c:Ex}{cs:List Ex}{e:Expr}{es:List Expr}{pos:Pos}{σ:L2.St}{H:Hp}{L:Ls}{E:En}
theorem jk:QA X Z true [] []:=W9 xj fun σ H Q af=>ex8 af λE L r m w hc xc k=>by
 cases oq9 hc;exact k _ _ rfl [] L H rfl m w Step.refl λ_=>⟨λ_ _ z=>z,λ_ z=>(nomatch z)⟩
theorem j5(h:QE X Z q c e)(hs:QA X Z q cs es)(b7:starEach (e::es) X.env=(false,eval e X.env)::starEach es X.env:=by rfl):QA X Z q (c::cs) (e::es):=
 W9 (x5 h hs b7) fun σ H Q af=>ex8 af λE L r m w hc xc k=>by
  refine W6 m w (show bnd (c E) _=some r from hc) xc λE1 s h1 x L1 H1 e1 e2 m1 w1 st sm=>?_
  have s1:Step H L H1 L1:=st.trans Step.drop;rcases wW h1 with⟨E2,ys,h2,h3⟩|⟨E2,cc,h2,h3⟩
  ·cases oq9 h3;refine⟨E1,L1,_,m1,w1.tail,h2,(λ_ _ z=>by cases z),λE' qs z xs L2 H2 e3 m2 w2 bg em=>?_⟩;injection z with z1 z2;subst z1 z2;obtain⟨w3,cn⟩:=Z5 (T:=[some x]) w1 bg w2;refine k _ _ rfl (x::xs) L2 H2 (by rw[List.map_cons,e3];simp[Sl.sd,e1,e2]) m2 w3 (st.trans cn) λhq=>?_
   obtain⟨a1,a2⟩:=sm hq;obtain⟨b1,b2⟩:=em hq;refine⟨qK a1 b1,λb hb=>?_⟩;rw[List.map_cons,jJ]at hb;rcases List.mem_append.mp hb with z|z
   ·exact a2 b z
   ·exact xX a1 (b2 b z)
  ·exact⟨E1,L1,_,m1,w1.tail,h2,(xc.step s1).map h3,λE' s' z=>by cases z⟩
end
section
variable {X:Cx}{Z:Fx0}{q:Bool}{cs:List Ex}{es:List Expr}{pos:Pos}{σ:L2.St}{H:Hp}{L:Ls}{E:En}{α:Type}
theorem Z6:∀{cs:List Ex} {E E':En} {ys:List Sd},qJ cs E=some (.ok E' ys)->ys.length=cs.length
 | [],E,E',ys,h=>by cases oq9 h;rfl
 | c::cs,E,E',ys,h=>by
  rcases wW (show bnd (c E) _=some _ from h)with⟨E1,x,h1,h2⟩|⟨_,_,_,z⟩
  ·rcases wW h2 with⟨E2,xs,h3,h4⟩|⟨_,_,_,z⟩
   ·cases oq9 h4;rw[Xl,Xl,Z6 h3]
   ·cases z
  ·cases z
theorem vwj{F:En->List Sd->Option (Res α)}{r:Res α}{G:List V->Hp->Prop}(m:Mt E σ L)(w:World Z.K H L)(h:bnd (qJ cs E) F=some r)(xc:Xc Z σ H L r)
  (k:∀E1 ys,F E1 ys=some r->ys.length=cs.length->∀(xs:List Sl) L1 H1,xs.map Sl.sd=ys->Mt E1 σ L1->World Z.K H1 (xs.map some++L1)->Step H L H1 (xs.map some++L1)->(q=true->k8 H H1/\∀b∈j7 (xs.map some),H b=none)->G (xs.map Sl.v) H1):tA Z q cs σ H G:=by
 rcases wW h with⟨E1,s,h1,h2⟩|⟨E1,c,h1,h2⟩
 ·exact⟨E,L,_,m,w,h1,(λ_ _ z=>by cases z),λE' s' z xs L' H' e1 m' w' st sm=>by
   injection z with z1 z2;subst z1 z2;exact k _ _ h2 (Z6 h1) xs L' H' e1 m' w' st sm⟩
 ·exact⟨E,L,_,m,w,h1,xc.map h2,λE' s' z=>by cases z⟩
theorem jwg{K:PySem.W.Frag}{H:Hp}(g:Bool):∀{xs:List Sl},(∀x∈xs,x.ok K H)->(g=false->∀x∈xs,vJ x.sd=true)->∃bs,RepA K H g (xs.map Sl.d) (xs.map Sl.v) bs/\(∀b∈bs,∃x∈xs,b∈x.as)/\(g=false->bs=j7 (xs.map some))/\(g=true->bs=xs.flatMap Sl.as)
 | [],_,_=>⟨[],by unfold RepA;exact⟨rfl,rfl⟩,λ_ h=>(nomatch h),λ_=>rfl,λ_=>rfl⟩
 | x :: xs,h,ht=>by
  obtain⟨bs,r,hb,ho,hg⟩:=jwg g (xs:=xs) (λy hy=>h y (lc9 _ hy)) λhg y hy=>ht hg y (lc9 _ hy)
  have hx:=h x X2;have key:∃cs,RepL K H g x.d x.v cs/\(∀b∈cs,b∈x.as)/\(g=false->cs=x.own)/\(g=true->cs=x.as):=by
   cases g with
   | true=>exact⟨x.as,RepO.wk hx,λb hb=>hb,(λz=>by cases z),λ_=>rfl⟩
   | false=>
    have t:=ht rfl x X2;unfold vJ at t
    by_cases ho:x.o=.dp
    ·refine⟨x.as,?_,λb hb=>hb,λ_=>?_,λz=>by cases z⟩
     ·have:=hx;unfold Sl.ok at this;rw[ho]at this;exact this
     ·unfold Sl.own;rw[ho]
    ·have hp:x.d.pure=true:=by
      rcases Bool.or_eq_true_iff.mp t with z|z
      ·exact absurd (by simpa using z) ho
      ·exact z
     obtain⟨z,rp⟩:=RepL.pu (g':=false) (RepO.wk hx) hp;exact⟨[],rp,λ_ h=>(nomatch h),λ_=>(vv3 z).symm,λz=>by cases z⟩
  obtain⟨cs,r1,h1,h2,h3⟩:=key;refine⟨cs++bs,?_,λb dq=>?_,λim=>?_,λim=>?_⟩
  ·rw[List.map_cons,List.map_cons];unfold RepA;exact⟨x.v,xs.map Sl.v,cs,bs,rfl,rfl,r1,r⟩
  ·rcases List.mem_append.mp dq with z|z
   ·exact⟨x,X2,h1 b z⟩
   ·obtain⟨y,hy,hby⟩:=hb b z;exact⟨y,lc9 _ hy,hby⟩
  ·rw[List.map_cons,jJ,h2 im,ho im]
  ·rw[Ys,h3 im,hg im]
theorem qzp{K:PySem.W.Frag}{H:Hp}{p:Addr}{xs:List Sl}{L:Ls}(w:World K H (xs.map some++L))(hp:H p=none):
  ∃bs,World K (upd H p (.lst (xs.map Sl.v))) (some ⟨.rt,.lst (xs.map Sl.d),.ref p,p::bs⟩::L)/\Step H (xs.map some++L) (upd H p (.lst (xs.map Sl.v))) (some ⟨.rt,.lst (xs.map Sl.d),.ref p,p::bs⟩::L):=by
 obtain⟨bs,r,hb,_,_⟩:=jwg true (xs:=xs) (λx hx=>w.ok x (ll9 _ (Xk hx))) (λz=>by cases z);have ap:∀b∈bs,b∉j7 L:=λb dq hL=>by
  obtain⟨x,hx,fj⟩:=hb b dq;rcases Sl.as_of fj with z|z
  ·have nd:=w.nd;rw[jW,X6]at nd;exact nd.2.2 b (mem_owned.mpr ⟨x,Xk hx,z⟩) b hL rfl
  ·exact w.ds b (by rw[jW];exact lr9 _ hL) (by rw[qv];exact ll9 _ (mem_frozen.mpr ⟨x,Xk hx,z⟩))
 have al:∀b∈bs,H b≠none:=λb dq=>by
  obtain⟨x,hx,fj⟩:=hb b dq;exact(w.ok x (ll9 _ (Xk hx))).some fj
 have sr:Src H (xs.map some++L) bs:=λb dq=>by
  obtain⟨x,hx,fj⟩:=hb b dq;rcases Sl.as_of fj with z|z
  ·exact .inr (.inl (by rw[jW];exact ll9 _ (mem_owned.mpr ⟨x,Xk hx,z⟩)))
  ·exact .inl (by rw[qv];exact ll9 _ (mem_frozen.mpr ⟨x,Xk hx,z⟩))
 have o:Out K H (upd H p (.lst (xs.map Sl.v))) ⟨.rt,.lst (xs.map Sl.d),.ref p,p::bs⟩ bs:=KY hp r λb hb=>hb
 have st:Step H (xs.map some++L) H L:=⟨λ_ _ h _=>h,λa ha=>.inl (by rw[jW];exact lr9 _ ha),λa ha=>.inl (by rw[qv];exact lr9 _ ha)⟩;exact⟨bs,Q5 (Z:=⟨K,λ_=>none,λ_ _ _=>True⟩) w.right st o ap al sr⟩
theorem qzo{K:PySem.W.Frag}{H:Hp}{p:Addr}{xs:List Sl}{L:Ls}(w:World K H (xs.map some++L))(hp:H p=none):
  ∃bs,World K (upd H p (.tup (xs.map Sl.v))) (some ⟨.no,.tup (xs.map Sl.d),.ref p,bs⟩::L)/\Step H (xs.map some++L) (upd H p (.tup (xs.map Sl.v))) (some ⟨.no,.tup (xs.map Sl.d),.ref p,bs⟩::L):=by
 obtain⟨bs,r,hb,_,_⟩:=jwg true (xs:=xs) (λx hx=>w.ok x (ll9 _ (Xk hx))) (λz=>by cases z);have ap:∀b∈bs,b∉j7 L:=λb dq hL=>by
  obtain⟨x,hx,fj⟩:=hb b dq;rcases Sl.as_of fj with z|z
  ·have nd:=w.nd;rw[jW,X6]at nd;exact nd.2.2 b (mem_owned.mpr ⟨x,Xk hx,z⟩) b hL rfl
  ·exact w.ds b (by rw[jW];exact lr9 _ hL) (by rw[qv];exact ll9 _ (mem_frozen.mpr ⟨x,Xk hx,z⟩))
 have al:∀b∈bs,H b≠none:=λb dq=>by
  obtain⟨x,hx,fj⟩:=hb b dq;exact(w.ok x (ll9 _ (Xk hx))).some fj
 have sr:Src H (xs.map some++L) bs:=λb dq=>by
  obtain⟨x,hx,fj⟩:=hb b dq;rcases Sl.as_of fj with z|z
  ·exact .inr (.inl (by rw[jW];exact ll9 _ (mem_owned.mpr ⟨x,Xk hx,z⟩)))
  ·exact .inl (by rw[qv];exact ll9 _ (mem_frozen.mpr ⟨x,Xk hx,z⟩))
 have o:Out K H (upd H p (.tup (xs.map Sl.v))) ⟨.no,.tup (xs.map Sl.d),.ref p,bs⟩ bs:=kjc hp r λb hb=>hb
 have st:Step H (xs.map some++L) H L:=⟨λ_ _ h _=>h,λa ha=>.inl (by rw[jW];exact lr9 _ ha),λa ha=>.inl (by rw[qv];exact lr9 _ ha)⟩;exact⟨bs,Q5 (Z:=⟨K,λ_=>none,λ_ _ _=>True⟩) w.right st o ap al sr⟩
theorem qvn{K:PySem.W.Frag}{H H':Hp}{xs:List Sl}{L:Ls}{d:D}{v:V}{ps:List Addr}(w:World K H (xs.map some++L))(ht:∀x∈xs,vJ x.sd=true)(hp:∀b∈ps,H b=none)(nd:ps.Nodup)(sm:k8 H H')
  (rep:∀bs,RepA K H false (xs.map Sl.d) (xs.map Sl.v) bs->RepL K H' false d v (ps++bs)):
  World K H' (some ⟨.dp,d,v,ps++j7 (xs.map some)⟩::L)/\Step H (xs.map some++L) H' (some ⟨.dp,d,v,ps++j7 (xs.map some)⟩::L):=by
 obtain⟨bs,r,hb,ho,_⟩:=jwg false (xs:=xs) (λx hx=>w.ok x (ll9 _ (Xk hx))) (λ_=>ht);have e:=ho rfl;subst e;have w2:World K H' (xs.map some++L):=⟨λx hx=>RepO.kp (w.ok x hx) (Kp.of_same sm),w.nd,w.ds⟩;have ndx:=w.nd;rw[jW,X6]at ndx;have al:∀b∈j7 (xs.map some),H b≠none:=λb hb=>w.own_some (by rw[jW];exact ll9 _ hb)
 refine⟨w2.right.cons (x:=⟨.dp,d,v,ps++j7 (xs.map some)⟩) (rep _ r) ?_ (λa ha hL=>?_) (λa ha hf=>?_) (λa ha=>(nomatch ha)) (λa ha=>λz=>(nomatch z)),⟨λa ob h _=>sm a ob h,λa ha=>?_,λa ha=>?_⟩⟩
 ·show(ps++j7 (xs.map some)).Nodup;rw[X6];exact⟨nd,ndx.1,λa ha b hb e=>by subst e;exact al a hb (hp a ha)⟩
 ·rcases List.mem_append.mp (show a∈ps++j7 (xs.map some)from ha)with z|z
  ·exact w.own_some (by rw[jW];exact lr9 _ hL) (hp a z)
  ·exact ndx.2.2 a z a hL rfl
 ·rcases List.mem_append.mp (show a∈ps++j7 (xs.map some)from ha)with z|z
  ·exact w.frz_some (by rw[qv];exact lr9 _ hf) (hp a z)
  ·exact w.ds a (by rw[jW];exact ll9 _ z) (by rw[qv];exact lr9 _ hf)
 ·rw[jJ]at ha;rcases List.mem_append.mp ha with z|z
  ·rcases List.mem_append.mp (show a∈ps++j7 (xs.map some)from z)with y|y
   ·exact .inr (hp a y)
   ·exact .inl (by rw[jW];exact ll9 _ y)
  ·exact .inl (by rw[jW];exact lr9 _ z)
 ·rw[qw]at ha;exact .inl (by rw[qv];exact lr9 _ ha)
theorem wk6{xs:List Sl}{ys:List Sd}(h:xs.map Sl.sd=ys):xs.map Sl.d=ys.map (·.2):=by rw[<-h,Yf];rfl
theorem kzw{xs:List Sl}{ys:List Sd}(h:xs.map Sl.sd=ys)(ht:ys.all vJ=true):∀x∈xs,vJ x.sd=true:=λx hx=>by
 rw[<-h,List.all_map,List.all_eq_true]at ht;exact ht x hx
theorem qjd{o:Own}{xs:List Sl}{ys:List Sd}{E':En}{r:Res Sd}{L':Ls}{H1:Hp}{Q:VK}{Hq:Hp}{Lq:Ls}(h:mkL o E' ys=some r)(e:xs.map Sl.sd=ys)(w:World Z.K H1 (xs.map some++L'))(st:Step Hq Lq H1 (xs.map some++L'))(sm:q=true->k8 Hq H1/\∀b∈j7 (xs.map some),Hq b=none)
  (k:∀E'' a,r=.ok E'' a->∀(x:Sl) L'' H',x.o=a.1->x.d=a.2->Mt E'' σ L''->World Z.K H' (some x::L'')->Step Hq Lq H' (some x::L'')->(q=true->k8 Hq H'/\∀b∈x.own,Hq b=none)->Q x.v H') (m:Mt E' σ L'):
  ∀ p,H1 p=none->Q (.ref p) (upd H1 p (.lst (xs.map Sl.v))):=by
 intro p hp;unfold mkL at h
 by_cases ho:o=.dp
 ·rw[Xb ho]at h
  by_cases ht:ys.all vJ=true
  ·rw[Xb ht]at h;cases oq9 h;obtain⟨w2,s2⟩:=qvn (d:=.lst (xs.map Sl.d)) (v:=.ref p) (ps:=[p]) w (kzw e ht) (λb hb=>by rw[List.mem_singleton.mp hb];exact hp) (by simp) (wX (o:=.lst (xs.map Sl.v)) hp) (λbs r=>by
    unfold RepL;exact⟨p,_,bs,rfl,r.kp (Kp.of_same (wX hp)),.inl ⟨wQ,rfl⟩⟩)
   refine k _ _ rfl ⟨.dp,.lst (xs.map Sl.d),.ref p,_⟩ L' _ rfl (by rw[wk6 e]) m w2 (st.trans s2) λhq=>⟨qK (sm hq).1 (wX hp),λb hb=>?_⟩
   rcases List.mem_append.mp (show b∈[p]++j7 (xs.map some)from hb)with z|z
   ·rw[List.mem_singleton.mp z];exact xX (sm hq).1 hp
   ·exact(sm hq).2 b z
  ·rw[Xe ht]at h;cases h
 ·rw[Xe ho]at h;cases oq9 h;obtain⟨bs,w2,s2⟩:=qzp w hp;refine k _ _ rfl ⟨.rt,.lst (xs.map Sl.d),.ref p,p::bs⟩ L' _ rfl (by rw[wk6 e]) m w2 (st.trans s2) λhq=>⟨qK (sm hq).1 (wX hp),λb hb=>?_⟩
  have:b=p:=by simpa [Sl.own]using hb
  rw[this];exact xX (sm hq).1 hp
theorem vx8{xs:List Sl}{ys:List Sd}{n:Nat}(h:xs.map Sl.sd=ys)(hl:ys.length=n)(hz:n<=1000):(xs.map Sl.v).length<=sizeLine:=by
 have:xs.length=n:=by rw[<-hl,<-h,X3]
 rw[X3,this];exact Y0 hz (by decide)
theorem vq{o:Own}(h:QA X Z q cs es)(hz:cs.length<=1000:=by decide):QE X Z q (jZ o cs) (.List es pos):=qX (vze h) fun σ H Q af=>ex8 af λE L r m w hc xc k=>
 vwj m w (show bnd (qJ cs E) _=some r from hc) xc λE1 ys h1 hl xs L1 H1 e1 m1 w1 st sm=>⟨vx8 e1 hl hz,qjd (o:=o) (E':=E1) (ys:=ys) (by unfold mkL;exact h1) e1 w1 st sm k m1⟩
theorem vw{o:Own}{x1}(h:QA X Z q cs es)(hz:cs.length<=1000:=by decide):QE X Z q (kw o cs) (.Tuple es x1 pos):=qX (vzc h) fun σ H Q af=>ex8 af λE L r m w hc xc k=>
 vwj m w (show bnd (qJ cs E) _=some r from hc) xc λE1 ys h1 hl xs L1 H1 e1 m1 w1 st sm=>⟨vx8 e1 hl hz,λp hp=>by
  by_cases ho:o=.dp
  ·rw[Xb ho]at h1
   by_cases ht:ys.all vJ=true
   ·rw[Xb ht]at h1;cases oq9 h1;obtain⟨w2,s2⟩:=qvn (d:=.tup (xs.map Sl.d)) (v:=.ref p) (ps:=[]) w1 (kzw e1 ht) (λb hb=>(nomatch hb)) (by simp) (wX (o:=.tup (xs.map Sl.v)) hp) (λbs r=>by
     unfold RepL;exact⟨p,_,rfl,SqT.of wQ,r.kp (Kp.of_same (wX hp))⟩)
    exact k _ _ rfl ⟨.dp,.tup (xs.map Sl.d),.ref p,_⟩ L1 _ rfl (by rw[wk6 e1]) m1 w2 (st.trans s2) λhq=>⟨qK (sm hq).1 (wX hp),λb hb=>(sm hq).2 b hb⟩
   ·rw[Xe ht]at h1;cases h1
  ·rw[Xe ho]at h1;cases oq9 h1;obtain⟨bs,w2,s2⟩:=qzo w1 hp;exact k _ _ rfl ⟨.no,.tup (xs.map Sl.d),.ref p,bs⟩ L1 _ rfl (by rw[wk6 e1]) m1 w2 (st.trans s2) λhq=>⟨qK (sm hq).1 (wX hp),λb hb=>(nomatch hb)⟩⟩
end
def spF(K:PySem.W.Frag)(mg:Str->Option Value)(n:Nat)(f:Fn):Sp:=λvs H Q E=>∃(xs:List Sl) (r:Res Sd),vs=xs.map Sl.v/\xs.length=n/\World K H (xs.map some)/\f (xs.map Sl.sd)=some r /\
 (∀E' c,r=.exc E' c->∀C H',mg c=some (.ref C)->Step H (xs.map some) H' []->E (.ref C) none H') /\
 ∀E' a,r=.ok E' a->∀(x:Sl) H',x.o=a.1->x.d=a.2->World K H' [some x]->Step H (xs.map some) H' [some x]->Q x.v H'
theorem qZ{K:PySem.W.Frag}{mg:Str->Option Value}{n:Nat}{f:Fn}{ps:List Str}(hn:ps.length=n):∀vs H Q E,spF K mg n f vs H Q E->vs.length=ps.length:=λvs H Q E ⟨xs,r,e,hl,_⟩=>by rw[e,X3,hl,hn]
theorem jzv:∀(xs:List Sl) (k:Nat),Mt (xs.map (λx=>some x.sd)++List.replicate k none) (xs.map (λx=>some x.v)++List.replicate k none) (xs.map some++List.replicate k none)
 |[],0=>.nil
 |[],k+1=>by
  rw[List.map_nil,List.map_nil,List.map_nil,List.replicate_succ,List.replicate_succ,List.replicate_succ];exact .un (jzv [] k)
 |x::xs,k=>.cons (x:=x) (jzv xs k)
theorem qY{X:Cx}{K:PySem.W.Frag}{mg:Str->Option Value}{N:List Str}{n nn:Nat}{B:Sm}{body:List Stmt}{H:Hp}{vs:List V}{Q:VK}{E:XK}(hN:N.length=nn)(t:QSs X ⟨K,mg,E⟩ [] B body)(h:spF K mg n (fn nn B) vs H Q E):
  ∃t,PSs X body t/\t { nx:=λ_ H'=>Q .non H',rt:=Q } (L2.start N vs) H:=by
 refine⟨_,t,?_⟩;obtain⟨xs,r,rfl,hl,w,hf,hx,hk⟩:=h;unfold fn at hf;rw[X3,Yf]at hf;have m:=jzv xs (nn - xs.length);have e1:L2.start N (xs.map Sl.v)=xs.map (λx=>some x.v)++List.replicate (nn - xs.length) none:=by
  unfold L2.start;rw[Yf,X3,hN];rfl
 have wL:World K H (xs.map some++List.replicate (nn - xs.length) none):=w.same (by simp);have sL:Step H (xs.map some) H (xs.map some++List.replicate (nn - xs.length) none):=Step.refl.same (List.Perm.refl _) (by simp);cases hB:B (xs.map (λx=>some x.sd)++List.replicate (nn - xs.length) none)with
 | none=>rw[show(some∘Sl.sd)=(λx:Sl=>some x.sd)from rfl,hB]at hf;cases hf
 | some g=>
  rw[show(some∘Sl.sd)=(λx:Sl=>some x.sd)from rfl,hB]at hf;refine⟨_,_,g,e1▸m,wL,hB,?_⟩;cases g with
  |nx E1=>
   cases oq9 hf;intro σ' L' H' _ m' w' s';exact hk _ _ rfl ⟨.dp,.non,.non,[]⟩ H' rfl rfl (World.consPu (x:=⟨.dp,.non,.non,[]⟩) (L:=[]) ⟨λ_ z=>(nomatch z),Xr,λ_ z=>(nomatch z)⟩ (show RepL K H' false .non .non []from kqo) rfl) (J3 (x:=⟨.dp,.non,.non,[]⟩) ((sL.trans s').sub (by simp)) (λb hb=>(nomatch hb)) rfl)
  |rt E1 a=>
   cases oq9 hf;intro x σ' L' H' e2 e3 _ m' w' s';exact hk _ _ rfl x H' e2 e3 (w'.sub (by simp)) ((sL.trans s').sub (by simp))
  |xc E1 c=>
   cases oq9 hf;intro C σ' L' H' hm _ m' w' s';exact hx _ _ rfl C H' hm ((sL.trans s').sub (by simp))
  |ct E1=>cases hf
  |bk E1=>cases hf
section
variable {X:Cx}{Z:Fx0}{q:Bool}{cs:List Ex}{e:Expr}{es:List Expr}{pos p:Pos}{x:Str}{ps:List Str}{k n:Nat}{f:Fn}
theorem Jq:∀xs:List Sl,j7 ((xs.map Sl.let).map some)=[]
 |[]=>rfl
 |x::xs=>by rw[List.map_cons,List.map_cons,jJ,Jq xs];rfl
theorem jwv:∀xs:List Sl,jV ((xs.map Sl.let).map some)=xs.flatMap Sl.as
 |[]=>rfl
 |x::xs=>by rw[List.map_cons,List.map_cons,qw,jwv xs,Ys];rfl
theorem kv2(xs:List Sl):(xs.map Sl.let).map Sl.sd=letAll (xs.map Sl.sd):=by
 unfold letAll;rw[Yf,Yf];rfl
theorem jxs{K:PySem.W.Frag}{H:Hp}{xs:List Sl}{L:Ls}(w:World K H (xs.map some++L)):World K H ((xs.map Sl.let).map some++L)/\Step H (xs.map some++L) H ((xs.map Sl.let).map some++L):=by
 have nd:=w.nd;rw[jW,X6]at nd;have cl:∀a∈xs.flatMap Sl.as,a∈j7 (xs.map some)\/a∈jV (xs.map some):=λa ha=>by
  obtain⟨x,hx,hax⟩:=List.mem_flatMap.mp ha;exact(Sl.as_of hax).imp (λz=>mem_owned.mpr ⟨x,Xk hx,z⟩) λz=>mem_frozen.mpr ⟨x,Xk hx,z⟩
 refine⟨⟨λx hx=>?_,by rw[jW,Jq];exact nd.2.1,λa ha hf=>?_⟩,λ_ _ h _=>h,λa ha=>?_,λa ha=>?_⟩
 ·rcases List.mem_append.mp hx with hx|hx
  ·obtain⟨y,hy,e⟩:=List.mem_map.mp hx;cases e;obtain⟨z,hz,rfl⟩:=List.mem_map.mp hy;exact KJ (w.ok z (ll9 _ (Xk hz)))
  ·exact w.ok x (lr9 _ hx)
 ·rw[jW,Jq]at ha;rw[qv,jwv]at hf;rcases List.mem_append.mp hf with z|z
  ·rcases cl a z with z|z
   ·exact nd.2.2 a z a ha rfl
   ·exact w.ds a (by rw[jW];exact lr9 _ ha) (by rw[qv];exact ll9 _ z)
  ·exact w.ds a (by rw[jW];exact lr9 _ ha) (by rw[qv];exact lr9 _ z)
 ·rw[jW,Jq]at ha;exact .inl (by rw[jW];exact lr9 _ ha)
 ·rw[qv,jwv]at ha;rw[qv,jW];rcases List.mem_append.mp ha with z|z
  ·rcases cl a z with z|z
   ·exact .inr (.inl (ll9 _ z))
   ·exact .inl (ll9 _ z)
  ·exact .inl (lr9 _ z)
theorem vz0(D:kZ X.prog X.w X.K X.mg X.base k x ps (spF Z.K Z.mg n f))(hr:Room k X.A)(g:x8 X Z.EX)(ha:QA X Z q cs (e::es))(hn:cs.length=n:=by rfl)(hg:Gl X x:=by rfl)(cu:(x==("__debug__":Str))=false:=by decide)
  (he:starEach (e::es) X.env=(false,eval e X.env)::starEach es X.env:=by rfl) (bt:(backTo pos (starEach es X.env)).any (·.1)=false:=by rfl):
  QE X Z q (jK f cs) (.Call (.Name x p) (e::es) [] pos):=qX (qv6 D hr g ha hg cu he bt) fun σ H Q af=>ex8 af λE L r m w hc xc kk=>
 vwj m w (show bnd (qJ cs E) _=some r from hc) xc λE1 ys h1 hl xs L1 H1 e1 m1 w1 st sm=>by
  rw [Xp];have ae:xs.length=n:=by rw[<-hn,<-hl,<-e1,X3]
  cases hf:f (letAll ys)with
  | none=>rw[hf]at h1;cases h1
  | some fr=>
   rw[hf]at h1;obtain⟨wl,sl⟩:=jxs w1;have ev:xs.map Sl.v=(xs.map Sl.let).map Sl.v:=by rw[Yf];rfl
   rw[ev];refine⟨xs.map Sl.let,fr,rfl,by rw[X3];exact ae,wl.left,by rw[<-e1]at hf;rw[kv2];exact hf,λE' c ee C H' hm s'=>?_,λE' a ee y H' e2 e3 w' s'=>?_⟩
   ·subst ee;cases oq9 h1;obtain⟨w2,s2⟩:=stay wl s' ⟨λ_ z=>(nomatch z),Xr,λ_ z=>(nomatch z)⟩;exact xc _ _ rfl C L1 H' hm m1 w2 ((st.trans sl).trans s2)
   ·subst ee;cases oq9 h1;obtain⟨w2,s2⟩:=stay wl s' w';refine kk _ _ rfl y L1 H' e2 e3 m1 w2 ((st.trans sl).trans s2) λhq=>?_
    obtain⟨a1,a2⟩:=sm hq;refine⟨λb ob hb=>s'.keep b ob (a1 b ob hb) λz=>?_,λb hb=>?_⟩
    ·rw[Jq]at z;exact nomatch z
    ·rcases s'.own b (by rw[jJ];exact ll9 _ hb)with z|z
     ·rw[Jq]at z;exact nomatch z
     ·exact xX a1 z
end
def vxl(K:PySem.W.Frag):R2:=λx y H Q=>∃l k xs,x=.ref l/\y=.int k/\LsR K H l xs/\-(2 ^ 63)<=k/\k<2 ^ 63/\xs.length*k.toNat<=sizeLine /\
 ∀p,H p=none->Q (.ref p) (upd H p (.lst (List.replicate k.toNat xs).flatten))
theorem op_repR{X:Cx}:OpR X (binaryOp .Mult) (vxl X.K):=by
 intro pins s σ H x y v u Q I rx ry h;obtain⟨l,k,xs,rfl,rfl,hH,h1,h2,hz,q⟩:=h;cases rx;obtain⟨t,rfl⟩:=ry;obtain⟨z,a9,n,r,e⟩:=hH.is I;have hl:=r.length;have ae:a9.toArray.size*k.toNat<=sizeLine:=by rw[X7,<-hl];exact hz
 have hcap:¬a9.toArray.size*k.toNat>(2 ^ 63 - 1) / 8:=by
  have:(sizeLine:Nat)<=(2 ^ 63 - 1) / 8:=by decide
  omega
 have i4:¬(!Builtin.List.listFitsIndex k)=true:=by
  rw[fitsIndex_both h1 h2];exact Bool.false_ne_true
 have pe:¬Builtin.List.listTooLong (a9.toArray.size*k.toNat)=true:=by
  rw[qzk ae];exact Bool.false_ne_true
 have je:List.foldl (λx1 x2=>x1++x2) #[] (List.replicate (if a9.toArray.isEmpty=true then 0 else k.toNat) a9.toArray)=(List.replicate k.toNat a9).flatten.toArray:=by
  have f0:∀m:Nat,List.foldl (λx1 x2=>x1++x2) #[] (List.replicate m a9.toArray)=(List.replicate m a9).flatten.toArray:=λm=>by
   have:=kjr a9 m [];rw[List.nil_append]at this;exact this
  rw[f0];cases a9 with
  |nil=>simp
  |cons a r'=>rw[Xe (by simp)]
 refine wpAny_binaryOp_repeat_ref (T:="list") (U:="int") (by decide) ⟨_,e,rfl⟩ (λs'=>typeIs_int s' k t) noFill_list_mul F.fills_int_mul F.slot_int_rmul repeat_list F.slot_int_index.lookup
  (call_meets F.slot_int_rmul (typeIs_int s k t) F.entry_int_rmul (F.args_int_rmul_2 _ _) (int___rmul___int_list k t l a9.toArray n)
   ⟨e,rfl,⟨_,e,rfl⟩,call_meets F.slot_list_mul ⟨_,e,rfl⟩ F.entry_list_mul (F.args_list_mul_2 _ _) (AutoListH.list___mul___list_int_3 l a9.toArray n k t i4 hcap pe) ⟨e,?_⟩⟩)
 rw[je];exact⟨.ref _,_,I.lnew (t':=s.toks) (r.rep k.toNat) (by rw[qvt,Nat.mul_comm];exact hz),rfl,q _ I.fresh⟩
def vq7(K:PySem.W.Frag):R2:=λx y H Q=>rI IntMulOk (λi j=>.int (i*j)) x y H Q\/vxl K x y H Q\/vxk x y H Q
theorem vzp{X:Cx}{K:PySem.W.Frag}(hK:X.K=K:=by rfl):OpR X (binaryOp .Mult) (vq7 K):=by subst hK;exact op_mulI.or (op_repR.or vv5)
theorem qje{a:Int}(h:a.natAbs.log2<2000000):Builtin.Int.intBits a<=2000000:=by
 unfold Builtin.Int.intBits
 split
 ·exact Xv _
 ·omega
theorem mulOk_of{a b:Int}(h:JV a b=true):IntMulOk a b:=by
 unfold JV qqg at h;simp only[Bool.or_eq_true,Bool.and_eq_true,decide_eq_true_eq]at h;rcases h with(h|h)|h
 ·exact .of_left (intBits_le_64 h.1 h.2)
 ·exact .of_right (intBits_le_64 h.1 h.2)
 ·have h1:=qje h.1;have h2:=qje h.2;unfold IntMulOk Builtin.Int.intTooBig;have e:(2:Nat) ^ 27=134217728:=by decide
  have hb:bitsLine=134217728:=e;simp only[Bool.and_eq_true,decide_eq_true_eq,not_and];intro _ _;omega
theorem RepA.reps{K:PySem.W.Frag}{H:Hp}{ds:List D}{xs:List V}{bs:List Addr}(h:RepA K H true ds xs bs):∀k:Nat,∃cs,RepA K H true (List.replicate k ds).flatten (List.replicate k xs).flatten cs/\∀b∈cs,b∈bs
 |0=>⟨[],by simp only[List.replicate_zero,List.flatten_nil];unfold RepA;exact⟨rfl,rfl⟩,λ_ z=>(nomatch z)⟩
 |k+1=>by
  obtain⟨cs,r,hc⟩:=RepA.reps h k;rw[List.replicate_succ,List.replicate_succ,Yl,Yl];exact⟨bs++cs,r.app h,λb hb=>(List.mem_append.mp hb).elim id (hc b)⟩
theorem vkn{K:PySem.W.Frag}:Ad2 K (vq7 K) zV:=by
 intro H x y s Q ox oy hf k;unfold zV at hf;dsimp only at hf
 split at hf
 ·rename_i i j e1 e2
  split at hf
  ·rename_i hm;cases oq9 hf;exact .inl ⟨i,j,wv ox e1,wv oy e2,mulOk_of hm,k ⟨.dp,.int _,.int _,[]⟩ H rfl rfl VZ⟩
  ·cases hf
 ·rename_i a n e1 e2
  split at hf
  ·rename_i hc;cases oq9 hf;obtain⟨l,xs,bs,e3,q3,r3,h3⟩:=z9 ox (.inl e1) hc.2.2.2;have q3:LsR K H l xs:=by rcases q3 with⟨_,z⟩|⟨z,_⟩;exact z;rw[e1]at z;cases z
   obtain⟨cs,r4,h4⟩:=r3.reps n.toNat;refine .inr (.inl ⟨l,n,xs,e3,wv oy e2,q3,hc.1,hc.2.1,by rw[<-r3.len];exact hc.2.2.1,λp hp=>?_⟩);exact k ⟨.rt,.lst _,.ref p,p::cs⟩ _ rfl rfl (KY hp r4 λb hb=>ll9 _ (h3 b (h4 b hb)))
  ·cases hf
 ·rename_i z n e1 e2
  split at hf
  ·rename_i hc;cases oq9 hf;exact .inr (.inr ⟨z,n,(xx ox e1).1,wv oy e2,hc.1,k ⟨.dp,.str _,.str _,[]⟩ H rfl rfl (wqb hc.2)⟩)
  ·cases hf
 ·cases hf
def dec(h:Heap)(u:Value):D:=open Classical in if e:∃d,jw h d u then e.choose else .non
theorem kwv{h:Heap}{u:Value}{d:D}(r:jw h d u):dec h u=d:=by
 unfold dec;have e:∃d,jw h d u:=⟨d,r⟩;rw[dif_pos e];exact jzy e.choose_spec r
theorem kk5{h:Heap}{d:D}:∀{ds:List D} {us:List Value},CReps h ds us->us.any (λu=>peq (dec h u) d)=ds.any λz=>peq z d
 |[],_,r=>by unfold CReps at r;rw[r];rfl
 |z::ds,_,r=>by
  unfold CReps at r;obtain⟨u,rr,rfl,h1,h2⟩:=r;rw[List.any_cons,List.any_cons,kwv h1,kk5 h2]
theorem jzw{h:Heap}:∀{ds:List D} {us:List Value} {u:Value},CReps h ds us->u∈us->∃d∈ds,jw h d u
 | [],_,_,r,hu=>by unfold CReps at r;rw[r]at hu;cases hu
 | z::ds,_,u,r,hu=>by
  unfold CReps at r;obtain⟨u',rr,rfl,h1,h2⟩:=r;rcases List.mem_cons.mp hu with rfl|hu
  ·exact⟨z,X2,h1⟩
  ·obtain⟨d,hd,c⟩:=jzw h2 hu;exact⟨d,lc9 _ hd,c⟩
theorem jxc:∀{n:Nat} {ds:List D} {d:D},D.flats n ds=true->d∈ds->d.flat n=true
 |_,[],_,_,h=>by cases h
 |n,z::ds,d,f,h=>by
  unfold D.flats at f;rw[Bool.and_eq_true]at f;rcases List.mem_cons.mp h with rfl|h
  ·exact f.1
  ·exact jxc f.2 h
section
variable {X:Cx}{Z:Fx0}{K:PySem.W.Frag}{q qa qb:Bool}{a b c:Ex}{u v:Ts}{e ea eb:Expr}{es:List Expr}{pos p:Pos}{σ:L2.St}{H:Hp}{L:Ls}{E:En}
def qqr(K:PySem.W.Frag)(ka:Bool):R2:=λx y H Q=>∃d ds as bs p xs,RepL K H true d x as/\y=.ref p/\(SqL K H p xs\/SqT K H p xs)/\RepA K H true ds xs bs/\d.flat 30=true/\D.flats 30 ds=true/\Q (.bl (if ka then !(ds.any λz=>peq z d)else ds.any λz=>peq z d)) H
theorem vv8(hu:X.A.units+64<cLine):OpR X (compareOp .In) (qqr X.K false):=by
 intro pins s σ H x y v u Q I rx ry h;obtain⟨d,ds,as,bs,p,xs,h1,rfl,hq,ra,f1,f2,q⟩:=h;cases ry;have c1:=Qz I h1 f1 rx;have he:∀{us:List Value},CReps s.heap ds us->∀w,w∈us.toArray->SeqAt.EqAt X.A.in1 s w v (peq (dec s.heap w) d):=fun {us} cr w hw=>by
  obtain⟨d',hd,c⟩:=jzw cr (by simpa using hw);rw[kwv c];exact W4 30 (jxc f2 hd) c c1 (by have:=L3.in1_units X.A;omega)
 rcases hq with hq|hq
 ·obtain⟨a9,r,pl,hz⟩:=I.list hq;have cr:=creps_of I ra f2 r;refine SeqAt.in_listAt _ pl.isList (he cr) ⟨.bl _,H,I,rfl,?_⟩;rw[List.any_toArray,kk5 cr];exact q
 ·obtain⟨a9,r,pl,hz⟩:=I.tuple hq;have cr:=creps_of I ra f2 r;refine SeqAt.in_tupleAt _ pl (he cr) ⟨.bl _,H,I,rfl,?_⟩;rw[List.any_toArray,kk5 cr];exact q
theorem qkg(hu:X.A.units+64<cLine):OpR X (compareOp .NotIn) (qqr X.K true):=by
 intro pins s σ H x y v u Q I rx ry h;obtain⟨d,ds,as,bs,p,xs,h1,rfl,hq,ra,f1,f2,q⟩:=h;cases ry;have c1:=Qz I h1 f1 rx;have he:∀{us:List Value},CReps s.heap ds us->∀w,w∈us.toArray->SeqAt.EqAt X.A.in1 s w v (peq (dec s.heap w) d):=fun {us} cr w hw=>by
  obtain⟨d',hd,c⟩:=jzw cr (by simpa using hw);rw[kwv c];exact W4 30 (jxc f2 hd) c c1 (by have:=L3.in1_units X.A;omega)
 rcases hq with hq|hq
 ·obtain⟨a9,r,pl,hz⟩:=I.list hq;have cr:=creps_of I ra f2 r;refine SeqAt.notIn_listAt _ pl.isList (he cr) ⟨.bl _,H,I,rfl,?_⟩;rw[List.any_toArray,kk5 cr];exact q
 ·obtain⟨a9,r,pl,hz⟩:=I.tuple hq;have cr:=creps_of I ra f2 r;refine SeqAt.notIn_tupleAt _ pl (he cr) ⟨.bl _,H,I,rfl,?_⟩;rw[List.any_toArray,kk5 cr];exact q
def qqq(ka:Bool):R2:=λx y H Q=>∃i j,x=.str i/\y=.str j/\Q (.bl (if ka then !wqu i j else wqu i j)) H
theorem opInStr:OpR X (compareOp .In) (qqq false):=λpins s σ H x y v u Q I rx ry ⟨i,j,e1,e2,q⟩=>qve pins s σ H x y v u Q I rx ry ⟨i,j,e1,e2,q⟩
theorem opNotInStr:OpR X (compareOp .NotIn) (qqq true):=λpins s σ H x y v u Q I rx ry ⟨i,j,e1,e2,q⟩=>kw5 pins s σ H x y v u Q I rx ry ⟨i,j,e1,e2,q⟩
def ZJ(K:PySem.W.Frag)(ka:Bool):R2:=λx y H Q=>qqq ka x y H Q\/qqr K ka x y H Q
theorem vv9(hu:X.A.units+64<cLine)(hK:X.K=K:=by rfl):OpR X (compareOp .In) (ZJ K false):=by subst hK;exact opInStr.or (vv8 hu)
theorem Z7(hu:X.A.units+64<cLine)(hK:X.K=K:=by rfl):OpR X (compareOp .NotIn) (ZJ K true):=by subst hK;exact opNotInStr.or (qkg hu)
theorem Jv{H:Hp}{l:Addr}{xs:List V}(h:LsR K H l xs):SqL K H l xs:=h.sq
theorem kv4{x y:Sl}{ys:List D}{ka:Bool}{Q:VK}(ox:x.ok K H)(oy:y.ok K H)(hy:y.d=.lst ys\/y.d=.tup ys)(hc:(x.d.flat 30&&D.flats 30 ys)=true)
  (k:Q (.bl (if ka then !(ys.any λz=>peq z x.d)else ys.any λz=>peq z x.d)) H):ZJ K ka x.v y.v H Q:=by
 rw[Bool.and_eq_true]at hc;obtain⟨l,xs,bs,e3,q3,r3,_⟩:=items oy hy;have r3':RepA K H true ys xs bs:=by
  cases ho:(y.o != .dp)with
  |true=>rw[ho]at r3;exact r3
  |false=>rw[ho]at r3;exact r3.wk
 refine .inr ⟨x.d,ys,x.as,bs,l,xs,RepO.wk ox,e3,?_,r3',hc.1,hc.2,k⟩;rcases q3 with⟨_,z⟩|⟨_,z⟩
 ·exact .inl (Jv z)
 ·exact .inr z
theorem vwh:Ad2 K (ZJ K false) (pu2 zw):=by
 intro H x y s Q ox oy hf k;unfold pu2 zw fIn at hf;dsimp only at hf;cases hy:y.d with
 | lst ys=>
  rw[hy]at hf;dsimp only at hf
  split at hf
  ·rename_i hc;cases oq9 hf;exact kv4 ox oy (.inl hy) hc (k ⟨.dp,.bl _,.bl _,[]⟩ H rfl rfl xv)
  ·cases hf
 | tup ys=>
  rw[hy]at hf;dsimp only at hf
  split at hf
  ·rename_i hc;cases oq9 hf;exact kv4 ox oy (.inr hy) hc (k ⟨.dp,.bl _,.bl _,[]⟩ H rfl rfl xv)
  ·cases hf
 | str b=>
  rw[hy]at hf;dsimp only at hf
  split at hf
  ·rename_i a hx;cases oq9 hf;exact .inl ⟨a,b,(xx ox hx).1,(xx oy hy).1,k ⟨.dp,.bl _,.bl _,[]⟩ H rfl rfl xv⟩
  ·cases hf
 |_=>rw[hy]at hf;cases hf
theorem WW:Ad2 K (ZJ K true) (pu2 vQ):=by
 intro H x y s Q ox oy hf k;unfold pu2 vQ kwn fIn at hf;dsimp only at hf;cases hy:y.d with
 | lst ys=>
  rw[hy]at hf;dsimp only at hf
  split at hf
  ·rename_i hc;cases oq9 hf;exact kv4 ox oy (.inl hy) hc (k ⟨.dp,.bl _,.bl _,[]⟩ H rfl rfl xv)
  ·cases hf
 | tup ys=>
  rw[hy]at hf;dsimp only at hf
  split at hf
  ·rename_i hc;cases oq9 hf;exact kv4 ox oy (.inr hy) hc (k ⟨.dp,.bl _,.bl _,[]⟩ H rfl rfl xv)
  ·cases hf
 | str b=>
  rw[hy]at hf;dsimp only at hf
  split at hf
  ·rename_i a hx;cases oq9 hf;exact .inl ⟨a,b,(xx ox hx).1,(xx oy hy).1,k ⟨.dp,.bl _,.bl _,[]⟩ H rfl rfl xv⟩
  ·cases hf
 |_=>rw[hy]at hf;cases hf
theorem jzs{g:Bool}{d:D}{v:V}{as:List Addr}(h:RepL K H g d v as):decide (v=.non)=isNon d:=by
 cases d with
 |non=>unfold RepL at h;rw[h.1];rfl
 |bl _=>unfold RepL at h;rw[h.1];rfl
 |int _=>unfold RepL at h;rw[h.1];rfl
 |str _=>unfold RepL at h;rw[h.1];rfl
 |tup _=>unfold RepL at h;obtain⟨a,xs,e,_⟩:=h;rw[e];rfl
 |lst _=>unfold RepL at h;obtain⟨a,xs,bs,e,_⟩:=h;rw[e];rfl
 |dct _=>unfold RepL at h;obtain⟨a,xs,bs,e,_⟩:=h;rw[e];rfl
 |obj _ _=>unfold RepL at h;obtain⟨_,x,o,C,e,_⟩:=h;rw[e];rfl
theorem WV:Ad2 K (λx y H Q=>y=.non/\Q (.bl (decide (x=.non))) H) (f2First fIsNon):=by
 intro H x y s Q ox oy hf k;unfold f2First fIsNon at hf;dsimp only at hf
 split at hf
 ·rename_i hy;cases oq9 hf;have e:=jzs (RepO.wk oy);rw[hy]at e;refine⟨of_decide_eq_true e,?_⟩;rw[jzs (RepO.wk ox)];exact k ⟨.dp,.bl _,.bl _,[]⟩ H rfl rfl xv
 ·cases hf
theorem kzi:Ad2 K (λx y H Q=>y=.non/\Q (.bl (!decide (x=.non))) H) (f2First fNotNon):=by
 intro H x y s Q ox oy hf k;unfold f2First fNotNon at hf;dsimp only at hf
 split at hf
 ·rename_i hy;cases oq9 hf;have e:=jzs (RepO.wk oy);rw[hy]at e;refine⟨of_decide_eq_true e,?_⟩;rw[jzs (RepO.wk ox)];exact k ⟨.dp,.bl _,.bl _,[]⟩ H rfl rfl xv
 ·cases hf
theorem vk8(n:Nat)(i:Int):_root_.Q.ixN n i=L2.ixN n i:=rfl
theorem vvn{x y:Sl}{d:D}{Q:VK}(ox:x.ok K H)(oy:y.ok K H)(hf:k6 x.d y.d=some d)(k:∀z:Sl,z.o=sub x.o->z.d=d->z.ok K H->(∀b∈z.frz,b∈x.frz)->(∀b∈z.as,b∈x.as)->Q z.v H):rIx K x.v y.v H Q:=by
 have seq:∀ds:List D,(x.d=.lst ds\/x.d=.tup ds)->∀i:Int,y.d=.int i->((_root_.Q.ixN ds.length i).bind λj=>ds[j]?)=some d->rIx K x.v y.v H Q:=by
  intro ds hx i hy hd;obtain⟨l,xs,bs,e3,q3,r3,h3,h4⟩:=items ox hx;cases hj:_root_.Q.ixN ds.length i with
  | none=>rw[hj]at hd;cases hd
  | some j=>
   rw [hj]at hd;obtain⟨v,cs,e4,r4,h5⟩:=r3.get (show ds[j]?=some d from hd);have dl:atI xs i=some v:=by
    unfold atI;rw[<-r3.len,<-vk8,hj];exact e4
   have fin:Q v H:=by
    cases ho:x.o with
    | dp=>
     rw[ho]at r4;exact k ⟨.dp,d,v,cs⟩ (by rw[ho];rfl) rfl r4 (λb hb=>(nomatch hb)) λb hb=>h3 b (h5 b hb)
    | no=>
     rw[ho]at r4;exact k ⟨.no,d,v,cs⟩ (by rw[ho];rfl) rfl r4 (λb hb=>h4 (by rw[ho];exact(λz=>nomatch z)) b (h5 b hb)) λb hb=>h3 b (h5 b hb)
    | rt=>
     rw[ho]at r4;exact k ⟨.no,d,v,cs⟩ (by rw[ho];rfl) rfl r4 (λb hb=>h4 (by rw[ho];exact(λz=>nomatch z)) b (h5 b hb)) λb hb=>h3 b (h5 b hb)
   rcases q3 with⟨_,z⟩|⟨_,z⟩
   ·exact .inl ⟨l,xs,i,v,e3,wv oy hy,Jv z,dl,fin⟩
   ·exact .inr (.inl ⟨l,xs,i,v,e3,wv oy hy,z,dl,fin⟩)
 unfold k6 at hf;cases hx:x.d with
 | lst ds=>
  rw [hx]at hf;cases hy:y.d with
  | int i=>rw[hy]at hf;exact seq ds (.inl hx) i hy hf
  | _=>rw[hy]at hf;cases hf
 | tup ds=>
  rw [hx]at hf;cases hy:y.d with
  | int i=>rw[hy]at hf;exact seq ds (.inr hx) i hy hf
  | _=>rw[hy]at hf;cases hf
 | str z=>
  rw [hx]at hf;cases hy:y.d with
  | int i=>
   rw [hy]at hf;have hf:((_root_.Q.ixN z.cps.size i).bind λj=>(z.cps.toList[j]?).map λc=>D.str ⟨#[c]⟩)=some d:=hf;cases hj:_root_.Q.ixN z.cps.size i with
   | none=>rw[hj]at hf;cases hf
   | some j=>
    rw[hj]at hf;cases hc:z.cps.toList[j]? with
    | none=>rw[Option.bind_some,hc]at hf;cases hf
    | some c=>
     rw[Option.bind_some,hc]at hf;cases oq9 hf;have dl:atI z.cps.toList i=some c:=by
      unfold atI;rw[Y6,<-vk8,hj];exact hc
     obtain⟨e1,hz⟩:=xx ox hx;refine .inr (.inr ⟨z,i,c,e1,wv oy hy,hz,dl,?_⟩);have rp:∀g,RepL K H g (.str ⟨#[c]⟩) (.str ⟨#[c]⟩) []:=λg=>kj8 (show(1:Nat)<=sizeLine by decide)
     cases ho:x.o with
     |dp=>exact k ⟨.dp,.str ⟨#[c]⟩,.str ⟨#[c]⟩,[]⟩ (by rw[ho];rfl) rfl (rp false) (λb hb=>(nomatch hb)) λb hb=>(nomatch hb)
     |no=>exact k ⟨.no,.str ⟨#[c]⟩,.str ⟨#[c]⟩,[]⟩ (by rw[ho];rfl) rfl (rp true) (λb hb=>(nomatch hb)) λb hb=>(nomatch hb)
     |rt=>exact k ⟨.no,.str ⟨#[c]⟩,.str ⟨#[c]⟩,[]⟩ (by rw[ho];rfl) rfl (rp true) (λb hb=>(nomatch hb)) λb hb=>(nomatch hb)
  |_=>rw[hy]at hf;cases hf
 |non=>rw[hx]at hf;cases hf
 |bl _=>rw[hx]at hf;cases hf
 |int _=>rw[hx]at hf;cases hf
 |dct _=>rw[hx]at hf;cases hf
 |obj _ _=>rw[hx]at hf;cases hf
theorem q_ix(ha:QV X Z qa a ea)(hb:QV X Z true b eb)(hs:kvk eb)(hK:X.K=Z.K:=by rfl):QV X Z qa (j3 a b) (.Subscript ea eb pos):=
 qX (vzg (hK▸vk7) ha hb hs) fun σ H Q af=>ex8 af λE L r m w hc xc k=>by
  refine wV m w (show bnd (a E) _=some r from hc) xc λE1 s h1 x L1 H1 e1 e2 m1 w1 ok fr sr st sm=>?_
  refine wV m1 w1 h1 (xc.step st) λE2 s2 h2 y L2 H2 e3 e4 m2 w2 ig fr2 sr2 bg em=>?_
  obtain⟨z,hz,rfl⟩:=K5 h2;cases hf:k6 s.2 s2.2 with
  |none=>rw[hf]at hz;cases hz
  |some d=>
   rw[hf]at hz;cases oq9 hz;have kx:=YQ ok fr bg (em rfl);refine vvn kx.1 ig (by rw[e2,e4];exact hf) λz zo zd ot zf za=>?_
   exact k _ _ rfl z L2 H2 (by rw[zo,e1]) zd m2 w2 ot (λb hb=>kx.2 b (zf b hb)) (jx1 sr za) (st.trans bg) λhq=>qK (sm hq) (em rfl)
theorem qz4(ht:QT X Z q u e)(ha:QE X Z q a ea)(hb:QE X Z q b eb):QE X Z q (cIf u a b) (.IfExp e ea eb pos):=qX (qzg ht ha hb) fun σ H Q af=>ex8 af λE L r m w hc xc k=>
 qxp m w (show bnd (u E) _=some r from hc) xc λE1 s h1 L1 H1 m1 w1 st sm=>by
  have fin:∀{c:Ex},c E1=some r->tQ Z q c σ H1 Q:=λhc=>⟨E1,L1,r,m1,w1,hc,xc.step st,λE' a z x L' H' e1 e2 m' w' df fy=>k E' a z x L' H' e1 e2 m' w' (st.trans df) λhq=>⟨qK (sm hq) (fy hq).1,λb hb=>xX (sm hq) ((fy hq).2 b hb)⟩⟩
  cases s with
  |true=>rw[Xb rfl]at h1 ⊢;exact fin h1
  |false=>rw[Xe (by decide)]at h1 ⊢;exact fin h1
theorem qqv{op}(h:QE X Z q a ea):QE X Z q a (.BoolOp op [ea] pos):=vzd h
theorem vqi(ha:QV X Z q a ea)(hb:QE X Z q b (.BoolOp .And (eb::es) pos)):QE X Z q (V0 a b) (.BoolOp .And (ea::eb::es) pos):=qX (vzi ha hb) fun σ H Q af=>ex8 af λE L r m w hc xc k=>
 wV m w (show bnd (a E) _=some r from hc) xc λE1 s h1 x L1 H1 e1 e2 m1 w1 ok fr sr st sm=>by
  cases hs:s.2 with
  | bl kk=>
   rw[hs]at h1;refine⟨kk,W0 ok (e2.trans hs),?_⟩;cases kk with
   |true=>
    rw[Xb rfl];exact⟨E1,L1,r,m1,w1,h1,xc.step st,λE' a z x L' H' e1 e2 m' w' df fy=>k E' a z x L' H' e1 e2 m' w' (st.trans df) λhq=>⟨qK (sm hq) (fy hq).1,λb hb=>xX (sm hq) ((fy hq).2 b hb)⟩⟩
   |false=>
    rw[Xe (by decide)];cases oq9 h1;obtain⟨w3,cn⟩:=Q5 w1 st (xv (K:=Z.K) (H:=H1) (i:=false) (fr:=[])) (λ_ z=>(nomatch z)) (λ_ z=>(nomatch z)) (λ_ z=>(nomatch z));exact k _ _ rfl ⟨.dp,.bl false,.bl false,[]⟩ L1 H1 rfl rfl m1 w3 cn λhq=>⟨sm hq,λ_ z=>(nomatch z)⟩
  |_=>rw[hs]at h1;cases h1
theorem q_or(ha:QV X Z q a ea)(hb:QE X Z q b (.BoolOp .Or (eb::es) pos)):QE X Z q (cOr a b) (.BoolOp .Or (ea::eb::es) pos):=qX (wq6 ha hb) fun σ H Q af=>ex8 af λE L r m w hc xc k=>
 wV m w (show bnd (a E) _=some r from hc) xc λE1 s h1 x L1 H1 e1 e2 m1 w1 ok fr sr st sm=>by
  cases hs:s.2 with
  | bl kk=>
   rw[hs]at h1;refine⟨kk,W0 ok (e2.trans hs),?_⟩;cases kk with
   |false=>
    rw[Xe (by decide)];exact⟨E1,L1,r,m1,w1,h1,xc.step st,λE' a z x L' H' e1 e2 m' w' df fy=>k E' a z x L' H' e1 e2 m' w' (st.trans df) λhq=>⟨qK (sm hq) (fy hq).1,λb hb=>xX (sm hq) ((fy hq).2 b hb)⟩⟩
   |true=>
    rw[Xb rfl];cases oq9 h1;obtain⟨w3,cn⟩:=Q5 w1 st (xv (K:=Z.K) (H:=H1) (i:=true) (fr:=[])) (λ_ z=>(nomatch z)) (λ_ z=>(nomatch z)) (λ_ z=>(nomatch z));exact k _ _ rfl ⟨.dp,.bl true,.bl true,[]⟩ L1 H1 rfl rfl m1 w3 cn λhq=>⟨sm hq,λ_ z=>(nomatch z)⟩
  |_=>rw[hs]at h1;cases h1
theorem truV{x:Sl}{k:Bool}(ok:x.ok K H)(h:truth x.d=some k)(hd:∀kvs,x.d≠.dct kvs):wv6 K x.v H k:=by
 cases hx:x.d with
 |non=>rw[hx]at h;rw[vjz ok hx];exact(oq9 h).symm
 |bl b=>rw[hx]at h;rw[W0 ok hx];exact(oq9 h).symm
 |int i=>rw[hx]at h;rw[wv ok hx];exact(oq9 h).symm
 |str z=>
  rw[hx]at h;obtain⟨e,hz⟩:=xx ok hx;rw[e];refine⟨hz,?_⟩;rw[<-oq9 h];show(z.cps.size != 0)=(((z.cps.size:Nat):Int) != 0);rw[Bool.eq_iff_iff];simp
 |lst ds=>
  rw[hx]at h;obtain⟨a,xs,bs,e,q,r,_⟩:=items ok (.inl hx);rw[e];have q':LsR K H a xs:=by rcases q with⟨_,z⟩|⟨z,_⟩;exact z;rw[hx]at z;cases z
  refine .inl ⟨xs,Jv q',?_⟩;rw[<-oq9 h];have:=r.len;cases ds<;>cases xs<;>simp_all
 |tup ds=>
  rw[hx]at h;obtain⟨a,xs,bs,e,q,r,_⟩:=items ok (.inr hx);rw[e];have q':SqT K H a xs:=by rcases q with⟨z,_⟩|⟨_,z⟩;rw[hx]at z;cases z;exact z
  refine .inr (.inl ⟨xs,q',?_⟩);rw[<-oq9 h];have:=r.len;cases ds<;>cases xs<;>simp_all
 |dct kvs=>exact absurd hx (hd kvs)
 |obj c f=>rw[hx]at h;cases h
theorem qq9{d:D}{k:Bool}(h:truthQ d=some k):truth d=some k/\∀kvs,d≠.dct kvs:=by
 cases d<;>first|exact⟨h,λ_ z=>nomatch z⟩|cases h
theorem Z0(h:QV X Z q a ea)(he:∀dy,isTrue ea X.env dy=(do let v <-dy;standAt ea.pos;holding [v] (truthy v)):=by intro _;rfl)(hK:X.K=Z.K:=by rfl):QT X Z q (tEQ a) ea:=qqy (qz6 h he) fun σ H Q af=>ex8 af λE L r m w hc xc k=>
 wV m w (show bnd (a E) _=some r from hc) xc λE1 s h1 x L1 H1 e1 e2 m1 w1 ok fr sr st sm=>by
  obtain⟨kk,hk,rfl⟩:=K5 h1;obtain⟨h2,h3⟩:=qq9 hk;exact⟨kk,hK▸truV ok (by rw[e2];exact h2) (by rw[e2];exact h3),k _ _ rfl L1 H1 m1 w1 st sm⟩
end
theorem kj0{α:Type}:∀{L:List α} {i:Nat} {q:α},L[i]?=some q->∃A B,L=A++q::B/\∀q',L.set i q'=A++q'::B
 |[],_,_,h=>by simp at h
 |a::L,0,q,h=>by
  have e:a=q:=by simpa using h
  subst e;exact⟨[],L,rfl,λ_=>rfl⟩
 |a::L,i+1,q,h=>by
  obtain⟨A,B,e,f⟩:=kj0 (L:=L) (i:=i) (by simpa using h);exact⟨a::A,B,by rw[e];rfl,λq'=>by rw[List.set_cons_succ,f];rfl⟩
section
variable {K:PySem.W.Frag}{H:Hp}{M T L:Ls}{y y':Sl}{l:Addr}{ob:HO}
theorem World.write(w:World K H (some y::(T++M)))(hl:l∈y.own)(ok':y'.ok K (upd H l ob))(nd:y'.own.Nodup)(h1:∀a∈y'.own,a∈y.own\/a∈j7 T)(h2:∀a∈y'.frz,a∈y.as\/a∈j7 T\/a∈jV T)(h3:∀a∈y'.own,a∉y'.frz):
  World K (upd H l ob) (some y'::M)/\Step H (some y::(T++M)) (upd H l ob) (some y'::M):=by
 have wn:=w.nd;rw [jJ,jW,X6,X6]at wn;obtain⟨n1,⟨n2,n3,n4⟩,n5⟩:=wn;have oy:l∈j7 (some y::(T++M)):=by rw[jJ];exact ll9 _ hl
 have ky:=w.own_al oy;have ds:∀a,(a∈y.own\/a∈j7 T\/a∈j7 M)->¬(a∈y.frz\/a∈jV T\/a∈jV M):=λa ha hf=>by
  refine w.ds a ?_ ?_
  ·rw[jJ,jW];rcases ha with z|z|z
   ·exact ll9 _ z
   ·exact lr9 _ (ll9 _ z)
   ·exact lr9 _ (lr9 _ z)
  ·rw[qw,qv];rcases hf with z|z|z
   ·exact ll9 _ z
   ·exact lr9 _ (ll9 _ z)
   ·exact lr9 _ (lr9 _ z)
 have noM:∀z,some z∈M->l∉z.as:=λz hz ha=>by
  rcases Sl.as_of ha with q|q
  ·exact n5 l hl l (lr9 _ (mem_owned.mpr ⟨z,hz,q⟩)) rfl
  ·exact ds l (.inl hl) (.inr (.inr (mem_frozen.mpr ⟨z,hz,q⟩)))
 have ke:∀a o,H a=some o->a≠l->upd H l ob a=some o:=λa o e ne=>by rw[qz ne];exact e
 have kp:∀as:List Addr,l∉as->Kp H (upd H l ob) as:=λas hn=>by
  refine⟨λa xs e=>ke a _ e λz=>?_,λa o u e=>ke a _ e λz=>?_,λa ha o e=>ke a o e λz=>hn (z▸ha)⟩
  ·subst z;rcases ky with⟨_,q⟩|⟨_,q⟩|⟨_,q⟩<;>(rw[e]at q;cases q)
  ·subst z;rcases ky with⟨_,q⟩|⟨_,q⟩|⟨_,q⟩<;>(rw[e]at q;cases q)
 have wM:World K (upd H l ob) M:=by
  have w1:World K H M:=w.tail.right;exact⟨λz hz=>RepO.kp (w1.ok z hz) (kp _ (noM z hz)),w1.nd,w1.ds⟩
 refine⟨wM.cons ok' nd (λa ha hM=>?_) (λa ha hM=>?_) (λa ha hM=>?_) h3,λa o e hn=>ke a o e λz=>hn (z▸oy),λa ha=>?_,λa ha=>?_⟩
 ·rcases h1 a ha with z|z
  ·exact n5 a z a (lr9 _ hM) rfl
  ·exact n4 a z a hM rfl
 ·rcases h1 a ha with z|z
  ·exact ds a (.inl z) (.inr (.inr hM))
  ·exact ds a (.inr (.inl z)) (.inr (.inr hM))
 ·rcases h2 a ha with z|z|z
  ·rcases Sl.as_of z with z|z
   ·exact n5 a z a (lr9 _ hM) rfl
   ·exact ds a (.inr (.inr hM)) (.inl z)
  ·exact n4 a z a hM rfl
  ·exact ds a (.inr (.inr hM)) (.inr (.inl z))
 ·rw[jJ]at ha;rw[jJ,jW];rcases List.mem_append.mp ha with z|z
  ·rcases h1 a z with z|z
   ·exact .inl (ll9 _ z)
   ·exact .inl (lr9 _ (ll9 _ z))
  ·exact .inl (lr9 _ (lr9 _ z))
 ·rw[qw]at ha;rw[jJ,jW,qw,qv];rcases List.mem_append.mp ha with z|z
  ·rcases h2 a z with z|z|z
   ·rcases Sl.as_of z with z|z
    ·exact .inr (.inl (ll9 _ z))
    ·exact .inl (ll9 _ z)
   ·exact .inr (.inl (lr9 _ (ll9 _ z)))
   ·exact .inl (lr9 _ (ll9 _ z))
  ·exact .inl (lr9 _ (lr9 _ z))
theorem World.writeAt{i:Nat}(w:World K H (T++L))(hy:L[i]?=some (some y))(hl:l∈y.own)(ok':y'.ok K (upd H l ob))(nd:y'.own.Nodup)(h1:∀a∈y'.own,a∈y.own\/a∈j7 T)(h2:∀a∈y'.frz,a∈y.as\/a∈j7 T\/a∈jV T)(h3:∀a∈y'.own,a∉y'.frz):
  World K (upd H l ob) (L.set i (some y'))/\Step H (T++L) (upd H l ob) (L.set i (some y')):=by
 obtain⟨A,B,e,f⟩:=kj0 hy;rw[f];subst e;have p:(T++(A++some y::B)).Perm (some y::(T++(A++B))):=by
  refine(List.Perm.append_left T (List.perm_middle (a:=some y) (l₁:=A) (l₂:=B))).trans List.perm_middle
 obtain⟨w2,s2⟩:=World.write (M:=A++B) (w.perm p) hl ok' nd h1 h2 h3;exact⟨w2.perm List.perm_middle.symm,s2.perm p.symm List.perm_middle.symm⟩
end
theorem RepA.snoc{K:PySem.W.Frag}{H:Hp}{g:Bool}{d:D}{x:V}{cs:List Addr}(h:RepL K H g d x cs){ds:List D}{xs:List V}{bs:List Addr}(r:RepA K H g ds xs bs):RepA K H g (ds++[d]) (xs++[x]) (bs++cs):=by
 refine RepA.app ?_ r;unfold RepA;exact⟨x,[],cs,[],rfl,by simp,h,by unfold RepA;exact⟨rfl,rfl⟩⟩
theorem qvd{K:PySem.W.Frag}{H:Hp}{y:Sl}{ds:List D}(ok:y.ok K H)(hd:y.d=.lst ds)(ho:y.o≠.no):∃l xs bs,y.v=.ref l/\H l=some (.lst xs)/\y.as=l::bs/\l∈y.own/\RepA K H (y.o != .dp) ds xs bs:=by
 obtain⟨o,d,v,as⟩:=y;dsimp only at hd ho;subst hd;cases o with
 |no=>exact absurd rfl ho
 |rt=>
  obtain⟨a,xs,bs,rfl,r,q,rfl⟩:=(show RepR K H (.lst ds) v as from ok);exact⟨a,xs,bs,rfl,q,rfl,by simp[Sl.own],r⟩
 |dp=>
  have ok:RepL K H false (.lst ds) v as:=ok;unfold RepL at ok;obtain⟨a,xs,bs,rfl,r,q⟩:=ok;rcases q with⟨q,rfl⟩|⟨z,_⟩
  ·exact⟨a,xs,bs,rfl,q,rfl,by simp[Sl.own],r⟩
  ·cases z
theorem kxj{K:PySem.W.Frag}{H:Hp}{T L:Ls}{i:Nat}{y:Sl}{l:Addr}{xs xs':List V}{bs cs:List Addr}{o':Own}{ds':List D}(w:World K H (T++L))(hy:L[i]?=some (some y))(hH:H l=some (.lst xs))(ha:y.as=l::bs)(hl:l∈y.own)(hv:y.v=.ref l)
  (r:RepA K H (o' != .dp) ds' xs' cs) (hc:(o'=.rt/\∀a∈cs,a∈bs\/a∈j7 T\/a∈jV T)\/(o'=.dp/\y.o=.dp/\cs.Nodup/\∀a∈cs,a∈bs\/a∈j7 T)):
  World K (upd H l (.lst xs')) (L.set i (some ⟨o',.lst ds',y.v,l::cs⟩))/\Step H (T++L) (upd H l (.lst xs')) (L.set i (some ⟨o',.lst ds',y.v,l::cs⟩)):=by
 have oL:l∈j7 L:=mem_owned.mpr ⟨y,wZ hy,hl⟩;have oy:l∈j7 (T++L):=by rw[jW];exact lr9 _ oL
 have nd:=w.nd;rw [jW,X6]at nd;have nT:l∉j7 T:=λz=>nd.2.2 l z l oL rfl
 have nF:l∉jV T:=λz=>w.ds l oy (by rw[qv];exact ll9 _ z)
 have yn:y.own.Nodup:=by
  obtain⟨A,B,e,_⟩:=kj0 hy;have:=nd.2.1;rw[e,jW,jJ,X6]at this;exact(List.nodup_append.mp this.2.1).1
 have nb:l∉bs:=λz=>by
  cases ho:y.o with
  | no=>unfold Sl.own at hl;rw[ho]at hl;exact nomatch hl
  | rt=>
   have:l∈y.frz:=by unfold Sl.frz;rw[ho,ha];exact z
   exact w.ds l oy (by rw[qv];exact lr9 _ (mem_frozen.mpr ⟨y,wZ hy,this⟩))
  | dp=>
   unfold Sl.own at yn;rw[ho,ha]at yn;exact(List.nodup_cons.mp yn).1 z
 have nc:l∉cs:=λz=>by
  rcases hc with⟨_,hc⟩|⟨_,_,_,hc⟩
  ·rcases hc l z with q|q|q
   ·exact nb q
   ·exact nT q
   ·exact nF q
  ·rcases hc l z with q|q
   ·exact nb q
   ·exact nT q
 have kp:Kp H (upd H l (.lst xs')) cs:=by
  have k2:∀a o,H a=some o->a≠l->upd H l (.lst xs') a=some o:=λa o e ne=>by rw[qz ne];exact e
  refine⟨λa zs e=>k2 a _ e λz=>?_,λa o u e=>k2 a _ e λz=>?_,λa ha o e=>k2 a o e λz=>nc (z▸ha)⟩
  ·subst z;rw[hH]at e;cases e
  ·subst z;rw[hH]at e;cases e
 have r':=r.kp kp;rcases hc with⟨rfl,hc⟩|⟨rfl,hdp,mx,hc⟩
 ·refine World.writeAt w hy hl (y':=⟨.rt,.lst ds',y.v,l::cs⟩) ⟨l,xs',cs,hv,r',wQ,rfl⟩ (by simp[Sl.own]) (λa h=>?_) (λa h=>?_) (λa h z=>?_)
  ·have:a=l:=by simpa [Sl.own]using h
   subst this;exact .inl hl
  ·rcases hc a (by simpa [Sl.frz]using h)with q|q
   ·exact .inl (by rw[ha];exact lc9 _ q)
   ·exact .inr q
  ·have:a=l:=by simpa [Sl.own]using h
   subst this;exact nc (by simpa [Sl.frz]using z)
 ·have oa:y.own=y.as:=by unfold Sl.own;rw[hdp]
  refine World.writeAt w hy hl (y':=⟨.dp,.lst ds',y.v,l::cs⟩) ?_ (List.nodup_cons.mpr ⟨nc,mx⟩) (λa h=>?_) (λa h=>(nomatch h)) (λa h z=>(nomatch z))
  ·show RepL K _ false (.lst ds') y.v (l::cs);unfold RepL;exact⟨l,xs',cs,hv,r',.inl ⟨wQ,rfl⟩⟩
  ·rcases List.mem_cons.mp (show a∈l::cs from h)with q|q
   ·subst q;exact .inl hl
   ·rcases hc a q with q|q
    ·exact .inl (by rw[oa,ha];exact lc9 _ q)
    ·exact .inr q
section
variable {X:Cx}{Z:Fx0}{pn:List Nat}{q:Bool}{c:Ex}{e:Expr}{σ:L2.St}{H:Hp}{L:Ls}{E:En}
theorem wj2{K:PySem.W.Frag}{x:Sl}{ds:List D}(ok:x.ok K H)(hd:x.d=.lst ds):tyV K "list" x.v H:=by
 obtain⟨a,xs,bs,e1,q1,_⟩:=items ok (.inl hd);rw[e1];rcases q1 with⟨_,z⟩|⟨z,_⟩
 ·exact .inl ⟨rfl,xs,z.sq⟩
 ·rw[hd]at z;cases z
theorem wqo{K:PySem.W.Frag}{x:Sl}(ok:x.ok K H)(b:Bool)(hb:b=false->vJ x.sd=true):∃cs,RepL K H b x.d x.v cs/\(∀a∈cs,a∈x.as)/\(b=false->∀a∈cs,a∈x.own)/\(b=false->x.own.Nodup->cs.Nodup):=by
 cases b with
 | true=>exact⟨x.as,RepO.wk ok,λ_ h=>h,(λz=>by cases z),(λz=>by cases z)⟩
 | false=>
  have t:=hb rfl;unfold vJ at t
  by_cases ho:x.o=.dp
  ·have e:x.own=x.as:=by unfold Sl.own;rw[ho]
   refine⟨x.as,?_,λ_ h=>h,λ_ a h=>by rw[e];exact h,λ_ n=>by rw[e]at n;exact n⟩;have:=ok;unfold Sl.ok at this;rw[ho]at this;exact this
  ·have hp:x.d.pure=true:=by
    rcases Bool.or_eq_true_iff.mp t with z|z
    ·exact absurd (by simpa using z) ho
    ·exact z
   obtain⟨z,rp⟩:=RepL.pu (g':=false) (RepO.wk ok) hp;exact⟨[],rp,λ_ h=>(nomatch h),λ_ _ h=>(nomatch h),λ_ _=>Xr⟩
theorem xK{α:Type}{l:List α}{i:Nat}{x:α}(h:l[i]?=some x):l.set i x=l:=by
 obtain⟨h1,h2⟩:=List.getElem?_eq_some_iff.mp h;rw[<-h2];simp
theorem mut1 {D':Ends} {f:List D->D->Option (List D)} {i:Nat} {r:Fl} {G:V->V->Hp->Prop} (m:Mt E σ L) (w:World Z.K H L) (hc:k9 f i c E=some r) (k:FlP Z pn D' σ H L r)
  (g:∀ (l:Addr) (x:V) (xs:List V) (ds ds':List D) (d:D) (bs cs:List Addr) (H1:Hp) (gg:Bool),f ds d=some ds'->H1 l=some (.lst xs)->RepA Z.K H1 gg ds xs bs->RepL Z.K H1 gg d x cs ->
   (∀ xs' es,RepA Z.K H1 gg ds' xs' es->(∀a∈es,a∈bs\/a∈cs)->((bs++cs).Nodup->es.Nodup)->D'.nx σ (upd H1 l (.lst xs')))->G (.ref l) x H1):
  ∃ v,σ[i]?=some (some v)/\tyV Z.K "list" v H/\tQ Z q c σ H (G v):=by
 unfold k9 at hc;cases h0:E[i]? with
 | none=>rw[h0]at hc;cases hc
 | some s0 =>
  cases s0 with
  | none=>rw[h0]at hc;cases hc
  | some s0=>
   obtain ⟨o0,d0⟩:=s0;cases d0 with
   | lst ds0=>
    rw [h0,Xb (show qzu (some (some (o0,D.lst ds0)))=true from rfl)]at hc;obtain ⟨x0,a1,a2,a3,a4⟩:=m.get h0;refine ⟨x0.v,a4,wj2 (w.ok x0 (wZ a1)) a3,?_⟩;refine Wz m w hc k λE1 s h1 x L1 H1 e1 e2 m1 w1 st _=>?_
    cases hE:E1[i]? with
    | none=>rw[hE]at h1;cases h1
    | some s1=>
     cases s1 with
     | none=>rw[hE]at h1;cases h1
     | some s1=>
      obtain⟨oo,dd⟩:=s1;rw [hE]at h1;cases dd with
      | lst ds=>
       dsimp only at h1
       by_cases io:oo=.no
       ·rw [Xb io]at h1;cases h1
       ·rw [Xe io]at h1;cases hfd:f ds s.2 with
        | none=>rw[hfd]at h1;cases h1
        | some ds'=>
         rw[hfd]at h1;obtain⟨y,b1,b2,b3,b4⟩:=m1.get hE;have hv:y.v=x0.v:=by rw[a4]at b4;exact(oq9 (oq9 b4)).symm
         obtain⟨l,xs,bs,c1,c2,c3,c4,c5⟩:=qvd (w1.ok y (lc9 _ (wZ b1))) b3 (by rw[b2];exact io);have ex0:x0.v=.ref l:=hv▸c1;rw[ex0];have wT:World Z.K H1 ([some x]++L1):=w1;have okx:=w1.head;have nd:=w1.nd;rw[jJ,X6]at nd;have oT:j7 [some x]=x.own:=by simp
         have fT:jV [some x]=x.frz:=by simp
         by_cases hd:oo=.dp/\vJ s=true
         ·rw[Xb hd]at h1;cases oq9 h1;have hyo:y.o=.dp:=b2.trans hd.1;rw[hyo]at c5;obtain⟨cs,r1,h3,h4,h5⟩:=wqo okx false λ_=>by rw[show x.sd=s from by simp[Sl.sd,e1,e2]];exact hd.2
          refine g l x.v xs ds ds' s.2 bs cs H1 false hfd c2 c5 (by rw[<-e2];exact r1) λxs' es re he hn=>?_
          have ynd:(bs++cs).Nodup:=by
           have yo:y.own=l::bs:=by unfold Sl.own;rw[hyo,c3]
           obtain⟨A,B,e,_⟩:=kj0 b1;have q:=nd.2.1;rw[e,jW,jJ,X6]at q;have q2:=(List.nodup_append.mp q.2.1).1;rw[yo]at q2;rw[X6];refine⟨(List.nodup_cons.mp q2).2,h5 rfl nd.1,λa ha b hb le=>?_⟩;subst le;exact nd.2.2 a (h4 rfl a hb) a (mem_owned.mpr ⟨y,wZ b1,by rw[yo];exact lc9 _ ha⟩) rfl
          obtain⟨w3,s3⟩:=kxj (o':=.dp) (ds':=ds') (xs':=xs') wT b1 c2 c3 c4 c1 re (.inr ⟨rfl,hyo,hn ynd,λa ha=>(he a ha).imp id λz=>by rw[oT];exact h4 rfl a z⟩);refine k σ _ _ Pn.refl ?_ w3 (st.trans s3);have:=m1.set (x:=⟨.dp,.lst ds',y.v,l::es⟩) i;rw[xK b4]at this;exact this
         ·rw[Xe hd]at h1;cases oq9 h1;have c6:RepA Z.K H1 true ds xs bs:=by
           cases hb:(y.o != .dp)with
           |true=>rw[hb]at c5;exact c5
           |false=>rw[hb]at c5;exact c5.wk
          refine g l x.v xs ds ds' s.2 bs x.as H1 true hfd c2 c6 (by rw[<-e2];exact RepO.wk okx) λxs' es re he hn=>?_
          obtain⟨w3,s3⟩:=kxj (o':=.rt) (ds':=ds') (xs':=xs') wT b1 c2 c3 c4 c1 re (.inl ⟨rfl,λa ha=>(he a ha).imp id λz=>by rw[oT,fT];exact Sl.as_of z⟩);refine k σ _ _ Pn.refl ?_ w3 (st.trans s3);have:=m1.set (x:=⟨.rt,.lst ds',y.v,l::es⟩) i;rw[xK b4]at this;exact this
      |_=>cases h1
   |_=>rw[h0]at hc;cases hc
theorem wq1{i:Nat}{o:Expr}{apos aa pos:Pos}(hb:PE X (.Call (.Attribute o "append" apos) [e] [] aa) (tBM Z.K "list" ZQ (J9 i) (vx7 (tQ Z q c) wvb)))(hs:swapsWith (.Call (.Attribute o "append" apos) [e] [] aa) none pos.line X.env=pure false:=by rfl):
  QS X Z pn (k9 kj i c) (.Expr (.Call (.Attribute o "append" apos) [e] [] aa) pos):=xk (kja hb hs) λD σ H af=>ex7 af λE L r m w hc k=>
 mut1 (G:=λv x H1=>ZQ v [x] H1 λ_ H2=>D.nx σ H2) m w hc k λl x xs ds ds' d bs cs H1 gg hf hH ra rx fin=>by
  unfold kj at hf
  by_cases hl:ds.length<big
  ·rw[Xb hl]at hf;cases oq9 hf;exact⟨l,xs,x,rfl,rfl,hH,by rw[<-ra.len];exact hl,fin (xs++[x]) (bs++cs) (RepA.snoc rx ra) (λa ha=>List.mem_append.mp ha) λh=>h⟩
  ·rw[Xe hl]at hf;cases hf
end
section
variable {X:Cx}{Z:Fx0}{pn:List Nat}{q:Bool}{a b c:Ex}{tg e ea eb:Expr}{σ:L2.St}{H:Hp}{L:Ls}{E:En}{pos p:Pos}
theorem vx9{pins:List (Addr×Obj)}{H1:Hp}{s1:Shared}{x:Str}{t:Tok}{R:It->Hp->Prop}(I1:L2.Inv X pins σ H1 s1)(q:R (Its x) H1):wpAny (model X.prog X.w) X.A (pyIter (.str x t)) (PIE X pins σ tg R) X.xe s1:=by
 have fp:∀b∈[s1.heap.objs.size],wq X pins H1 b:=λb hb=>by
  have e:b=s1.heap.objs.size:=by simpa using hb
  subst e;exact I1.fpOk (X8 _) (I1.hok.fresh (X8 _))
 cases ha:x.cps.all (· < 128)
 ·exact wpAny_pyIter_wide ha ⟨s1.heap.objs.size,[s1.heap.objs.size],_,_,H1,rfl,I1.kept (t':=s1.toks) λb o e=>X9 _ e,kzo (λA' hA=>PySem.Walks.strWide hA _ x t) (λ_ _ _ _ _ st h=>wpAny_pyIter_striter_wide st h) (by decide),⟨_,Xj _ rfl,rfl,rfl⟩,fp,q⟩
 ·exact wpAny_pyIter_ascii ha ⟨s1.heap.objs.size,[s1.heap.objs.size],_,_,H1,rfl,I1.kept (t':=s1.toks) λb o e=>X9 _ e,kzo (λA' hA=>PySem.Walks.strAscii hA _ x t) (λ_ _ _ _ _ st h=>wpAny_pyIter_striter_ascii st h) (by decide),⟨_,Xj _ rfl,rfl,rfl⟩,fp,q⟩
theorem vzu{K:PySem.W.Frag}{H:Hp}(c:Nat):Sl.ok K H ⟨.no,.str ⟨#[c]⟩,.str ⟨#[c]⟩,[]⟩:=by
 show RepL K H true _ _ _;exact kj8 (show(1:Nat)<=sizeLine by decide)
theorem vzt{K:PySem.W.Frag}{H:Hp}(i:Int):Sl.ok K H ⟨.no,.int i,.int i,[]⟩:=by
 show RepL K H true _ _ _;exact JQ
def iAny(K:PySem.W.Frag)(tl:TE):TI:=fun σ H R=>tl σ H λx H1=>(∃a xs,x=.ref a/\SqL K H1 a xs/\(xs.length<=sizeLine->R (Itl K a) H1))\/(∃a xs,x=.ref a/\SqT K H1 a xs/\(xs.length<=sizeLine->R (Itt K a) H1))\/∃z,x=.str z/\R (Its z) H1
theorem vza{l:Expr}{tl:TE}(hl:PE X l tl):PI X tg l (iAny X.K tl):=by
 intro pins s σ H R I h;have h':tl σ H λx H1=>(∃a xs,x=.ref a/\SqL X.K H1 a xs/\(xs.length<=sizeLine->R (Itl X.K a) H1))\/(∃a xs,x=.ref a/\SqT X.K H1 a xs/\(xs.length<=sizeLine->R (Itt X.K a) H1))\/∃z,x=.str z/\R (Its z) H1:=h
 refine thn (hl pins s σ H _ I h') λv s1 ⟨x,H1,I1,r1,q1⟩=>?_
 rcases q1 with⟨a,xs,rfl,hq,q⟩|⟨a,xs,rfl,hq,q⟩|⟨z,rfl,q⟩
 ·cases r1;obtain⟨a9,rv,p,hz⟩:=I1.list hq;refine wpAny_pyIter_list p.isList ?_;refine⟨s1.heap.objs.size,[s1.heap.objs.size],_,_,H1,rfl,I1.kept (t':=s1.toks) λb o e=>X9 _ e,kvq a _,⟨_,Xj _ rfl,rfl,rfl⟩,λb hb=>?_,q hz⟩;have e:b=s1.heap.objs.size:=by simpa using hb
  subst e;exact I1.fpOk (X8 _) (I1.hok.fresh (X8 _))
 ·cases r1;obtain⟨a9,rv,p,hz⟩:=I1.tuple hq;refine wpAny_pyIter_tuple (show s1.heap.IsTuple a a9.toArray from p) ?_;refine⟨s1.heap.objs.size,[s1.heap.objs.size],_,_,H1,rfl,I1.kept (t':=s1.toks) λb o e=>X9 _ e,qk4 a _,⟨_,Xj _ rfl,rfl,rfl⟩,λb hb=>?_,q hz⟩;have e:b=s1.heap.objs.size:=by simpa using hb
  subst e;exact I1.fpOk (X8 _) (I1.hok.fresh (X8 _))
 ·obtain⟨t,rfl⟩:=r1;exact vx9 I1 q
theorem zk(h:QE X Z q c e)(hK:X.K=Z.K:=by rfl):QI X Z q tg (itS c) e:=λpins s σ H R I af=>ex8 af λE L r m w hc xc k=>by
 refine(hK▸vza h) pins s σ H R I ?_;refine W6 m w (show bnd (c E) _=some r from hc) xc λE1 s h1 x L1 H1 e1 e2 m1 w1 st sm=>?_
 obtain⟨ds,hd,rfl⟩:=K5 h1;have ok:=w1.head;have wT:World Z.K H1 (L1++[x.let].map some):=by
  refine World.comm (L:=[some x.let]) ?_;exact w1.tail.consNo (KJ ok) rfl λb hb=>w1.apart b hb
 have sT:Step H L H1 (L1++[x.let].map some):=by
  refine⟨st.keep,λb hb=>?_,λb hb=>?_⟩
  ·have:b∈j7 L1:=by simpa [W8]using hb
   exact st.own b (by rw[jJ];exact lr9 _ this)
  ·have:b∈jV L1\/b∈x.as:=by simpa [W8]using hb
   rcases this with z|z
   ·exact st.frz b (by rw[qw];exact lr9 _ z)
   ·exact jzr st b z
 cases hx:x.d with
 | lst es=>
  rw[<-e2,hx]at hd;have lu:es=ds:=oq9 hd;subst lu;obtain⟨a,xs,bs,ev,q3,r3,h3,_⟩:=items ok (.inl hx);have q3:LsR Z.K H1 a xs:=by rcases q3 with⟨_,z⟩|⟨z,_⟩;exact z;rw[hx]at z;cases z
  have bi:∀H2:Hp,(∀t∈[x.let],t.ok Z.K H2)->∃ys cs,SqL Z.K H2 a ys/\RepA Z.K H2 true es ys cs/\∀b∈cs,b∈x.as:=λH2 hok=>by
   obtain⟨a',ys,cs,pz,q4,r4,h4,_⟩:=items (hok x.let (List.mem_singleton.mpr rfl)) (.inl hx);have:a'=a:=by have:=pz.symm.trans ev;exact V.ref.inj this
   subst this;rcases q4 with⟨_,z⟩|⟨z,_⟩
   ·exact⟨ys,cs,z.sq,r4,h4⟩
   ·rw[show x.let.d=D.lst es from hx]at z;cases z
  refine .inl ⟨a,xs,ev,q3.sq,λae=>k _ _ rfl (Itl Z.K a) [x.let] L1 H1 m1 wT sT (by rw[r3.len];exact ae) (λhq=>(sm hq).1) ⟨λt ht=>by rw[List.mem_singleton.mp ht];rfl,λi H2 hok hi=>?_,λH2 hok=>?_,λi H2 v H3 d hok hy ic=>?_⟩⟩
  ·obtain⟨ys,cs,s1,s2,_⟩:=bi H2 hok;have hl:=s2.len;exact⟨ys,ys[i]'(by omega),s1,X1 (by omega)⟩
  ·obtain⟨ys,cs,s1,s2,_⟩:=bi H2 hok;exact⟨ys,s1,by rw[s2.len];exact X8 _⟩
  ·obtain⟨ys,cs,s1,s2,s3⟩:=bi H2 hok;obtain⟨e3,hy⟩:=hy;subst e3;obtain⟨v',ce,f1,f2,f3⟩:=s2.get ic;have:v'=v:=by have:=hy ys s1;rw[f1]at this;exact oq9 this
   subst this;exact⟨⟨.no,d,v',ce⟩,rfl,rfl,rfl,xJ,f2,λb hb=>⟨x.let,List.mem_singleton.mpr rfl,s3 b (f3 b hb)⟩⟩
 | tup es=>
  rw[<-e2,hx]at hd;have lu:es=ds:=oq9 hd;subst lu;obtain⟨a,xs,bs,ev,q3,r3,h3,_⟩:=items ok (.inr hx);have q3:SqT Z.K H1 a xs:=by rcases q3 with⟨z,_⟩|⟨_,z⟩;rw[hx]at z;cases z;exact z
  have bi:∀H2:Hp,(∀t∈[x.let],t.ok Z.K H2)->∃ys cs,SqT Z.K H2 a ys/\RepA Z.K H2 true es ys cs/\∀b∈cs,b∈x.as:=λH2 hok=>by
   obtain⟨a',ys,cs,pz,q4,r4,h4,_⟩:=items (hok x.let (List.mem_singleton.mpr rfl)) (.inr hx);have:a'=a:=by have:=pz.symm.trans ev;exact V.ref.inj this
   subst this;rcases q4 with⟨z,_⟩|⟨_,z⟩
   ·rw[show x.let.d=D.tup es from hx]at z;cases z
   ·exact⟨ys,cs,z,r4,h4⟩
  refine .inr (.inl ⟨a,xs,ev,q3,λae=>k _ _ rfl (Itt Z.K a) [x.let] L1 H1 m1 wT sT (by rw[r3.len];exact ae) (λhq=>(sm hq).1) ⟨λt ht=>by rw[List.mem_singleton.mp ht];rfl,λi H2 hok hi=>?_,λH2 hok=>?_,λi H2 v H3 d hok hy ic=>?_⟩⟩)
  ·obtain⟨ys,cs,s1,s2,_⟩:=bi H2 hok;have hl:=s2.len;exact⟨ys,ys[i]'(by omega),s1,X1 (by omega)⟩
  ·obtain⟨ys,cs,s1,s2,_⟩:=bi H2 hok;exact⟨ys,s1,by rw[s2.len];exact X8 _⟩
  ·obtain⟨ys,cs,s1,s2,s3⟩:=bi H2 hok;obtain⟨e3,hy⟩:=hy;subst e3;obtain⟨v',ce,f1,f2,f3⟩:=s2.get ic;have:v'=v:=by have:=hy ys s1;rw[f1]at this;exact oq9 this
   subst this;exact⟨⟨.no,d,v',ce⟩,rfl,rfl,rfl,xJ,f2,λb hb=>⟨x.let,List.mem_singleton.mpr rfl,s3 b (f3 b hb)⟩⟩
 | str z=>
  rw[<-e2,hx]at hd;have hd:(if z.cps.size<=big then some (z.cps.toList.map λc=>D.str ⟨#[c]⟩)else none)=some ds:=hd
  split at hd
  ·rename_i hz;cases oq9 hd;refine .inr (.inr ⟨z,(xx ok hx).1,k _ _ rfl (Its z) [] L1 H1 m1 (by simpa using w1.tail) (by simpa using (st.trans Step.drop)) (by rw[X3,Y6];exact hz) (λhq=>(sm hq).1) ⟨λt ht=>(nomatch ht),λi H2 _ hi=>?_,λH2 _=>?_,λi H2 v H3 d _ hy ic=>?_⟩⟩)
   ·show i<z.cps.size
    simpa using hi
   ·show(z.cps.toList.map λc=>D.str ⟨#[c]⟩).length=z.cps.size;simp
   ·obtain⟨e3,cc,hc,rfl⟩:=hy;subst e3;rw[Y2,Yq,hc]at ic;cases oq9 ic;exact⟨⟨.no,.str ⟨#[cc]⟩,.str ⟨#[cc]⟩,[]⟩,rfl,rfl,rfl,xJ,vzu cc,λb hb=>(nomatch hb)⟩
  ·cases hd
 |non=>rw[<-e2,hx]at hd;cases hd
 |bl _=>rw[<-e2,hx]at hd;cases hd
 |int _=>rw[<-e2,hx]at hd;cases hd
 |dct _=>rw[<-e2,hx]at hd;cases hd
 |obj _ _=>rw[<-e2,hx]at hd;cases hd
theorem qk3{K:PySem.W.Frag}(lo hi:Int):Walks K (Itr lo (hi - lo).toNat) [] (jQ lo hi):=by
 have hl:(jQ lo hi).length=(hi - lo).toNat:=by simp[jQ]
 refine⟨λt ht=>(nomatch ht),λi H _ hi'=>by rw[hl]at hi';exact hi',λH _=>by rw[hl];exact X8 _,λi H v H' d _ hy hd=>?_⟩;obtain⟨e,rfl⟩:=hy;subst e;unfold jQ at hd;rw[Y2]at hd;cases hr:(List.range (hi - lo).toNat)[i]? with
 | none=>rw[hr]at hd;cases hd
 | some j=>
  rw[hr]at hd;have:j=i:=by
   obtain⟨_,h2⟩:=List.getElem?_eq_some_iff.mp hr
   simpa using h2.symm
  subst this;cases oq9 hd;exact⟨⟨.no,.int (lo+(j:Int)),.int (lo+(j:Int)),[]⟩,rfl,rfl,rfl,xJ,vzt _,λb hb=>(nomatch hb)⟩
theorem kks{i:Int}(h:xV i=true):-(2 ^ 62)<=i/\i<2 ^ 62:=by
 unfold xV at h
 simpa using h
theorem Qv(ha:QV X Z q a ea)(hg:Gl X "range")(hm:X.mg "range"=none)(b7:starEach [ea] X.env=[(false,eval ea X.env)]:=by rfl):QI X Z q tg (vk a) (.Call (.Name "range" p) [ea] [] pos):=λpins s σ H R I af=>ex8 af λE L r m w hc xc k=>by
 refine(qv4 hg hm (x5 ha xj b7) b7) pins s σ H R I ?_;refine wV m w (show bnd (a E) _=some r from hc) xc λE1 s h1 x L1 H1 e1 e2 m1 w1 ok fr sr st sm=>?_
 cases hx:s.2 with
 | int j=>
  rw[hx]at h1;dsimp only at h1
  split at h1
  ·rename_i hj;cases oq9 h1;obtain⟨j1,j2⟩:=kks hj.1;have hv:=wv ok (e2.trans hx);refine⟨j,by rw[hv],j1,j2,?_⟩;have wk:=qk3 (K:=Z.K) 0 j;rw[Int.sub_zero]at wk;exact k _ _ rfl (Itr 0 j.toNat) [] L1 H1 m1 (by simpa using w1) (by simpa using st) (by simp only[jQ,X3,Yg,Int.sub_zero];exact hj.2) sm wk
  ·cases h1
 |_=>rw[hx]at h1;cases h1
theorem Mt.clr:∀{R:List Nat} {E:En} {L:Ls},Mt E σ L->Mt (Q.clr R E) σ (Q.clr R L)
 | [],_,_,m=>m
 | j::R,E,L,m=>by
  have un:∀{E:En} {σ:L2.St} {L:Ls} (j:Nat),Mt E σ L->Mt (E.set j none) σ (L.set j none):=by
   intro E σ L j m
   induction m generalizing j with
   |nil=>exact .nil
   |un m ih=>cases j with
    |zero=>exact .un m
    |succ j=>exact .un (ih j)
   |cons m ih=>cases j with
    |zero=>exact .un m
    |succ j=>exact .cons (ih j)
  show Mt (Q.clr R (E.set j none)) σ (Q.clr R (L.set j none));exact Mt.clr (un j m)
theorem Mt.drop:∀{E:En} {σ:L2.St} {L:Ls} (k:Nat),Mt E σ L->Mt (E.drop k) (σ.drop k) (L.drop k)
 |_,_,_,0,m=>m
 |_,_,_,k+1,.nil=>.nil
 |_,_,_,k+1,.un m=>m.drop k
 |_,_,_,k+1,.cons m=>m.drop k
theorem Mt.none_at:∀{E:En} {σ:L2.St} {L:Ls} {j:Nat},Mt E σ L->E[j]?=some none->L[j]?=some none
 |_,_,_,_,.nil,h=>by simp at h
 |_,_,_,0,.un _,_=>by simp
 |_,_,_,j+1,.un m,h=>by simpa using m.none_at (j:=j) (by simpa using h)
 |_,_,_,0,.cons _,h=>by simp at h
 |_,_,_,j+1,.cons m,h=>by simpa using m.none_at (j:=j) (by simpa using h)
theorem Mt.pick:∀{R:List Nat},Mt E σ L->Mt (R.map (at' E)) (R.map (at' σ)) (R.map (at' L))
 | [],_=>.nil
 | j::R,m=>by
  rw[List.map_cons,List.map_cons,List.map_cons];cases hE:E[j]? with
  | none=>
   have hl:=m.len;have:L[j]?=none:=by rw[List.getElem?_eq_none_iff]at hE ⊢;omega
   rw[show at' E j=none from by unfold at';rw[hE];rfl,show at' L j=none from by unfold at';rw[this];rfl];exact .un m.pick
  | some s=>
   cases s with
   |none=>
    have:L[j]?=some none:=m.none_at hE;rw[show at' E j=none from by unfold at';rw[hE];rfl,show at' L j=none from by unfold at';rw[this];rfl];exact .un m.pick
   |some s=>
    obtain⟨o,d⟩:=s;obtain⟨x,h1,h2,h3,h4⟩:=m.get hE;rw[show at' E j=some (x.o,x.d)from by unfold at';rw[hE,h2,h3];rfl,show at' L j=some x from by unfold at';rw[h1];rfl,show at' σ j=some x.v from by unfold at';rw[h4];rfl];exact .cons m.pick
theorem Mt.rep:∀{k:Nat},Mt E σ L->Mt (List.replicate k none++E) (List.replicate k none++σ) (List.replicate k none++L)
 |0,m=>by simpa using m
 |k+1,m=>by
  rw[List.replicate_succ,List.replicate_succ,List.replicate_succ];exact .un m.rep
theorem Mt.back:∀{R:List Nat} {B:En} {τ:L2.St} {M:Ls} {E:En} {L:Ls},Mt E σ L->Mt B τ M->(∀(i j:Nat) (v:V),R[i]?=some j->τ[i]?=some (some v)->σ[j]?=some (some v))->Mt (Q.back R B E) σ (Q.back R M L)
 | [],B,τ,M,E,L,m,_,_=>by simpa [Q.back]using m
 | j::R,_,_,_,E,L,m,.nil,_=>by simpa [Q.back]using m
 | j::R,_,_,_,E,L,m,.un mB,h=>by
  have un:∀{E:En} {σ:L2.St} {L:Ls} (j:Nat),Mt E σ L->Mt (E.set j none) σ (L.set j none):=by
   intro E σ L j m
   induction m generalizing j with
   |nil=>exact .nil
   |un m ih=>cases j with
    |zero=>exact .un m
    |succ j=>exact .un (ih j)
   |cons m ih=>cases j with
    |zero=>exact .un m
    |succ j=>exact .cons (ih j)
  show Mt (Q.back R _ (E.set j none)) σ (Q.back R _ (L.set j none));exact Mt.back (un j m) mB λi jj v e1 e2=>h (i+1) jj v (by simpa using e1) (by simpa using e2)
 |j::R,_,_,_,E,L,m,.cons (x:=x) mB,h=>by
  have h0:=h 0 j x.v (by simp) (by simp);have m1:=m.set (x:=x) j;rw[xK h0]at m1;show Mt (Q.back R _ (E.set j _)) σ (Q.back R _ (L.set j _));exact Mt.back m1 mB λi jj v e1 e2=>h (i+1) jj v (by simpa using e1) (by simpa using e2)
section
variable {iter dm:Expr}{db:List Expr}{scope:Scope}{N:List Str}{k:Nat}{R:List Nat}{it:Ev (List D)}{tt:Tg}{u:Ts}{o:Own}{q1 q2:Bool}
theorem vvj:J5 k R σ=List.replicate k none++R.map (at' σ):=rfl
theorem wqh{K:PySem.W.Frag}{M:Ls}(hR:R.Nodup)(w:World K H (L++M)):World K H ((List.replicate k none++R.map (at' L))++(Q.clr R L++M))/\Step H (L++M) H ((List.replicate k none++R.map (at' L))++(Q.clr R L++M)):=by
 have p:(sls (L++M)).Perm (sls ((List.replicate k none++R.map (at' L))++(Q.clr R L++M))):=by
  have:=qjs (R:=R) (L:=L) hR;rw[QK]at this;simp only[QK,vq0,List.nil_append];rw[<-Xq];exact(this.append_right _).symm
 exact⟨w.same p,Step.refl.same (List.Perm.refl _) p⟩
theorem wj4{K:PySem.W.Frag}{B:Ls}{M:Ls}{H2:Hp}(hR:R.Nodup)(hr:∀j∈R,j<L.length)(hB:B.length=k+R.length)(w:World K H2 (B++(Q.clr R L++M))):World K H2 (Q.back R (B.drop k) (Q.clr R L)++M)/\Step H2 (B++(Q.clr R L++M)) H2 (Q.back R (B.drop k) (Q.clr R L)++M):=by
 have p:=kx6 (R:=R) (B:=B.drop k) (L:=Q.clr R L) hR (λj hj=>qww hj) (λj hj=>by rw[qwv];exact hr j hj) (by rw[List.length_drop,hB];omega);have p2:(sls (Q.back R (B.drop k) (Q.clr R L)++M)).Perm (sls (B.drop k++(Q.clr R L++M))):=by
  rw[QK,<-Xq,QK (B.drop k++Q.clr R L)];exact p.append_right _
 have sub:(sls (B.drop k++(Q.clr R L++M))).Sublist (sls (B++(Q.clr R L++M))):=by
  rw[QK,QK B];refine List.Sublist.append ?_ (List.Sublist.refl _);unfold sls;exact(List.drop_sublist k B).filterMap _
 exact⟨(w.sub sub).same p2.symm,(Step.refl.sub sub).same (List.Perm.refl _) p2.symm⟩
theorem kj4:∀{is:List Nat} {es:List D} {E E':En},setAll is es E=some E'->E'.length=E.length
 |[],[],_,_,h=>by cases oq9 h;rfl
 |[],_::_,_,_,h=>by cases h
 |_::_,[],_,_,h=>by cases h
 |i::is,d::es,E,E',h=>by rw[kj4 (E:=E.set i (some (.no,d))) h,Xz]
theorem vqk{t:Tg}{d:D}{E E':En}(h:t.put d E=some E'):E'.length=E.length:=by
 cases t with
 |n i=>cases oq9 h;rw[Xz]
 |t is=>
  cases d with
  |tup es=>exact kj4 (show setAll is es E=some E' from h)
  |lst es=>exact kj4 (show setAll is es E=some E' from h)
  |_=>cases h
theorem qvx{nN:Nat}{Q:VK}(hσ:σ.length=nN)(hR:R.Nodup)(hr:∀j∈R,j<nN)(h:tQ Z q (cLC o k R it tt u c) σ H Q):tLC (tIS Z q it) (tG Z ((List.range R.length).map (k + ·)) tt) (tT Z q u) (tQ Z q c) k R σ H Q:=by
 obtain⟨E,L,r,m,w,bj,xc,kk⟩:=h;have bj:bnd (it E) (λE ds=>match lcL tt u c ds (Wq k R E) []with
  | some (.ok B xs)=>mkL o (J8 k R B E) xs
  | some (.exc B e)=>some (.exc (J8 k R B E) e)
  | none=>none)=some r:=bj
 rcases wW bj with⟨E1,ds,h1,h2⟩|⟨E1,cc,h1,h2⟩
 rotate_left
 ·exact⟨E,L,_,m,w,h1,xc.map h2,λE' s' z=>by cases z⟩
 refine⟨E,L,_,m,w,h1,(λ_ _ z=>by cases z),λE' ds' z J T L1 H1 m1 w1 st hz sm wk=>?_⟩;injection z with z1 z2;subst z1 z2;have hL1:∀j∈R,j<L1.length:=λj hj=>by have:=m1.len;have:=hr j hj;omega
 obtain⟨wB,sB⟩:=wqh (k:=k) hR w1;cases hrB:lcL tt u c ds (Wq k R E1) []with
 | none=>rw[hrB]at h2;cases h2
 | some rB=>
  rw [hrB]at h2;have iy:∀{H2:Hp} {A B:Ls},World Z.K H2 (A++(B++(_root_.Q.clr R L1++T.map some)))->∀t∈T,t.ok Z.K H2:=λw2 t ht=>w2.ok t (lr9 _ (lr9 _ (lr9 _ (Xk ht))))
  have mB0:Mt (Wq k R E1) (J5 k R σ) (List.replicate k none++R.map (at' L1)):=(m1.pick (R:=R)).rep;have pi:∀{B:En} {LB:Ls} {τ:L2.St} {H2:Hp} {A:Ls},Mt B τ LB->τ.length=k+R.length->Pn ((List.range R.length).map (k + ·)) (J5 k R σ) τ->World Z.K H2 (LB++(A++(_root_.Q.clr R L1++T.map some))) ->
    Mt (J8 k R B E1) σ (_root_.Q.back R (LB.drop k) (_root_.Q.clr R L1))/\World Z.K H2 (A++_root_.Q.back R (LB.drop k) (_root_.Q.clr R L1))/\Step H2 (LB++(A++(_root_.Q.clr R L1++T.map some))) H2 (A++_root_.Q.back R (LB.drop k) (_root_.Q.clr R L1)):=fun {B LB τ H2 A} mB lB pB wB2=>by
   have hl:LB.length=k+R.length:=by rw[mB.len.2];exact lB
   have pm:(LB++(A++(_root_.Q.clr R L1++T.map some))).Perm (LB++(_root_.Q.clr R L1++(A++T.map some))):=by
    refine List.Perm.append_left _ ?_;rw [<-Xq,<-Xq];exact List.Perm.append_right _ List.perm_append_comm
   obtain⟨w3,s3⟩:=wj4 (k:=k) hR hL1 hl (wB2.perm pm);have m4:(_root_.Q.back R (LB.drop k) (_root_.Q.clr R L1)++(A++T.map some)).Perm ((A++_root_.Q.back R (LB.drop k) (_root_.Q.clr R L1))++T.map some):=by
    rw [<-Xq];exact List.Perm.append_right _ List.perm_append_comm
   refine⟨?_,(w3.perm m4).left,(s3.perm pm.symm m4).trans Step.dropT⟩;refine Mt.back (m1.clr) (mB.drop k) λi j v e1 e2=>?_
   have hi:i<R.length:=(List.getElem?_eq_some_iff.mp e1).1;have e3:=pB (k+i) (List.mem_map.mpr ⟨i,List.mem_range.mpr hi,rfl⟩);rw [List.getElem?_drop,e3,vvj,Y7 (by simp),Yb,show k+i - k=i from by omega,Y2,e1]at e2;have e4:at' σ j=some v:=by simpa using e2
   unfold at' at e4;cases hh:σ[j]? with
   | none=>rw[hh]at e4;cases e4
   | some s=>rw[hh]at e4;rw[show s=some v from e4]
  refine⟨λi n ys τ H2=>∃(B:En) (LB:Ls) (ac:List Sl),Mt B τ LB/\τ.length=k+R.length/\Pn ((List.range R.length).map (k + ·)) (J5 k R σ) τ/\World Z.K H2 (LB++(ac.map some++(_root_.Q.clr R L1++T.map some)))/\Step H L H2 (LB++(ac.map some++(_root_.Q.clr R L1++T.map some))) /\
   ys=ac.map Sl.v/\lcL tt u c (ds.drop i) B (ac.map Sl.sd)=some rB/\i<=ds.length/\ac.length<=i/\n=ds.length - i/\(q=true->k8 H H2/\∀b∈j7 (ac.map some),H b=none),⟨_,Wq k R E1,_,[],mB0,by simp[J5],Pn.refl,wB,st.trans sB,rfl,hrB,Xv _,Xv _,rfl,λhq=>⟨sm hq,λ_ z=>(nomatch z)⟩⟩,?_⟩
  rintro i n ys τ H2 ⟨B,LB,ac,mB,lB,pB,wB2,sB2,rfl,f1,hi,ax,rfl,smB⟩
  by_cases az:i<ds.length
  rotate_left
  ·have e:i=ds.length:=by omega
   subst e;rw [List.drop_length]at f1;cases oq9 f1;obtain⟨m3,w3,s3⟩:=pi mB lB pB wB2;refine .inl ⟨wk.stop H2 (iy wB2) (λhq=>(smB hq).1),by rw[X3];omega,?_⟩;exact qjd (σ:=σ) (Q:=Q) (o:=o) (xs:=ac) h2 rfl w3 (sB2.trans s3) smB kk m3
  ·have hd:ds.drop i=ds[i]::ds.drop (i+1):=Yi az;rw [hd]at f1;unfold lcL at f1;cases bc:tt.put ds[i] B with
   | none=>rw[bc]at f1;cases f1
   | some B2=>
    rw [bc]at f1;dsimp only at f1;refine .inr ⟨wk.go i H2 (iy wB2) (λhq=>(smB hq).1) az,λv H3 hy=>?_⟩;obtain⟨z,zo,zd,zv,smz,ot,zas⟩:=wk.yld i H2 v H3 ds[i] (iy wB2) (λhq=>(smB hq).1) hy (X1 az);have pm:(LB++(ac.map some++(_root_.Q.clr R L1++T.map some))).Perm ((LB++(ac.map some++_root_.Q.clr R L1))++T.map some):=by
     rw[<-Xq (ac.map some),<-Xq]
    obtain⟨wz,sz⟩:=kq1 (wB2.perm pm) wk.no smz ot zo zas;have wz':World Z.K H3 ((some z::LB)++(ac.map some++(_root_.Q.clr R L1++T.map some))):=wz.perm (by
     rw[List.cons_append,List.cons_append];exact List.Perm.cons _ pm.symm)
    have sz':Step H2 (LB++(ac.map some++(_root_.Q.clr R L1++T.map some))) H3 ((some z::LB)++(ac.map some++(_root_.Q.clr R L1++T.map some))):=sz.perm pm.symm (by
     rw[List.cons_append,List.cons_append];exact List.Perm.cons _ pm.symm)
    refine⟨B,LB,z,B2,mB,wz'.left,zo,zv,by rw[zd];exact bc,fun τ2 LB2 p2 mB2 wB3 sB3=>?_⟩;obtain⟨w4,s4⟩:=stay wz' sB3 wB3;have lB2:τ2.length=k+R.length:=by
     have h1:=mB2.len.1;have h2:=mB.len.1;have h3:=vqk bc;omega
    have p3:=pB.trans p2;have qr:Step H L H3 (LB2++(ac.map some++(_root_.Q.clr R L1++T.map some))):=sB2.trans (sz'.trans s4);have gc:q=true->k8 H H3/\∀b∈j7 (ac.map some),H b=none:=λhq=>⟨qK (smB hq).1 smz,(smB hq).2⟩
    refine⟨λy H5=>∃(B:En) (LB:Ls) (fb:List Sl),Mt B τ2 LB/\World Z.K H5 (LB++(fb.map some++(_root_.Q.clr R L1++T.map some)))/\Step H L H5 (LB++(fb.map some++(_root_.Q.clr R L1++T.map some)))/\ac.map Sl.v++[y]=fb.map Sl.v/\fb.length=ac.length+1/\lcL tt u c (ds.drop (i+1)) B (fb.map Sl.sd)=some rB/\(q=true->k8 H H5/\∀b∈j7 (fb.map some),H b=none),
     λH5=>∃B LB,Mt B τ2 LB/\World Z.K H5 (LB++(ac.map some++(_root_.Q.clr R L1++T.map some)))/\Step H L H5 (LB++(ac.map some++(_root_.Q.clr R L1++T.map some)))/\lcL tt u c (ds.drop (i+1)) B (ac.map Sl.sd)=some rB/\(q=true->k8 H H5/\∀b∈j7 (ac.map some),H b=none),
     λy H5 ⟨B5,LB5,acc5,c1,c2,c3,c4,c5,c6,c7⟩=>⟨by rw[X3];omega,ds.length - (i+1),by omega,B5,LB5,acc5,c1,lB2,p3,c2,c3,c4,c6,az,by omega,rfl,c7⟩,
     λH5 ⟨B5,LB5,c1,c2,c3,c6,c7⟩=>⟨ds.length - (i+1),by omega,B5,LB5,ac,c1,lB2,p3,c2,c3,rfl,c6,az,by omega,rfl,c7⟩,?_⟩
    have xcB:∀{α:Type} {H6:Hp} {L6:Ls} {B6:En} {cc:Str} {A:Ls},rB=.exc B6 cc->World Z.K H6 (L6++(A++(_root_.Q.clr R L1++T.map some)))->Step H L H6 (L6++(A++(_root_.Q.clr R L1++T.map some)))->Xc Z τ2 H6 L6 (.exc B6 cc:Res α):=fun {α H6 L6 B6 cc A} er w6 s6 E7 c7 e7 C L7 H7 hm m7 w7 s7=>by
     injection e7 with e8 e9;subst e8 e9;subst er;cases oq9 h2;obtain⟨w8,s8⟩:=stay w6 s7 w7;obtain⟨m9,w9,s9⟩:=pi m7 lB2 p3 w8;exact xc _ _ rfl C _ H7 hm m9 w9.right ((s6.trans (s8.trans s9)).trans ⟨λ_ _ h _=>h,λa ha=>.inl (by rw[jW];exact lr9 _ ha),λa ha=>.inl (by rw[qv];exact lr9 _ ha)⟩)
    rcases wW f1 with⟨B4,kb,g1,g2⟩|⟨B4,cc,g1,g2⟩
    rotate_left
    ·exact⟨B2,LB2,_,mB2,wB3,g1,xcB g2 w4 qr,λE' s' z=>by cases z⟩
    refine⟨B2,LB2,_,mB2,wB3,g1,(λ_ _ z=>by cases z),λE' s' z LB4 H4 mB4 wB4 sB4 sm4=>?_⟩;injection z with z1 z2;subst z1 z2;obtain⟨w5,s5⟩:=stay w4 sB4 wB4;have jn:=qr.trans s5;cases kb with
    | false=>
     rw[Xe (by decide)]at g2 ⊢;exact⟨B4,LB4,mB4,w5,jn,g2,λhq=>⟨qK (gc hq).1 (sm4 hq),(gc hq).2⟩⟩
    | true=>
     rw[Xb rfl]at g2 ⊢;rcases wW g2 with⟨B6,y,g3,g4⟩|⟨B6,cc,g3,g4⟩
     rotate_left
     ·exact⟨B4,LB4,_,mB4,wB4,g3,xcB g4 w5 jn,λE' s' z=>by cases z⟩
     refine⟨B4,LB4,_,mB4,wB4,g3,(λ_ _ z=>by cases z),λE' s' z x LB6 H6 ex ey mB6 wB6 sB6 sm6=>?_⟩;injection z with z1 z2;subst z1 z2;obtain⟨w7,s7⟩:=stay w5 sB6 wB6;have pm3:((some x::LB6)++(ac.map some++(_root_.Q.clr R L1++T.map some))).Perm (LB6++((ac++[x]).map some++(_root_.Q.clr R L1++T.map some))):=by
      rw[Xx,List.cons_append];have:(LB6++(ac.map some++[x].map some++(_root_.Q.clr R L1++T.map some)))=(LB6++ac.map some)++some x::(_root_.Q.clr R L1++T.map some):=by simp
      rw[this];refine List.Perm.trans ?_ List.perm_middle.symm;rw[Xq]
     refine⟨B6,LB6,ac++[x],mB6,w7.perm pm3,(jn.trans s7).perm (List.Perm.refl _) pm3,by simp,by simp,?_,λhq=>⟨qK (gc hq).1 (qK (sm4 hq) (sm6 hq).1),λb hb=>?_⟩⟩
     ·rw[Xx,show[x].map Sl.sd=[y]from by simp[Sl.sd,ex,ey]];exact g4
     ·rw[Xx,jW]at hb;rcases List.mem_append.mp hb with hb|hb
      ·exact(gc hq).2 b hb
      ·have hb:b∈x.own:=by simpa using hb
       exact xX (qK (gc hq).1 (sm4 hq)) ((sm6 hq).2 b hb)
theorem wvt(N:List Str)(hi:QI X Z q tg it iter)
  (hg:∀cl C s0 H0 fp,QG (lcE X scope N cl C s0 H0 fp Z.EX) Z ((List.range R.length).map (k + ·)) tt tg) (ht:∀cl C s0 H0 fp,PTs (lcE X scope N cl C s0 H0 fp Z.EX) db (tT Z q u)) (he:∀cl C s0 H0 fp,QE (lcE X scope N cl C s0 H0 fp Z.EX) Z q c dm)
  (gx:x8 X Z.EX) (top:z8 X) (hR:R.Nodup) (hr:∀j∈R,j<X.N.length) (hc:X.calm=true:=by rfl) (hk:scope.kind=.function:=by rfl) (jd:Qx X.N X.env.scope scope N k R=true:=by rfl) (hs:∀x,foldedSetIterable iter X.env x=pure x:=by intro _;rfl):
  QE X Z q (cLC o k R it tt u c) (.ListComp dm [⟨tg,iter,db,0⟩] scope pos):=λpins s σ H Q I hw=>
 vzf (EX:=Z.EX) N k R (wvp hi) hg ht he gx top hc hk jd hs pins s σ H Q I (qvx I.len hR hr hw)
theorem qv0{EX:XK}{wi:TI}{g:TG}{tte:TT}{te:TE}{i:Nat}{y:Str}{py cj:Pos}(N:List Str)(k:Nat)(R:List Nat)(hN:X.N.Nodup)(hy:X.N[i]?=some y)(hx:Loc X.env.scope y)(hi:PI X tg iter wi)
  (hg:∀cl C s0 H0 fp,PG (lcE X scope N cl C s0 H0 fp EX) tg g) (ht:∀cl C s0 H0 fp,PTs (lcE X scope N cl C s0 H0 fp EX) db tte) (he:∀cl C s0 H0 fp,PE (lcE X scope N cl C s0 H0 fp EX) dm te) (gx:x8 X EX) (top:z8 X)
  (i3:swapsWith (.ListComp dm [⟨tg,iter,db,0⟩] scope pos) (some (.Name y py)) cj.line X.env=pure true:=by rfl)
  (hc:X.calm=true:=by rfl) (hk:scope.kind=.function:=by rfl) (jd:Qx X.N X.env.scope scope N k R=true:=by rfl) (hs:∀x,foldedSetIterable iter X.env x=pure x:=by intro _;rfl)
  (hf:X.fn y=true\/X.env.scope.names.lookup y=some .local:=by first|exact .inl rfl|exact .inr rfl):
  PS X (.Assign [.Name y py] (.ListComp dm [⟨tg,iter,db,0⟩] scope pos) cj) (λD σ H=>tLC wi g tte te k R σ H λv H1=>D.nx (σ.set i (some v)) H1):=by
 intro pins s σ H D I h;have sc:=qjf hk jd;obtain⟨cl,j',f7,b9⟩:=kq8 (scope:=scope) (env:=X.env) λy hy e=>I.ok.has y.1 (sc.caps y hy e)
 rw[exec_Assign_Name_used _ _ _ _ i3];refine X0 (wpAny_standAt (X0 ?_));show wpAny _ X.A (do let _ <-comprehension (.ListComp dm [⟨tg,iter,db,0⟩] scope pos) scope X.env _ (newList []) false (eval iter X.env) (some (assign (.Name y py) X.env))) _ _ s;refine X0 (thn (wpAny_comprehension_free (use:=some (assign (.Name y py) X.env)) (Q:=λ_ s'=>SP X pins D .next s') rfl hs j' sc.kind sc.names
  (thn (hi pins s σ H _ I h) λv s1 h1=>thn h1 λitv s2 h2=>?_)) λ_ s' hq=>X4 (X4 hq))
 obtain⟨it,fp,tn,J,H2,e,I2,T,bg,f2,W,w0,dw⟩:=h2;subst e;refine kwg (EX:=EX) (RR:=λac C=>compPost (model X.prog X.w) X.A X.xe (some (assign (.Name y py) X.env)) (λ_ s'=>SP X pins D .next s') ac C) hc top sc f7 b9 (hg cl) (ht cl) (he cl) I2 T bg f2 w0 dw ?_ ?_
 rotate_left
 ·intro D' C s' cf σ' H' x T Cc fl hC t q;exact vk5 gx I2 f2 hC t q
 intro L C oC m ys H' s' I' eC nC fC q;show wpAny _ X.A (assign (.Name y py) X.env (.ref L)) _ _ s';refine wpAny_assign_Name (kqi I' hN hy hx (v:=.ref L) rfl (λng I''=>?_) hf);have pC:=I''.pin (C,oC) (lr9 _ (lr9 _ (List.mem_singleton.mpr rfl)));refine⟨m,nC.at' λo e=>?_,λh' sb=>⟨_,_,I''.unpinned.turned (it:=C) (t':=ng.toks) (λb o hb e=>(sb.2 b hb).trans e) fC.1 fC.2.1 fC.2.2.2.1 fC.2.2.2.2.1 fC.2.2.2.2.2,q⟩⟩;rw[eC]at e;cases e;exact pC.1
theorem qqu{i:Nat}{y:Str}{py cj:Pos}(N:List Str)(hN:X.N.Nodup)(hy:X.N[i]?=some y)(hx:Loc X.env.scope y)(hi:QI X Z q tg it iter)
  (hg:∀cl C s0 H0 fp,QG (lcE X scope N cl C s0 H0 fp Z.EX) Z ((List.range R.length).map (k + ·)) tt tg) (ht:∀cl C s0 H0 fp,PTs (lcE X scope N cl C s0 H0 fp Z.EX) db (tT Z q u)) (he:∀cl C s0 H0 fp,QE (lcE X scope N cl C s0 H0 fp Z.EX) Z q c dm)
  (gx:x8 X Z.EX) (top:z8 X) (hR:R.Nodup) (hr:∀j∈R,j<X.N.length) (hp:i∉pn:=by decide)
  (i3:swapsWith (.ListComp dm [⟨tg,iter,db,0⟩] scope pos) (some (.Name y py)) cj.line X.env=pure true:=by rfl)
  (hc:X.calm=true:=by rfl) (hk:scope.kind=.function:=by rfl) (jd:Qx X.N X.env.scope scope N k R=true:=by rfl) (hs:∀x,foldedSetIterable iter X.env x=pure x:=by intro _;rfl)
  (hf:X.fn y=true\/X.env.scope.names.lookup y=some .local:=by first|exact .inl rfl|exact .inr rfl):
  QS X Z pn (j6 i (cLC o k R it tt u c)) (.Assign [.Name y py] (.ListComp dm [⟨tg,iter,db,0⟩] scope pos) cj):=
 vz2 (q:=q) hp λpins s σ H D I hw=>qv0 N k R hN hy hx (wvp hi) hg ht he gx top i3 hc hk jd hs hf pins s σ H D I (qvx I.len hR hr hw)
end
end
section
variable {X:Cx}{Z:Fx0}{K:PySem.W.Frag}{pn:List Nat}{q qa qb:Bool}{a b c:Ex}{u:Ts}{tg e ea eb:Expr}{σ:L2.St}{H:Hp}{L:Ls}{E:En}{pos p:Pos}{x:Str}{id T:String}{r:List V->Hp->VK->Prop}{f:Sd->Option Sd}{g:Sd->Sd->Option Sd}
theorem vqb:PTs X [] (tT Z q _root_.Q.tYes):=λpins s σ H Q I af=>ex8 af λE L r m w hc xc k=>by
 cases oq9 hc;exact vqm pins s σ H Q I (k _ _ rfl L H m w Step.refl λ_=>xJ)
theorem vqa(h:QT X Z q u e):PTs X [e] (tT Z q u):=vql h
theorem XQ(hc:CallR X (.builtin id) r)(ad:Ad1 Z.K (λv H Q=>r [v] H Q) f)(ha:QV X Z q a ea)(hm:X.mg x=none)(hv:bootBuiltins x=some (.builtin id))(hg:Gl X x:=by rfl)(hn:x≠"__name__":=by decide)(cu:(x==("__debug__":Str))=false:=by decide)
  (he:starEach [ea] X.env=(false,eval ea X.env)::starEach [] X.env:=by rfl) (bt:(backTo pos (starEach [] X.env)).any (·.1)=false:=by rfl):QE X Z q (cF1 f a) (.Call (.Name x p) [ea] [] pos):=
 qX (qj8 hc hg hm hv (x5 ha xj he) hn cu he bt) fun σ H Q h=>kvj (r:=λv H Q=>r [v] H Q) ad h
theorem J4(hc:CallR X (.type T) r)(ad:Ad1 Z.K (λv H Q=>r [v] H Q) f)(ha:QV X Z q a ea)(hm:X.mg x=none)(hv:bootBuiltins x=some (.type T))(hg:Gl X x:=by rfl)(hn:x≠"__name__":=by decide)(cu:(x==("__debug__":Str))=false:=by decide)
  (he:starEach [ea] X.env=(false,eval ea X.env)::starEach [] X.env:=by rfl) (bt:(backTo pos (starEach [] X.env)).any (·.1)=false:=by rfl):QE X Z q (cF1 f a) (.Call (.Name x p) [ea] [] pos):=
 qX (qv7 hc hg hm hv (x5 ha xj he) hn cu he bt) fun σ H Q h=>kvj (r:=λv H Q=>r [v] H Q) ad h
theorem wjy:Ad1 K (λv H Q=>qqo K [v] H Q) (pu1 kX):=by
 intro H x s Q ok hf k;unfold pu1 at hf;have fin:∀n:Nat,kX x.d=some (.int n)->Q (.int n) H:=λn e=>by
  rw[show(x.o,x.d).2=x.d from rfl,e]at hf;cases oq9 hf;exact k ⟨.dp,.int n,.int n,[]⟩ H rfl rfl VZ
 cases hx:x.d with
 |lst ds=>
  obtain⟨l,xs,bs,e,q,r,_⟩:=items ok (.inl hx);refine .inl ⟨l,xs,by rw[e],?_,by rw[<-r.len];exact fin ds.length (by rw[hx];rfl)⟩;rcases q with⟨_,z⟩|⟨_,z⟩
  ·exact .inl (Jv z)
  ·exact .inr z
 |tup ds=>
  obtain⟨l,xs,bs,e,q,r,_⟩:=items ok (.inr hx);refine .inl ⟨l,xs,by rw[e],?_,by rw[<-r.len];exact fin ds.length (by rw[hx];rfl)⟩;rcases q with⟨_,z⟩|⟨_,z⟩
  ·exact .inl (Jv z)
  ·exact .inr z
 |str z=>
  obtain⟨e,hz⟩:=xx ok hx;exact .inr (.inl ⟨z,by rw[e],hz,fin z.length (by rw[hx];rfl)⟩)
 |_=>rw[show(x.o,x.d).2=x.d from rfl,hx]at hf;cases hf
def vq8(K:PySem.W.Frag):List V->Hp->VK->Prop:=λxs H Q=>wvm K xs H Q\/(∃p ys U,xs=[.ref p,.ty U]/\SqT K H p ys/\U∈kinds.tail/\Q (.bl (Zw "tuple" U)) H)\/∃p ys U,xs=[.ref p,.ty U]/\SqL K H p ys/\U∈kinds.tail/\Q (.bl (Zw "list" U)) H
theorem qx1(hK:X.K=K:=by rfl):CallR X (.builtin "isinstance") (vq8 K):=by
 subst hK;intro pins s σ H xs us Q I r h;rcases h with h|⟨p,ys,U,rfl,hq,hU,q⟩|⟨p,ys,U,rfl,hq,hU,q⟩
 ·exact vjb pins s σ H xs us Q I r h
 ·obtain⟨u,w',rfl,r1,r2⟩:=vkt r;cases(show w'=Value.type U from r2);cases r1;obtain⟨a9,_,⟨o,h1,h2,_⟩,_⟩:=I.tuple hq;exact Y3 PySem.W.kitx_tuple I.kIn ⟨o,h1,h2⟩ (kxz (T:="tuple") (by decide) hU) (λz=>nomatch z) λtk=>⟨.bl _,H,I.tok _,rfl,q⟩
 ·obtain⟨u,w',rfl,r1,r2⟩:=vkt r;cases(show w'=Value.type U from r2);cases r1;obtain⟨a9,_,⟨o,n,h1,h2,_⟩,_⟩:=I.list hq;exact Y3 PySem.W.kitx_list I.kIn ⟨o,h1,h2⟩ (kxz (T:="list") (by decide) hU) (λz=>nomatch z) λtk=>⟨.bl _,H,I.tok _,rfl,q⟩
theorem wjz{U:String}(hU:U∈kinds.tail):Ad1 K (λv H Q=>vq8 K [v,.ty U] H Q) (pu1 (wjn U)):=by
 intro H x s Q ok hf k;unfold pu1 wjn at hf;have fin:∀(T:String),kind x.d=T->(∀c f,x.d≠.obj c f)->Q (.bl (Zw T U)) H:=λT e ho=>by
  cases hx:x.d with
  |obj c f=>exact absurd hx (ho c f)
  |dct kvs=>rw[show(x.o,x.d).2=x.d from rfl,hx]at hf;cases hf
  |_=>
   rw[show(x.o,x.d).2=x.d from rfl,hx]at hf;cases oq9 hf;rw[<-e,hx];exact k ⟨.dp,.bl _,.bl _,[]⟩ H rfl rfl xv
 cases hx:x.d with
 |non=>exact .inl ⟨x.v,"NoneType",U,rfl,by rw[vjz ok hx];exact .non,by decide,hU,fin _ (by rw[hx];rfl) (by rw[hx];exact λ_ _ z=>nomatch z)⟩
 |bl k=>exact .inl ⟨x.v,"bool",U,rfl,by rw[W0 ok hx];exact .bl _,by decide,hU,fin _ (by rw[hx];rfl) (by rw[hx];exact λ_ _ z=>nomatch z)⟩
 |int k=>exact .inl ⟨x.v,"int",U,rfl,by rw[wv ok hx];exact .int _,by decide,hU,fin _ (by rw[hx];rfl) (by rw[hx];exact λ_ _ z=>nomatch z)⟩
 |str k=>exact .inl ⟨x.v,"str",U,rfl,by rw[(xx ok hx).1];exact .str _,by decide,hU,fin _ (by rw[hx];rfl) (by rw[hx];exact λ_ _ z=>nomatch z)⟩
 |lst ds=>
  obtain⟨l,xs,bs,e,q,r,_⟩:=items ok (.inl hx);have f:=fin "list" (by rw[hx];rfl) (by rw[hx];exact λ_ _ z=>nomatch z);rcases q with⟨_,z⟩|⟨z,_⟩
  ·exact .inr (.inr ⟨l,xs,U,by rw[e],z.sq,hU,f⟩)
  ·rw[hx]at z;cases z
 |tup ds=>
  obtain⟨l,xs,bs,e,q,r,_⟩:=items ok (.inr hx);have f:=fin "tuple" (by rw[hx];rfl) (by rw[hx];exact λ_ _ z=>nomatch z);rcases q with⟨z,_⟩|⟨_,z⟩
  ·rw[hx]at z;cases z
  ·exact .inr (.inl ⟨l,xs,U,by rw[e],z,hU,f⟩)
 |dct kvs=>
  rw[show(x.o,x.d).2=x.d from rfl,hx]at hf;cases hf
 |obj c f=>
  rw[show(x.o,x.d).2=x.d from rfl,hx]at hf;cases hf
theorem wkx{U:String}{y:Str}{p2:Pos}(ha:QV X Z q a ea)(hm:X.mg "isinstance"=none)(hmy:X.mg y=none)(hy:bootBuiltins y=some (.type U))(hK:X.K=Z.K)(hU:U∈kinds.tail:=by decide)(hg:Gl X "isinstance":=by rfl)(hgy:Gl X y:=by rfl)(hny:y≠"__name__":=by decide)(me:(y==("__debug__":Str))=false:=by decide)
  (he:starEach [ea,.Name y p2] X.env=(false,eval ea X.env)::starEach [.Name y p2] X.env:=by rfl) (he2:starEach [.Name y p2] X.env=(false,eval (.Name y p2) X.env)::starEach [] X.env:=by rfl) (bt:(backTo pos (starEach [.Name y p2] X.env)).any (·.1)=false:=by rfl):
  QE X Z q (cF1 (pu1 (wjn U)) a) (.Call (.Name "isinstance" p) [ea,.Name y p2] [] pos):=
 qX (qj8 (qx1 hK) hg hm kvd (x5 ha (x5 (vv0 (v:=.ty U) hgy hmy hy rfl hny me) xj he2) he) (by decide) (by decide) he bt) fun σ H Q h=>kvj (r:=λv H Q=>vq8 Z.K [v,.ty U] H Q) (wjz hU) h
theorem qxf:Ad1 K (λv H Q=>qqp [v] H Q) (pu1 zj):=by
 intro H x s Q ok hf k;unfold pu1 zj at hf;dsimp only at hf
 split at hf
 ·rename_i i e;cases oq9 hf;exact .inl ⟨i,by rw[wv ok e],k ⟨.dp,.int _,.int _,[]⟩ H rfl rfl VZ⟩
 ·rename_i i e;cases oq9 hf;exact .inr (.inl ⟨i,by rw[W0 ok e],k ⟨.dp,.int _,.int _,[]⟩ H rfl rfl VZ⟩)
 ·rename_i z e
  split at hf
  ·rename_i hz;cases ht:PySem.intText? z with
   |none=>rw[ht]at hf;cases hf
   |some n=>
    rw[ht]at hf;cases oq9 hf;exact .inr (.inr ⟨z,n,by rw[(xx ok e).1],ht,hz,k ⟨.dp,.int _,.int _,[]⟩ H rfl rfl VZ⟩)
  ·cases hf
 ·cases hf
theorem kk6:Ad1 K (λv H Q=>qqn K [v] H Q) zK:=by
 intro H x s Q ok hf k;unfold zK at hf;dsimp only at hf
 split at hf
 ·rename_i ds e
  split at hf
  ·rename_i hl;cases oq9 hf;obtain⟨l,xs,bs,ev,q3,r3,h3⟩:=z9 ok (.inl e) hl;have q3:LsR K H l xs:=by rcases q3 with⟨_,z⟩|⟨z,_⟩;exact z;rw[e]at z;cases z
   exact⟨l,xs,by rw[ev],.inl (Jv q3),λp hp=>k ⟨.rt,.lst ds,.ref p,p::bs⟩ _ rfl rfl (KY hp r3 h3)⟩
  ·cases hf
 ·rename_i ds e
  split at hf
  ·rename_i hl;cases oq9 hf;obtain⟨l,xs,bs,ev,q3,r3,h3⟩:=z9 ok (.inr e) hl;have q3:SqT K H l xs:=by rcases q3 with⟨z,_⟩|⟨_,z⟩;rw[e]at z;cases z;exact z
   exact⟨l,xs,by rw[ev],.inr q3,λp hp=>k ⟨.rt,.lst ds,.ref p,p::bs⟩ _ rfl rfl (KY hp r3 h3)⟩
  ·cases hf
 ·cases hf
def qj2(K:PySem.W.Frag):List V->Hp->VK->Prop:=λxs H Q=>∃p ys,xs=[.ref p]/\((SqL K H p ys/\∀l,H l=none->Q (.ref l) (upd H l (.tup ys)))\/(SqT K H p ys/\Q (.ref p) H))
theorem qx3(hK:X.K=K):CallR X (.type "tuple") (qj2 K):=by subst hK;exact kvc
theorem vje:Ad1 K (λv H Q=>qj2 K [v] H Q) x3:=by
 intro H x s Q ok hf k;unfold x3 at hf;dsimp only at hf
 split at hf
 ·rename_i ds e
  split at hf
  ·rename_i hl;cases oq9 hf;obtain⟨l,xs,bs,ev,q3,r3,h3⟩:=z9 ok (.inl e) hl;have q3:LsR K H l xs:=by rcases q3 with⟨_,z⟩|⟨z,_⟩;exact z;rw[e]at z;cases z
   exact⟨l,xs,by rw[ev],.inl ⟨Jv q3,λp hp=>k ⟨.no,.tup ds,.ref p,bs⟩ _ rfl rfl (kjc hp r3 h3)⟩⟩
  ·cases hf
 ·rename_i ds e
  split at hf
  ·rename_i hl;cases oq9 hf;obtain⟨l,xs,bs,ev,q3,r3,h3⟩:=z9 ok (.inr e) hl;have q3:SqT K H l xs:=by rcases q3 with⟨z,_⟩|⟨_,z⟩;rw[e]at z;cases z;exact z
   refine⟨l,xs,by rw[ev],.inr ⟨q3,k ⟨.no,.tup ds,.ref l,bs⟩ H rfl rfl ⟨xJ,?_,λb hb=>(nomatch hb),Xr,λb hb=>h3 b hb⟩⟩⟩;show RepL K H true (.tup ds) (.ref l) bs;unfold RepL;exact⟨l,xs,rfl,q3,r3⟩
  ·cases hf
 ·cases hf
theorem Kz{g:Int->Int->Bool}:∀x y s,pu2 (c2 g) x y=some s->∃k,s.2=.bl k:=by
 intro x y s h;unfold pu2 c2 at h
 split at h
 ·cases oq9 h;exact⟨_,rfl⟩
 ·cases h
theorem xq:∀x y s,pu2 fEq x y=some s->∃k,s.2=.bl k:=by
 intro x y s h;unfold pu2 fEq at h
 split at h
 ·cases oq9 h;exact⟨_,rfl⟩
 ·cases h
theorem wv2:∀x y s,pu2 fNe x y=some s->∃k,s.2=.bl k:=by
 intro x y s h;unfold pu2 fNe at h
 split at h
 ·cases oq9 h;exact⟨_,rfl⟩
 ·cases h
theorem vkc{x y d:D}(h:fIn x y=some d):∃k,d=.bl k:=by
 unfold fIn at h
 split at h
 ·split at h
  ·cases oq9 h;exact⟨_,rfl⟩
  ·cases h
 ·split at h
  ·cases oq9 h;exact⟨_,rfl⟩
  ·cases h
 ·split at h
  ·cases oq9 h;exact⟨_,rfl⟩
  ·cases h
 ·cases oq9 h;exact⟨_,rfl⟩
 ·cases h
theorem vwc:∀x y s,pu2 zw x y=some s->∃k,s.2=.bl k:=by
 intro x y s h;unfold pu2 zw at h
 split at h
 ·cases h
 ·cases hf:fIn x.2 y.2 with
  |none=>rw[hf]at h;cases h
  |some d=>
   rw[hf]at h;cases oq9 h;exact vkc hf
theorem jzz:∀x y s,pu2 vQ x y=some s->∃k,s.2=.bl k:=by
 intro x y s h;unfold pu2 vQ kwn at h
 split at h
 ·cases h
 ·cases hf:fIn x.2 y.2 with
  |none=>rw[hf]at h;cases h
  |some d=>
   obtain⟨k,rfl⟩:=vkc hf;rw[hf]at h;cases oq9 h;exact⟨_,rfl⟩
theorem ZV:∀x y s,f2First fIsNon x y=some s->∃k,s.2=.bl k:=by
 intro x y s h;unfold f2First fIsNon at h
 split at h
 ·cases oq9 h;exact⟨_,rfl⟩
 ·cases h
theorem kzf:∀x y s,f2First fNotNon x y=some s->∃k,s.2=.bl k:=by
 intro x y s h;unfold f2First fNotNon at h
 split at h
 ·cases oq9 h;exact⟨_,rfl⟩
 ·cases h
theorem kzk:∀{xs:List V} {us:List Value},xs.length=us.length->(∀(i:Nat) (x:V) (u:Value),xs[i]?=some x->us[i]?=some u->RelV x u)->Vals xs us
 |[],[],_,_=>.nil
 |[],_::_,h,_=>by simp at h
 |_::_,[],h,_=>by simp at h
 |x::xs,u::us,h,f=>.cons (f 0 x u (by simp) (by simp)) (kzk (by simpa using h) λi x u e1 e2=>f (i+1) x u (by simpa using e1) (by simpa using e2))
theorem vxw{p2 ip:Pos}(ha:QV X Z q a ea)(hmr:X.mg "range"=none)(hml:X.mg "list"=none)(hc:X.calm=true:=by rfl)(hgr:Gl X "range":=by rfl)(hgl:Gl X "list":=by rfl)
  (b7:starEach [ea] X.env=(false,eval ea X.env)::starEach [] X.env:=by rfl) (bt:(backTo ip (starEach [] X.env)).any (·.1)=false:=by rfl)
  (rf:starEach [.Call (.Name "range" p2) [ea] [] ip] X.env=(false,eval (.Call (.Name "range" p2) [ea] [] ip) X.env)::starEach [] X.env:=by rfl) (hpl2:(backTo pos (starEach [] X.env)).any (·.1)=false:=by rfl):
  QE X Z q (Q8 a) (.Call (.Name "list" p) [.Call (.Name "range" p2) [ea] [] ip] [] pos):=by
 have hr:PE X (.Call (.Name "range" p2) [ea] [] ip) (fun σ H Q=>tV Z q a σ H λv H1=>∃j:Int,v=.int j/\∀pp,H1 pp=none->Q (.ref pp) (upd H1 pp (.rng 0 j))):=by
  intro pins s σ H Q I h;refine Call_ (Vw I hgr hmr boot_range (Ye (thn (x5 ha xj b7 ip pins s σ H (λvs H1=>∃j:Int,vs=[.int j]/\∀pp,H1 pp=none->Q (.ref pp) (upd H1 pp (.rng 0 j))) I ?_) λus s1 ⟨vs,H1,I1,r1,j,e,q1⟩=>?_) b7 bt))
  ·obtain⟨E,L,r,m,w,bj,xc,k⟩:=h;exact⟨E,L,r,m,w,bj,xc,λE' s' z x L' H' e1 e2 m' w' ok fr sr st sm=>by
    obtain⟨j,ej,qj⟩:=k E' s' z x L' H' e1 e2 m' w' ok fr sr st sm;exact⟨j,by rw[ej],qj⟩⟩
  ·subst e;obtain⟨u,rfl,t,rfl⟩:=r1.one;refine call_range_1 ⟨.ref s1.heap.objs.size,_,I1.laid (o:=.rng 0 j) (λb o e=>X9 _ e) (X8 _) ⟨_,_,_,Xj _ rfl⟩,rfl,q1 _ I1.fresh⟩
 intro pins s σ H Q I ⟨E,L,r,m,w,bj,xc,k⟩;refine wpAny_Call_Name_kw (Vw I hgl hml QQ ?_);refine Ye (thn (x5 hr xj rf pos pins s σ H (λvs H1=>∃pp j,vs=[.ref pp]/\H1 pp=some (.rng 0 j)/\xV j=true/\j.toNat<=big/\∀l,H1 l=none->Q (.ref l) (upd H1 l (.lst ((List.range j.toNat).map λ(i:Nat)=>V.int (0+(i:Int)))))) I ?_) λus s1 ⟨vs,H1,I1,r1,pp,j,e,hp,h62,hbig,q1⟩=>?_) rf hpl2
 ·refine wV m w (show bnd (a E) _=some r from bj) xc λE1 s h1 x L1 H1 e1 e2 m1 w1 ok fr sr st sm=>?_
  cases hx:s.2 with
  | int j=>
   rw [hx]at h1;dsimp only at h1
   split at h1
   ·rename_i hj;cases oq9 h1;refine⟨j,wv ok (e2.trans hx),λpp hpp=>⟨pp,j,rfl,wQ,hj.1,hj.2,λl hl=>?_⟩⟩;have s1:k8 H1 (upd H1 pp (.rng 0 j)):=wX hpp;have w2:World Z.K (upd H1 pp (.rng 0 j)) L1:=⟨λx hx=>RepO.kp (w1.ok x hx) (Kp.of_same s1),w1.nd,w1.ds⟩;have bg:Step H L (upd H1 pp (.rng 0 j)) L1:=st.trans ⟨λb ob z _=>s1 b ob z,λb z=>.inl z,λb z=>.inl z⟩;have ra:∀(n:Nat) (ns:List Nat) (Hx:Hp),RepA Z.K Hx true (ns.map λ(i:Nat)=>D.int (0+(i:Int))) (ns.map λ(i:Nat)=>V.int (0+(i:Int))) []:=by
     intro n ns Hx
     induction ns with
     |nil=>unfold RepA;exact⟨rfl,rfl⟩
     |cons i ns ih=>
      rw[List.map_cons,List.map_cons];unfold RepA;exact⟨_,_,[],[],rfl,rfl,JQ,ih⟩
    have o:=KY (K:=Z.K) (H:=upd H1 pp (.rng 0 j)) (fr:=[]) hl (ra 0 (List.range j.toNat) (upd H1 pp (.rng 0 j))) (λ_ z=>(nomatch z));obtain⟨w3,cn⟩:=Q5 w2 bg o (λ_ z=>(nomatch z)) (λ_ z=>(nomatch z)) (λ_ z=>(nomatch z));refine k _ _ rfl ⟨.rt,.lst (jQ 0 j),.ref l,[l]⟩ L1 _ rfl rfl m1 (by simpa [jQ]using w3) (by simpa [jQ]using cn) λhq=>⟨qK (sm hq) (qK s1 o.same),λb hb=>?_⟩
    have:b=l:=by simpa [Sl.own]using hb
    subst this;exact xX (qK (sm hq) s1) hl
   ·cases h1
  | _=>rw[hx]at h1;cases h1
 ·subst e;obtain⟨u,rfl,rx⟩:=r1.one;cases rx;obtain⟨t1,t2,t3,hg⟩:=(show ObjOk X.prog X.w H1 s1.heap pp (.rng 0 j)from I1.hok pp _ hp);obtain⟨j1,j2⟩:=kks h62;have e2:Builtin.Range.rangeSize 0 j 1=((j.toNat:Nat):Int):=by rw[rangeSize_one];split<;>omega
  refine call_list_range (n:=j.toNat) (I1.ok.hd hc) (show IsRange s1.heap pp 0 j 1 t1 t2 t3 from hg) (small_one (by omega) (by omega) j1 j2) e2 hbig λh' tk fb c' kp e4 p6=>?_
  obtain⟨hs,n8⟩:=p6;have hv:Vals ((List.range j.toNat).map λ(i:Nat)=>V.int (0+(i:Int))) fb.toList:=kzk (by simp[hs]) λi x u ex eu=>by
   rw[Yq]at eu;obtain⟨t,rfl⟩:=n8 i u eu;rw[Y2]at ex;cases hr:(List.range j.toNat)[i]? with
   | none=>rw[hr]at ex;cases ex
   | some m=>
    rw[hr]at ex;have hm:m=i:=by
     obtain⟨_,h2⟩:=List.getElem?_eq_some_iff.mp hr
     simpa using h2.symm
    subst hm;cases oq9 ex;exact⟨t,by rw[Int.mul_one]⟩
  refine⟨.ref s1.heap.objs.size,_,I1.laid (a:=s1.heap.objs.size) (o:=.lst ((List.range j.toNat).map λ(i:Nat)=>V.int (0+(i:Int)))) (t':=tk) kp (X8 _) ⟨by rw[X3,Yg];exact hbig,fb.toList,c',hv,by simpa using e4⟩,rfl,q1 _ I1.fresh⟩
end
end Q
namespace Q
open PySem
def zY(n d:Nat):Option Int->Nat
 |none=>d
 |some v=>if v<0 then(v+(n:Int)).toNat else min v.toNat n
def Jx(xs:List D)(lo hi:Option Int):List D:=(xs.drop (zY xs.length 0 lo)).take (zY xs.length xs.length hi - zY xs.length 0 lo)
def fSl:Sd->Option Int->Option Int->Option Sd:=λx lo hi=>match x.2 with
 |.lst xs=>if qW x then some (.rt,.lst (Jx xs lo hi))else none
 |.tup xs=>if qW x/\¬(zY xs.length 0 lo=0/\zY xs.length xs.length hi=xs.length)then some (.no,.tup (Jx xs lo hi))else none
 |.str z=>if(Txt.slice z lo hi).length<=big then some (.dp,.str (Txt.slice z lo hi))else none
 |_=>none
def V2:Option Ex->Ev (Option Int)
 |none,E=>some (.ok E none)
 |some c,E=>bnd (c E) λE x=>match x.2 with
  |.int i=>some (.ok E (some i))
  |_=>none
def cSl(a:Ex)(lo hi:Option Ex):Ex:=λE=>bnd (a E) λE x=>bnd (V2 lo E) λE l=>bnd (V2 hi E) λE h=>val E (fSl x l h)
def xw:Nat->List D->List D
 |_,[]=>[]
 |k,d::ds=>.tup [.int k,d]::xw (k+1) ds
def lstOf:D->Option (List D)
 |.lst xs=>some xs
 |_=>none
def Vz(c:Ex):Ev (List D):=λE=>bnd (c E) λE x=>val E ((lstOf x.2).map (xw 0))
def Jw:List D->Option (List Str)
 |[]=>some []
 |.str z::ds=>(Jw ds).map (z :: ·)
 |_=>none
def VJ:List D->Option (List Int)
 |[]=>some []
 |.int z::ds=>(VJ ds).map (z :: ·)
 |_=>none
def Kj(a:Str):List Str->List Str
 |[]=>[a]
 |b::r=>if Spec.ltCps b.cps.toList a.cps.toList then b::Kj a r else a::b::r
def J0:List Str->List Str
 |[]=>[]
 |a::r=>Kj a (J0 r)
def vK(a:Int):List Int->List Int
 |[]=>[a]
 |b::r=>if b<a then b::vK a r else a::b::r
def Vj:List Int->List Int
 |[]=>[]
 |a::r=>vK a (Vj r)
def Z8:Sd->Option Sd:=λx=>match x.2 with
 | .lst ds=>(match Jw ds with
  |some ss=>if ss.length<64 then some (.rt,.lst ((J0 ss).map .str))else none
  |none=>(match VJ ds with
   |some is=>if is.length<64 then some (.rt,.lst ((Vj is).map .int))else none
   |none=>none))
 |_=>none
def V7:D->D->Option D:=λxs x=>match xs with
 |.lst ys=>if x.flat 30&&D.flats 30 ys then(ys.findIdx? λz=>peq z x).map λ(j:Nat)=>D.int (j:Int)else none
 |.tup ys=>if x.flat 30&&D.flats 30 ys then(ys.findIdx? λz=>peq z x).map λ(j:Nat)=>D.int (j:Int)else none
 |_=>none
def isSq:D->Bool
 |.lst _=>true
 |.tup _=>true
 |_=>false
def Vv(a b:Ex):Ex:=λE=>bnd (a E) λE x=>if isSq x.2 then bnd (b E) λE y=>val E (pu2 V7 x y)else none
def cPop(i:Nat)(c:Ex):Ex:=λE=>if qzu E[i]? then bnd (c E) λE x=>match E[i]?,x.2 with
 | some (some (o,.lst xs)),.int k=>if o=.no then none else(match ixN xs.length k with
  |some j=>(match xs[j]? with
   |some d=>if d.pure&&xV k then some (.ok (E.set i (some (o,.lst (xs.eraseIdx j)))) (.dp,d))else none
   |none=>none)
  |none=>none)
 |_,_=>none
 else none
def kwz(f:Fn)(cs:List Ex):Ex:=λE=>bnd (qJ cs E) λE xs=>match f (letAll xs)with
 |some (.ok _ y)=>if y.2.pure then some (.ok E (.dp,y.2))else none
 |some (.exc _ c)=>some (.exc E c)
 |none=>none
def jY:Sd->Sd->Option Sd:=λx y=>match x.2,y.2 with
 |.tup a,.int k=>if -(2 ^ 63)<=k/\k<2 ^ 63/\a.length*k.toNat<=big/\qW x then some (.no,.tup (List.replicate k.toNat a).flatten)else none
 |_,_=>zV x y
def sRz(c:Str):Sm:=λE=>some (.xc E c)
def Wx(f:Fn)(cs:List Ex):Ex:=λE=>match qJ cs E with
 |some (.ok E xs)=>(match f (letAll xs)with
  |some (.ok _ y)=>some (.ok E y)
  |some (.exc _ c)=>some (.exc E c)
  |none=>none)
 |_=>none
def wqk:D->Bool
 |.tup _=>true
 |_=>false
def xY(x:D):Bool:=jX 6 x&&wqk x
def qx5(kc vc:Ex):Ex:=λE=>bnd (kc E) λE k=>bnd (vc E) λE v=>if xY k.2=true then some (.ok E (.rt,.dct [(k.2,v.2)]))else none
def JW:Sd->Option Sd:=λx=>match x.2 with
 |.dct kvs=>if kvs.length<=big/\unm kvs=true then some (.rt,.lst (kvs.map (·.1)))else none
 |_=>none
end Q
namespace Q
open PySem
def Ww(d e:D):Option D:=match d,e with
 |.bl a,.bl b=>some (.bl (!(a==b)))
 |_,_=>none
end Q
namespace Q
open PySem
def wqt(z:Str):D->Option D:=λd=>match d with
 |.lst ds=>(match Jw ds with
  |some ys=>if(ys.map (·.length)).sum+ys.length*z.length<=100000 then some (.str (Txt.join z ys))else none
  |none=>none)
 |_=>none
def wv0(z:Str)(c:Ex):Ex:=λE=>bnd (c E) λE x=>val E ((wqt z x.2).map λd=>(.dp,d))
end Q
namespace Q
open PySem
def WK(x:Sd):Bool:=vJ x||(x.1 == .rt&&(match x.2 with
 |.lst ds=>D.pures ds
 |_=>false))
end Q
namespace Q
open PySem
def D.at:List Nat->D->Option D
 |[],d=>some d
 |n::p,.tup ds=>match ds[n]? with
  |some d=>D.at p d
  |none=>none
 |n::p,.lst ds=>match ds[n]? with
  |some d=>D.at p d
  |none=>none
 |_::_,_=>none
def D.put(d':D):List Nat->D->D
 |[],_=>d'
 |n::p,.tup ds=>match ds[n]? with
  |some d=>.tup (ds.set n (D.put d' p d))
  |none=>.tup ds
 |n::p,.lst ds=>match ds[n]? with
  |some d=>.lst (ds.set n (D.put d' p d))
  |none=>.lst ds
 |_::_,d=>d
def sPA(i:Nat)(p:List Nat)(c:Ex):Sm:=λE=>match E[i]? with
 |some (some (.dp,d))=>(match D.at p d with
  |some (.lst ds)=>if ds.length<big then ofE (c (E.set i none)) λE1 x=>if x.2.pure=true then some (.nx (E1.set i (some (.dp,D.put (.lst (ds++[x.2])) p d))))else none else none
  |_=>none)
 |_=>none
def sPC(i:Nat)(p:List Nat):Sm:=λE=>match E[i]? with
 |some (some (.dp,d))=>(match D.at p d with
  |some (.lst _)=>some (.nx (E.set i (some (.dp,D.put (.lst []) p d))))
  |_=>none)
 |_=>none
def Q4(c:Ex):Ex:=λE=>bnd (c E) λE x=>if WK x=true then some (.ok E (.dp,x.2))else none
mutual
def D.dat:D->PyData
 |.non=>.none
 |.bl b=>.bool b
 |.int i=>.int i
 |.str z=>.str z
 |.tup ds=>.tuple (D.dats ds)
 |.lst ds=>.list (D.dats ds)
 |.dct _=>.none
 |.obj _ _=>.none
def D.dats:List D->List PyData
 |[]=>[]
 |d::ds=>D.dat d::D.dats ds
end
def wjg:D->Bool
 |.tup _=>true
 |.lst _=>true
 |_=>false
def zX(d:D):Option D:=if wjg d=true/\d.flat 40=true/\(D.dat d).showable=true/\(D.dat d).shown.length<=sizeLine then some (.str (D.dat d).shown)else none
def Qw:D->Option D
 |.dct kvs=>if unm kvs=true then some (.int kvs.length)else none
 |_=>none
def wkb:Option (Option Sd)->Bool
 |some (some (.rt,.dct kvs))=>unm kvs
 |_=>false
def x6(kvs:List (D×D))(k:D):Option D:=(kvs.find? λp=>decide (p.1=k)).map (·.2)
def YW(i:Nat)(kc vc:Ex):Ex:=λE=>if wkb E[i]?=true then bnd (kc E) λE k=>bnd (vc E) λE v=>(match E[i]? with
 |some (some (.rt,.dct kvs))=>if xY k.2=true/\kvs.length<big/\unm kvs=true/\v.2.pure=true/\D.pures (kvs.map (·.2))=true then(match x6 kvs k.2 with
  |some d=>some (.ok E (.dp,d))
  |none=>some (.ok (E.set i (some (.rt,.dct (kvs++[(k.2,v.2)])))) (.dp,v.2)))else none
 |_=>none)else none
def V5(f:Fn)(i:Nat)(cs:List Ex):Ex:=λE=>bnd (qJ cs E) λE xs=>match E[i]? with
 | some (some x)=>(match f (letAll xs++[x])with
  |some (.ok E' y)=>(match E'[xs.length]? with
   |some (some x')=>some (.ok (E.set i (some x')) y)
   |_=>none)
  |some (.exc _ c)=>some (.exc (E.set i none) c)
  |none=>none)
 |_=>none
def Kv(cs:List Str)(b h:Sm):Sm:=λE=>match b E with
 |some (.xc E c)=>if c∈cs then(match h E with
  |some (.xc _ _)=>none
  |r=>r)else none
 |r=>r
def QY(i:Nat):Sm:=λE=>match E[i]? with
 |some (some (.rt,.lst ds))=>some (.nx (E.set i (some (.rt,.lst ds.reverse))))
 |_=>none
end Q
namespace Q
open PySem
def V6(v:D):Nat->Nat->D->Option D
 |0,_,d=>some d
 |n+1,m,d=>match D.at [m] d with
  |some (.lst ds)=>if ds.length<big then V6 v n (m+1) (D.put (.lst (ds++[v])) [m] d)else none
  |_=>none
def Vx(j:Nat)(v:D):Nat->Nat->D->Option D
 | 0,_,d=>some d
 | n+1,k,d=>match D.at [k,j] d with
  |some (.lst es)=>(match V6 v es.length 0 (.lst es)with
   |some d1=>Vx j v n (k+1) (D.put d1 [k,j] d)
   |none=>none)
  |_=>none
def ZX(i r s:Nat)(p:List Nat)(j:Nat)(v:D):Sm:=λE=>match E[i]? with
 | some (some (.dp,d))=>(match D.at p d with
  |some (.lst ds)=>if r<E.length/\s<E.length/\v.pure=true then(match Vx j v ds.length 0 (.lst ds)with
   |some d1=>some (.nx ((((E.set i none).set r none).set s none).set i (some (.dp,D.put d1 p d))))
   |none=>none)else none
  |_=>none)
 |_=>none
end Q
namespace Q
open PySem PySem.Spec PyProof.Rows L2 L3
section
variable {X:Cx}{Z:Fx0}{K:PySem.W.Frag}{pn:List Nat}{q qa qb:Bool}{a b c:Ex}{u:Ts}{tg e ea eb:Expr}{st:Stmt}{σ:L2.St}{H:Hp}{L:Ls}{E:En}{pos p p2:Pos}{x:Str}
theorem kjm(a:Str):∀r,(Kj a r).Perm (a::r)
 |[]=>List.Perm.refl _
 |b::r=>by
  unfold Kj
  split
  ·exact((kjm a r).cons b).trans (List.Perm.swap ..)
  ·exact List.Perm.refl _
theorem XZ:∀r,(J0 r).Perm r
 |[]=>List.Perm.refl _
 |a::r=>(kjm a _).trans ((XZ r).cons a)
def leS(a b:Str):Prop:=Spec.ltCps b.cps.toList a.cps.toList=false
theorem leS_iff{a b:Str}:leS a b↔a.cps.toList<=b.cps.toList:=by
 unfold leS;rw[ltCps_eq,decide_eq_false_iff_not,List.not_lt]
theorem kwf{a b c:Str}(h:leS a b)(h':leS b c):leS a c:=leS_iff.mpr (List.le_trans (leS_iff.mp h) (leS_iff.mp h'))
theorem qzr{a b:Str}(h:leS a b)(h':leS b a):a=b:=by
 have:=List.le_antisymm (leS_iff.mp h) (leS_iff.mp h');cases a;cases b;simp only at this
 congr 1
 exact Array.toList_inj.mp this
theorem qvw{a b:Str}(h:¬leS a b):leS b a:=by
 rw[leS_iff]at h ⊢;exact List.le_of_lt (List.not_le.mp h)
theorem kvz:∀{a:Str} {r:List Str},risingS a r=true->(a::r).Pairwise leS
 |a,[],_=>by simp
 |a,b::r,h=>by
  have h:(!(Spec.ltCps b.cps.toList a.cps.toList)&&risingS b r)=true:=h;rw[Bool.and_eq_true,Bool.not_eq_true']at h;have ih:=kvz h.2;refine List.pairwise_cons.mpr ⟨λc hc=>?_,ih⟩;rcases List.mem_cons.mp hc with rfl|hc
  ·exact h.1
  ·exact kwf h.1 ((List.pairwise_cons.mp ih).1 c hc)
theorem qqe{r:List Str}(h:sortedS r=true):r.Pairwise leS:=by
 cases r with
 |nil=>exact .nil
 |cons a r=>exact kvz h
theorem qw9{a:Str}:∀{r:List Str},r.Pairwise leS->(Kj a r).Pairwise leS
 | [],_=>by simp[Kj]
 | b::r,h=>by
  rw[List.pairwise_cons]at h;unfold Kj
  by_cases hl:Spec.ltCps b.cps.toList a.cps.toList=true
  ·rw[Xb hl];refine List.pairwise_cons.mpr ⟨λc hc=>?_,qw9 h.2⟩;rcases List.mem_cons.mp ((kjm a r).mem_iff.mp hc)with rfl|hc
   ·exact qvw (by unfold leS;rw[hl];exact λz=>nomatch z)
   ·exact h.1 c hc
  ·rw[Xe hl];have le:leS a b:=by unfold leS;exact Bool.eq_false_iff.mpr hl
   refine List.pairwise_cons.mpr ⟨λc hc=>?_,List.pairwise_cons.mpr h⟩;rcases List.mem_cons.mp hc with rfl|hc
   ·exact le
   ·exact kwf le (h.1 c hc)
theorem kzt:∀{r:List Str},(J0 r).Pairwise leS
 |[]=>.nil
 |a::r=>qw9 kzt
theorem qxu{r s:List Str}(p:s.Perm r)(h:sortedS s=true):s=J0 r:=
 List.Perm.eq_of_pairwise (λa b _ _ h1 h2=>qzr h1 h2) (qqe h) kzt (p.trans (XZ r).symm)
theorem kjn(a:Int):∀r,(vK a r).Perm (a::r)
 |[]=>List.Perm.refl _
 |b::r=>by
  unfold vK
  split
  ·exact((kjn a r).cons b).trans (List.Perm.swap ..)
  ·exact List.Perm.refl _
theorem jxt:∀r,(Vj r).Perm r
 |[]=>List.Perm.refl _
 |a::r=>(kjn a _).trans ((jxt r).cons a)
theorem qwa{a:Int}:∀{r:List Int},r.Pairwise (·<=·)->(vK a r).Pairwise (·<=·)
 | [],_=>by simp[vK]
 | b::r,h=>by
  rw[List.pairwise_cons]at h;unfold vK
  by_cases hl:b<a
  ·rw[Xb hl];refine List.pairwise_cons.mpr ⟨λc hc=>?_,qwa h.2⟩;rcases List.mem_cons.mp ((kjn a r).mem_iff.mp hc)with rfl|hc
   ·exact Int.le_of_lt hl
   ·exact h.1 c hc
  ·rw[Xe hl];refine List.pairwise_cons.mpr ⟨λc hc=>?_,List.pairwise_cons.mpr h⟩;rcases List.mem_cons.mp hc with rfl|hc
   ·omega
   ·have:=h.1 c hc;omega
theorem kzu:∀{r:List Int},(Vj r).Pairwise (·<=·)
 |[]=>.nil
 |a::r=>qwa kzu
theorem qxv{r s:List Int}(p:s.Perm r)(h:s.Pairwise (·<=·)):s=Vj r:=
 List.Perm.eq_of_pairwise (λa b _ _ h1 h2=>Int.le_antisymm h1 h2) h kzu (p.trans (jxt r).symm)
theorem qk6{ns:List Str}:∀{us:List Value},Vals (ns.map V.str) us->StrsAre us ns:=by
 induction ns with
 | nil=>intro us r;rw[List.map_nil]at r;cases r;exact .nil
 | cons n ns ih=>
  intro us r;rw[List.map_cons]at r;cases r with
  |cons r1 r2=>
   obtain⟨t,e⟩:=r1;subst e;exact .cons n t (ih r2)
theorem qq5{us:List Value}{ns:List Str}(h:StrsAre us ns):Vals (ns.map V.str) us:=by
 induction h with
 |nil=>exact .nil
 |cons y t _ ih=>exact .cons ⟨t,rfl⟩ ih
theorem kvn{us:List Value}{ns:List Int}(h:IntsAre us ns):Vals (ns.map V.int) us:=by
 induction h with
 |nil=>exact .nil
 |cons y t _ ih=>exact .cons ⟨t,rfl⟩ ih
def qqm(K:PySem.W.Frag):List V->Hp->VK->Prop:=λxs H Q=>
 (∃p ss,xs=[.ref p]/\SqL K H p (ss.map V.str)/\ss.length<64/\∀l,H l=none->Q (.ref l) (upd H l (.lst ((J0 ss).map V.str)))) \/
 ∃p ss,xs=[.ref p]/\SqL K H p (ss.map V.int)/\ss.length<64/\∀l,H l=none->Q (.ref l) (upd H l (.lst ((Vj ss).map V.int)))
theorem kzd(hK:X.K=K):CallR X (.builtin "sorted") (qqm K):=by
 subst hK;intro pins s σ H xs us Q I r h;rcases h with⟨p,ss,rfl,hq,hl,q⟩|⟨p,ss,rfl,hq,hl,q⟩
 ·obtain⟨u,rfl,rx⟩:=zJ r;cases rx;obtain⟨a9,r',pl,hz⟩:=I.list hq;have ae:=r'.length;rw[X3]at ae hz;refine sorted_strs (vs:=a9) pl.isList (qk6 r') (by omega) λout ss' h1 h2 h3=>?_
  have e:=qxu h2 h3;subst e;obtain⟨n,hn⟩:=sortedAll_at s.heap a9 out;have fe:s.heap.objs.size<=s.heap.objs.size+1:=Nat.le_succ _;refine⟨.ref (s.heap.objs.size+1),_,I.laid (t':=s.toks) (o:=.lst ((J0 ss).map V.str)) (λb o e=>sortedAll_old e) fe ?_,rfl,q _ (I.hok.fresh fe)⟩;exact⟨by rw[X3,(XZ ss).length_eq];exact hz,out.toList,n,qq5 h1,by simpa using hn⟩
 ·obtain⟨u,rfl,rx⟩:=zJ r;cases rx;obtain⟨a9,r',pl,hz⟩:=I.list hq;have ae:=r'.length;rw[X3]at ae hz;refine sorted_ints (vs:=a9) pl.isList (qkn r') (by omega) λout ss' h1 h2 h3=>?_
  have e:=qxv h2 h3;subst e;obtain⟨n,hn⟩:=sortedAll_at s.heap a9 out;have fe:s.heap.objs.size<=s.heap.objs.size+1:=Nat.le_succ _;refine⟨.ref (s.heap.objs.size+1),_,I.laid (t':=s.toks) (o:=.lst ((Vj ss).map V.int)) (λb o e=>sortedAll_old e) fe ?_,rfl,q _ (I.hok.fresh fe)⟩;exact⟨by rw[X3,(jxt ss).length_eq];exact hz,out.toList,n,kvn h1,by simpa using hn⟩
theorem kzr{g:Bool}:∀{ds:List D} {bs:List Str} {xs:List V} {as:List Addr},Jw ds=some bs->RepA K H g ds xs as->xs=bs.map V.str/\∀z∈bs,z.length<=sizeLine
 | [],bs,xs,as,h,r=>by
  cases oq9 h;unfold RepA at r;exact⟨r.1,λ_ z=>nomatch z⟩
 | d::ds,bs,xs,as,h,r=>by
  cases d with
  | str b=>
   unfold Jw at h;cases hb:Jw ds with
   |none=>rw[hb]at h;cases h
   |some ce=>
    rw[hb]at h;cases oq9 h;unfold RepA at r;obtain⟨x,rr,c1,c2,rfl,rfl,h1,h2⟩:=r;unfold RepL at h1;obtain⟨i1,i2⟩:=kzr hb h2;exact⟨by rw[h1.1,i1];rfl,λz hz=>(List.mem_cons.mp hz).elim (λe=>e▸h1.2.2) (i2 z)⟩
  |_=>unfold Jw at h;cases h
theorem qji{g:Bool}:∀{ds:List D} {bs:List Int} {xs:List V} {as:List Addr},VJ ds=some bs->RepA K H g ds xs as->xs=bs.map V.int
 | [],bs,xs,as,h,r=>by
  cases oq9 h;unfold RepA at r;exact r.1
 | d::ds,bs,xs,as,h,r=>by
  cases d with
  | int b=>
   unfold VJ at h;cases hb:VJ ds with
   |none=>rw[hb]at h;cases h
   |some ce=>
    rw[hb]at h;cases oq9 h;unfold RepA at r;obtain⟨x,rr,c1,c2,rfl,rfl,h1,h2⟩:=r;unfold RepL at h1;rw[h1.1,qji hb h2];rfl
  |_=>unfold VJ at h;cases h
theorem kzz{g:Bool}:∀{bs:List Str},(∀z∈bs,z.length<=sizeLine)->RepA K H g (bs.map D.str) (bs.map V.str) []
 |[],_=>by unfold RepA;exact⟨rfl,rfl⟩
 |b::bs,h=>by
  rw[List.map_cons,List.map_cons];unfold RepA;exact⟨_,_,[],[],rfl,rfl,kj8 (h b X2),kzz λz hz=>h z (lc9 _ hz)⟩
theorem qj0{g:Bool}:∀{bs:List Int},RepA K H g (bs.map D.int) (bs.map V.int) []
 |[]=>by unfold RepA;exact⟨rfl,rfl⟩
 |b::bs=>by
  rw[List.map_cons,List.map_cons];unfold RepA;exact⟨_,_,[],[],rfl,rfl,JQ,qj0⟩
theorem qxd:Ad1 K (λv H Q=>qqm K [v] H Q) Z8:=by
 intro H x s Q ok hf k;unfold Z8 at hf;dsimp only at hf;cases hx:x.d with
 | lst ds=>
  rw [hx]at hf;dsimp only at hf;obtain⟨l,xs,bs,ev,q3,r3,_⟩:=items ok (.inl hx);have q3:LsR K H l xs:=by rcases q3 with⟨_,z⟩|⟨z,_⟩;exact z;rw[hx]at z;cases z
  cases hs:Jw ds with
  | some ss=>
   rw[hs]at hf;dsimp only at hf
   split at hf
   ·rename_i hl;cases oq9 hf;obtain⟨e1,e2⟩:=kzr hs r3;subst e1;refine .inl ⟨l,ss,by rw[ev],Jv q3,hl,λp hp=>?_⟩;exact k ⟨.rt,.lst _,.ref p,p::[]⟩ _ rfl rfl (KY hp (kzz λz hz=>e2 z ((XZ ss).mem_iff.mp hz)) λb hb=>nomatch hb)
   ·cases hf
  | none=>
   rw[hs]at hf;dsimp only at hf;cases hi:VJ ds with
   | none=>rw[hi]at hf;cases hf
   | some ss=>
    rw[hi]at hf;dsimp only at hf
    split at hf
    ·rename_i hl;cases oq9 hf;have e1:=qji hi r3;subst e1;refine .inr ⟨l,ss,by rw[ev],Jv q3,hl,λp hp=>?_⟩;exact k ⟨.rt,.lst _,.ref p,p::[]⟩ _ rfl rfl (KY hp qj0 λb hb=>nomatch hb)
    ·cases hf
 |_=>rw[hx]at hf;cases hf
def tPo(Z:Fx0):Option Ex->TO
 |none=>qqa
 |some c=>vx5 (tV Z true c)
theorem wkw:PO X none (tPo Z none):=vqt
theorem vqd(h:QV X Z true c e):PO X (some e) (tPo Z (some c)):=vqr h
theorem qv2{α:Type}{co:Option Ex}{F:En->Option Int->Option (Res α)}{r:Res α}{G:Option Int->Hp->Prop}(m:Mt E σ L)(w:World Z.K H L)(h:bnd (V2 co E) F=some r)(xc:Xc Z σ H L r)
  (k:∀E1 l,F E1 l=some r->∀L1 H1,Mt E1 σ L1->World Z.K H1 L1->Step H L H1 L1->k8 H H1->G l H1):tPo Z co σ H G:=by
 cases co with
 | none=>exact k E none h L H m w Step.refl xJ
 | some c=>
  have h:bnd (bnd (c E) λE x=>match x.2 with|.int i=>some (.ok E (some i))|_=>none) F=some r:=h;have h':bnd (c E) (λE x=>bnd (match x.2 with|.int i=>some (.ok E (some i))|_=>none) F)=some r:=by
   cases hc:c E with
   |none=>rw[hc]at h;exact h
   |some y=>rw[hc]at h;cases y<;>exact h
  show tV Z true c σ H λx H1=>∃i,x=.int i/\G (some i) H1
  refine wV m w h' xc λE1 s h1 x L1 H1 e1 e2 m1 w1 ok fr sr st sm=>?_
  cases hs:s.2 with
  |int i=>
   rw[hs]at h1;exact⟨i,wv ok (e2.trans hs),k E1 (some i) h1 L1 H1 m1 w1 st (sm rfl)⟩
  |_=>rw[hs]at h1;cases h1
theorem kzx(n d:Nat)(v:Option Int):HT.sIx n d v=zY n d v:=by
 cases v<;>rfl
theorem RepA.drop{K:PySem.W.Frag}{H:Hp}{g:Bool}:∀(n:Nat) {ds:List D} {xs:List V} {as:List Addr},RepA K H g ds xs as->∃bs,RepA K H g (ds.drop n) (xs.drop n) bs/\∀b∈bs,b∈as
 |0,ds,xs,as,h=>⟨as,h,λ_ h=>h⟩
 |n+1,[],xs,as,h=>by
  unfold RepA at h;obtain⟨rfl,rfl⟩:=h;exact⟨[],by simp only[List.drop_nil];unfold RepA;exact⟨rfl,rfl⟩,λ_ h=>h⟩
 |n+1,d::ds,xs,as,h=>by
  unfold RepA at h;obtain⟨x,r,bs,cs,rfl,rfl,h1,h2⟩:=h;obtain⟨es,r2,hb⟩:=RepA.drop n h2;exact⟨es,r2,λb h=>lr9 _ (hb b h)⟩
theorem RepA.take{K:PySem.W.Frag}{H:Hp}{g:Bool}:∀(n:Nat) {ds:List D} {xs:List V} {as:List Addr},RepA K H g ds xs as->∃bs,RepA K H g (ds.take n) (xs.take n) bs/\∀b∈bs,b∈as
 |0,ds,xs,as,h=>⟨[],by simp only[List.take_zero];unfold RepA;exact⟨rfl,rfl⟩,λ_ h=>nomatch h⟩
 |n+1,[],xs,as,h=>by
  unfold RepA at h;obtain⟨rfl,rfl⟩:=h;exact⟨[],by simp only[List.take_nil];unfold RepA;exact⟨rfl,rfl⟩,λ_ h=>h⟩
 |n+1,d::ds,xs,as,h=>by
  unfold RepA at h;obtain⟨x,r,bs,cs,rfl,rfl,h1,h2⟩:=h;obtain⟨es,r2,hb⟩:=RepA.take n h2;refine⟨bs++es,?_,λb h=>(List.mem_append.mp h).elim (λz=>ll9 _ z) λz=>lr9 _ (hb b z)⟩;rw[List.take_succ_cons,List.take_succ_cons];unfold RepA;exact⟨x,r.take n,bs,es,rfl,rfl,h1,r2⟩
theorem RepA.cut{K:PySem.W.Frag}{H:Hp}{g:Bool}{ds:List D}{xs:List V}{as:List Addr}(h:RepA K H g ds xs as)(lo hi:Option Int):∃bs,RepA K H g (Jx ds lo hi) (Qj xs lo hi) bs/\∀b∈bs,b∈as:=by
 have hl:=h.len;unfold Jx Qj;rw[kzx,kzx,<-hl];obtain⟨bs,r,hb⟩:=h.drop (zY ds.length 0 lo);obtain⟨cs,r2,hc⟩:=r.take (zY ds.length ds.length hi - zY ds.length 0 lo);exact⟨cs,r2,λb h=>hb b (hc b h)⟩
theorem vq1{x:Sl}{s:Sd}{lo hi:Option Int}{Q:VK}(ok:x.ok K H)(hf:fSl (x.o,x.d) lo hi=some s)(k:∀(z:Sl) H',z.o=s.1->z.d=s.2->Out K H H' z x.frz->Q z.v H'):vjl K x.v lo hi H Q:=by
 unfold fSl at hf;dsimp only at hf;cases hx:x.d with
 | lst ds=>
  rw[hx]at hf;dsimp only at hf
  split at hf
  ·rename_i hl;cases oq9 hf;obtain⟨l,xs,bs,ev,q3,r3,h3⟩:=z9 ok (.inl hx) (by rw[hx];exact hl);have q3:LsR K H l xs:=by rcases q3 with⟨_,z⟩|⟨z,_⟩;exact z;rw[hx]at z;cases z
   obtain⟨cs,r4,h4⟩:=r3.cut lo hi;exact .inl ⟨l,xs,ev,Jv q3,λp hp=>k ⟨.rt,.lst _,.ref p,p::cs⟩ _ rfl rfl (KY hp r4 λb hb=>h3 b (h4 b hb))⟩
  ·cases hf
 | tup ds=>
  rw[hx]at hf;dsimp only at hf
  split at hf
  ·rename_i hl;cases oq9 hf;obtain⟨l,xs,bs,ev,q3,r3,h3⟩:=z9 ok (.inr hx) (by rw[hx];exact hl.1);have q3:SqT K H l xs:=by rcases q3 with⟨z,_⟩|⟨_,z⟩;rw[hx]at z;cases z;exact z
   obtain⟨cs,r4,h4⟩:=r3.cut lo hi;refine .inr (.inl ⟨l,xs,ev,q3,?_,λp hp=>k ⟨.no,.tup _,.ref p,cs⟩ _ rfl rfl (kjc hp r4 λb hb=>h3 b (h4 b hb))⟩);rw[kzx,kzx,<-r3.len];exact hl.2
  ·cases hf
 | str z=>
  rw[hx]at hf;dsimp only at hf
  split at hf
  ·rename_i hl;cases oq9 hf;obtain⟨e,hz⟩:=xx ok hx;exact .inr (.inr ⟨z,e,hz,k ⟨.dp,.str _,.str _,[]⟩ H rfl rfl (wqb hl)⟩)
  ·cases hf
 |_=>rw[hx]at hf;cases hf
theorem wvq{lo hi:Option Ex}{elo ehi:Option Expr}(ha:QV X Z q a ea)(hl:PO X elo (tPo Z lo))(hh:PO X ehi (tPo Z hi))(hK:X.K=Z.K:=by rfl):QE X Z q (cSl a lo hi) (.Subscript ea (.Slice elo ehi none p2) pos):=
 qX (qze (wkp Z.K hK) ha hl hh) fun σ H Q af=>ex8 af λE L r m w hc xc k=>by
  refine wV m w (show bnd (a E) _=some r from hc) xc λE1 s h1 x L1 H1 e1 e2 m1 w1 ok fr sr st sm=>?_
  refine qv2 m1 w1 h1 (xc.step st) λE2 l h2 L2 H2 m2 w2 bg em=>?_
  refine qv2 m2 w2 h2 (xc.step (st.trans bg)) λE3 u h3 L3 H3 m3 w3 cn sm3=>?_
  obtain⟨z,hz,rfl⟩:=K5 h3;have k1:=YQ ok fr bg em;have k2:=YQ k1.1 k1.2 cn sm3;refine vq1 k2.1 (by rw[e1,e2];exact hz) λy H' ho hd o=>?_
  obtain⟨w4,ix⟩:=Q5 w3 ((st.trans bg).trans cn) o k2.2 (λb hb=>k2.1.some (Sl.frz_as hb)) (jx1 sr λb hb=>Sl.frz_as hb);have fy:q=true->k8 H H3:=λhq=>qK (sm hq) (qK em sm3)
  exact k _ _ rfl y L3 H' ho hd m3 w4 ix λhq=>⟨qK (fy hq) o.same,λb hb=>xX (fy hq) (o.new b hb)⟩
def tAV(Z:Fx0)(cs:List Ex):TA:=fun σ H Q=>∃E L r,Mt E σ L/\World Z.K H L/\qJ cs E=some r/\Xc Z σ H L r /\
 ∀E' ys,r=.ok E' ys->∀(xs:List Sl) L' H',xs.map Sl.sd=ys->Mt E' σ L'->World Z.K H' L'->(∀x∈xs,x.ok Z.K H')->Step H L H' L'->k8 H H'->Q (xs.map Sl.v) H'
def QAV(X:Cx)(Z:Fx0)(cs:List Ex)(es:List Expr):Prop:=PA X es (tAV Z cs)
theorem wkz:QAV X Z [] []:=W9 xj fun σ H Q af=>ex8 af λE L r m w hc xc k=>by
 cases oq9 hc;exact k _ _ rfl [] L H rfl m w (λ_ z=>nomatch z) Step.refl xJ
theorem vz1{cs:List Ex}{es:List Expr}(h:QV X Z true c e)(hs:QAV X Z cs es)(b7:starEach (e::es) X.env=(false,eval e X.env)::starEach es X.env:=by rfl):QAV X Z (c::cs) (e::es):=
 W9 (x5 h hs b7) fun σ H Q af=>ex8 af λE L r m w hc xc k=>by
  refine wV m w (show bnd (c E) _=some r from hc) xc λE1 s h1 x L1 H1 e1 e2 m1 w1 ok fr sr st sm=>?_
  rcases wW h1 with⟨E2,ys,h2,h3⟩|⟨E2,cc,h2,h3⟩
  ·cases oq9 h3;refine⟨E1,L1,_,m1,w1,h2,(λ_ _ z=>by cases z),λE' qs z xs L2 H2 e3 m2 w2 ig bg em=>?_⟩;injection z with z1 z2;subst z1 z2;refine k _ _ rfl (x::xs) L2 H2 (by rw[List.map_cons,e3];simp[Sl.sd,e1,e2]) m2 w2 (λy hy=>?_) (st.trans bg) (qK (sm rfl) em);rcases List.mem_cons.mp hy with rfl|hy
   ·exact(YQ ok fr bg em).1
   ·exact ig y hy
  ·exact⟨E1,L1,_,m1,w1,h2,(xc.step st).map h3,λE' s' z=>by cases z⟩
theorem vqh{k n:Nat}{ps:List Str}{f:Fn}{cs:List Ex}{es:List Expr}(D:kZ X.prog X.w X.K X.mg X.base k x ps (spF Z.K Z.mg n f))(hr:Room k X.A)(g:x8 X Z.EX)(ha:QAV X Z cs (e::es))(hn:cs.length=n:=by rfl)(hg:Gl X x:=by rfl)(cu:(x==("__debug__":Str))=false:=by decide)
  (he:starEach (e::es) X.env=(false,eval e X.env)::starEach es X.env:=by rfl) (bt:(backTo pos (starEach es X.env)).any (·.1)=false:=by rfl):
  QE X Z true (kwz f cs) (.Call (.Name x p) (e::es) [] pos):=qX (qv6 D hr g ha hg cu he bt) fun σ H Q af=>ex8 af λE L r m w hc xc kk=>by
 have hc:bnd (qJ cs E) _=some r:=hc;rcases wW hc with⟨E1,ys,h1,h2⟩|⟨E1,cc,h1,h2⟩
 rotate_left
 ·exact⟨E,L,_,m,w,h1,xc.map h2,λE' s' z=>by cases z⟩
 refine⟨E,L,_,m,w,h1,(λ_ _ z=>by cases z),λE' qs z xs L1 H1 e1 m1 w1 ok1 st sm=>?_⟩;injection z with z1 z2;subst z1 z2;rw [Xp];have ae:xs.length=n:=by rw[<-hn,<-Z6 h1,<-e1,X3]
 cases hf:f (letAll ys)with
 | none=>rw[hf]at h2;cases h2
 | some fr=>
  rw[hf]at h2;have ev:xs.map Sl.v=(xs.map Sl.let).map Sl.v:=by rw[Yf];rfl
  have wl:World Z.K H1 ((xs.map Sl.let).map some):=by
   refine⟨λy hy=>?_,by rw[Jq];exact Xr,λa ha=>by rw[Jq]at ha;exact nomatch ha⟩;obtain⟨y',hy',e⟩:=List.mem_map.mp hy;cases e;obtain⟨t,ht,rfl⟩:=List.mem_map.mp hy';exact KJ (ok1 t ht)
  rw[ev];refine⟨xs.map Sl.let,fr,rfl,by rw[X3];exact ae,wl,by rw[<-e1]at hf;rw[kv2];exact hf,λE' c ee C H' hm s'=>?_,λE' a ee y H' e2 e3 w' s'=>?_⟩
  ·subst ee;cases oq9 h2;have lw:k8 H1 H':=λb ob hb=>s'.keep b ob hb λz=>by rw[Jq]at z;exact nomatch z
   exact xc _ _ rfl C L1 H' hm m1 ⟨λy hy=>RepO.kp (w1.ok y hy) (Kp.of_same lw),w1.nd,w1.ds⟩ (st.trans ⟨λb ob hb _=>lw b ob hb,λ_ h=>.inl h,λ_ h=>.inl h⟩)
  ·subst ee;dsimp only at h2
   split at h2
   ·rename_i hp;cases oq9 h2;have lw:k8 H1 H':=λb ob hb=>s'.keep b ob hb λz=>by rw[Jq]at z;exact nomatch z
    have w2:World Z.K H' L1:=⟨λy hy=>RepO.kp (w1.ok y hy) (Kp.of_same lw),w1.nd,w1.ds⟩;obtain⟨z,rp⟩:=RepL.pu (g':=false) (RepO.wk (w'.ok y X2)) (by rw[e3];exact hp);have bg:Step H L H' L1:=st.trans ⟨λb ob hb _=>lw b ob hb,λ_ h=>.inl h,λ_ h=>.inl h⟩;exact kk _ _ rfl ⟨.dp,y.d,y.v,[]⟩ L1 H' rfl e3 m1 (w2.consPu rp rfl) (J3 (x:=⟨.dp,y.d,y.v,[]⟩) bg (λb hb=>nomatch hb) rfl) λ_=>⟨qK sm lw,λ_ z=>(nomatch z)⟩
   ·cases h2
end
theorem vx0{prog:Program}{w:PySem.World}{A:Around}{E:Value->Shared->Prop}{s:Shared}{t:Addr}{items:Array Value}{x:Value}{e:Value->Bool}{j:Nat}{Q:Value->Shared->Prop}
  (ht:IsTup s.heap t items) (he:∀y∈items,SeqAt.EqAt A.in1 s y x (e y)) (hj:j<items.size) (h1:e items[j]=true) (h2:∀m (hm:m<items.size),m<j->e items[m]=false)
  (h:Q (.int j s.toks) { s with toks:=s.toks+1 }):wpAny (model prog w) A (call (.builtin "tuple.index") [.ref t,x]) Q E s:=by
 refine Yd PySem.F.slot_tuple_index ht.typeIs PySem.F.entry_tuple_index ?_ (PySem.F.args_tuple_index_2 _ _);show wpAny _ _ (Builtin.Tuple.tupleItemsOf (.ref t) >>= _) _ _ s;refine X0 (tupleItemsOf_ ht ?_);dsimp only;refine X0 (X4 ?_);refine X0 (X4 ?_);rw[Std.Legacy.Range.forIn_eq_forIn_range'];refine X0 (wpAny_forIn_list _ (λrest b s'=>b=(none,())/\s'=s/\∃k,k<=j/\rest=List.range' k (items.size - k)) _ ?_ ?_ _ _ ⟨rfl,rfl,0,Xv _,?_⟩)
 ·rintro i rest b s' ⟨rfl,rfl,k,hk,hr⟩;obtain⟨n,hn⟩:∃n,items.size - k=n+1:=⟨items.size - k - 1,by omega⟩;rw[hn,List.range'_succ]at hr;injection hr with hi lz;subst hi;have hi:i<items.size:=by omega
  rw[show items[i]?=some items[i]from Array.getElem?_eq_getElem hi];dsimp only;refine X0 (he items[i] (Array.getElem_mem hi) _ _ _ _ ?_)
  by_cases o9:i=j
  ·subst o9;rw[h1,Xb rfl];unfold retInt;refine X0 (X0 (wpAny_mkInt (X4 (X4 ?_))));exact X4 ⟨_,rfl,h⟩
  ·rw[h2 i hi (by omega),Xe (by decide)];refine X4 ⟨rfl,rfl,i+1,by omega,?_⟩;rw[lz]
   congr 1
   omega
 ·rintro b s' ⟨rfl,rfl,k,hk,hr⟩;have:items.size - k=0:=by
   have:=congrArg List.length hr
   simpa using this.symm
  omega
 ·simp
theorem wkq{prog:Program}{w:PySem.World}{A:Around}{E:Value->Shared->Prop}{s:Shared}{l:Addr}{items:Array Value}{k:Int}{t:Tok}{Q:Value->Shared->Prop}
  (ht:IsTup s.heap l items) (h:Q .notImplemented s):wpAny (model prog w) A (call (.builtin "int.__rmul__") [.int k t,.ref l]) Q E s:=by
 refine Yd PySem.F.slot_int_rmul (typeIs_int s k t) PySem.F.entry_int_rmul ?_ (PySem.F.args_int_rmul_2 _ _);obtain⟨o,e,c,n,hd⟩:=ht;show wpAny _ _ (asInt? (.ref l) >>= _) _ _ s;unfold asInt?;refine X0 (X0 (wpAny_load e ?_));rw[hd];refine X4 ?_;dsimp only;refine X0 (wpAny_rule ?_);exact X4 ⟨_,rfl,h⟩
theorem mulT{prog:Program}{w:PySem.World}{A:Around}{E:Value->Shared->Prop}{s:Shared}{l:Addr}{items:Array Value}{k:Int}{t:Tok}{Q:Value->Shared->Prop}
  (ht:IsTup s.heap l items) (h1:-(2 ^ 63)<=k) (h2:k<2 ^ 63) (hz:items.size*k.toNat<=sizeLine)
  (qc:(items.isEmpty=true\/k=1)->Q (.ref l) s)
  (hsz:(List.foldl (λx1 x2=>x1++x2) #[] (List.replicate k.toNat items)).size<=sizeLine)
  (je:Q (.ref s.heap.objs.size) { s with heap:=s.heap.push { cls:=.type "tuple",data:=.seq (List.foldl (λx1 x2=>x1++x2) #[] (List.replicate k.toNat items)) } })
  : wpAny (model prog w) A (call (.builtin "tuple.__mul__") [.ref l,.int k t]) Q E s:=by
 refine Yd PySem.F.slot_tuple_mul ht.typeIs PySem.F.entry_tuple_mul ?_ (PySem.F.args_tuple_mul_2 _ _);show wpAny _ _ (if(decide (k < -2 ^ 63)||decide (k>=2 ^ 63))=true then _ else _) _ _ s;rw [Xe (by simp;omega)];show wpAny _ _ (Builtin.Tuple.tupleItemsOf (.ref l) >>= _) _ _ s;refine X0 (tupleItemsOf_ ht ?_)
 by_cases hs:(items.isEmpty||k==1)=true
 ·rw[Xb hs];unfold Builtin.Tuple.tupleIsExact;refine X0 (X0 (wpAny_typeOf ht.typeIs (X4 ?_)));rw[Xb (by decide)];refine X0 (wpAny_rule ?_);refine X4 ⟨_,rfl,qc ?_⟩
  simpa using hs
 ·rw[Xe hs];have cx:items.isEmpty=false:=by
   cases h:items.isEmpty<;>simp_all
  have hm:((items.size:Int)*k)<=(sizeLine:Int)\/k<=0:=by
   by_cases hk:k<=0
   ·exact .inr hk
   ·refine .inl ?_;have e:((k.toNat:Nat):Int)=k:=Int.toNat_of_nonneg (by omega);have:((items.size*k.toNat:Nat):Int)<=(sizeLine:Int):=Int.ofNat_le.mpr hz;rw[Int.natCast_mul,e]at this;exact this
  dsimp only
  by_cases hk:k<=0
  ·rw[Xb (by simp[hk])];have e:k.toNat=0:=by omega
   rw[e]at je;unfold Builtin.Tuple.tupleExact;exact X0 (Y5 (X4 ⟨_,rfl,je⟩) (show(0:Nat)<=sizeLine from Xv _))
  ·rw[Xe (by simp[hk,cx])];have hm:=hm.resolve_right hk;have kt:(sizeLine:Int)=16777216:=by decide
   rw[Xe (by omega)];rw[Xe (by unfold Builtin.Tuple.tupleTooMany;simp;omega)];unfold Builtin.Tuple.tupleExact;exact X0 (Y5 (X4 ⟨_,rfl,je⟩) hsz)
section
variable {X:Cx}{Z:Fx0}{K:PySem.W.Frag}{pn:List Nat}{q qa qb:Bool}{a b c:Ex}{u:Ts}{tg e ea eb:Expr}{st:Stmt}{σ:L2.St}{H:Hp}{L:Ls}{E:En}{pos p p2:Pos}{x:Str}
def vxj(K:PySem.W.Frag):R2:=λx y H Q=>∃l k xs,x=.ref l/\y=.int k/\SqT K H l xs/\-(2 ^ 63)<=k/\k<2 ^ 63/\xs.length*k.toNat<=sizeLine/\((xs=[]\/k=1)->Q (.ref l) H)/\∀p,H p=none->Q (.ref p) (upd H p (.tup (List.replicate k.toNat xs).flatten))
theorem op_repT:OpR X (binaryOp .Mult) (vxj X.K):=by
 intro pins s σ H x y v u Q I rx ry h;obtain⟨l,k,xs,rfl,rfl,hq,h1,h2,hz,q1,q2⟩:=h;cases rx;obtain⟨t,rfl⟩:=ry;obtain⟨a9,r,ht,hl⟩:=I.tuple hq;have ae:=r.length;have f0:List.foldl (λx1 x2=>x1++x2) #[] (List.replicate k.toNat a9.toArray)=(List.replicate k.toNat a9).flatten.toArray:=by
  have:=kjr a9 k.toNat [];rw[List.nil_append]at this;exact this
 have hz2:(List.replicate k.toNat xs).flatten.length<=sizeLine:=by rw[qvt,Nat.mul_comm];exact hz
 refine wpAny_binaryOp_repeat_ref (T:="tuple") (U:="int") (by decide) ht.typeIs (λs'=>typeIs_int s' k t) rfl F.fills_int_mul F.slot_int_rmul (show seqRepeat? (Value.type "tuple")=pure (some (Value.builtin "tuple.__mul__"))from rfl) F.slot_int_index.lookup
  (wkq ht ⟨rfl,ht.typeIs,mulT ht h1 h2 (by rw[X7,<-ae];exact hz) (λhs=>?_) ?_ ?_⟩)
 ·refine⟨.ref l,H,I,rfl,q1 ?_⟩;rcases hs with hs|hs
  ·left;have:a9=[]:=by simpa using hs
   subst this
   simpa using ae
  ·exact .inr hs
 ·rw[f0,X7,<-(r.rep k.toNat).length];exact hz2
 ·rw[f0];exact⟨.ref _,_,I.laid (t':=s.toks) (o:=.tup _) (λb o e=>X9 _ e) (X8 _) ⟨hz2,_,r.rep k.toNat,IsTupD.new _ _⟩,rfl,q2 _ (I.hok.fresh (X8 _))⟩
def vxm(K:PySem.W.Frag):R2:=λx y H Q=>vxj K x y H Q\/vq7 K x y H Q
theorem vzo(hK:X.K=K:=by rfl):OpR X (binaryOp .Mult) (vxm K):=by subst hK;exact op_repT.or vzp
theorem vwg:Ad2 K (vxm K) jY:=by
 intro H x y s Q ox oy hf k;cases hx:x.d with
 | tup ds=>
  cases hy:y.d with
  | int n=>
   unfold jY at hf;rw [show(x.o,x.d).2=x.d from rfl,show(y.o,y.d).2=y.d from rfl,hx,hy]at hf;dsimp only at hf
   split at hf
   ·rename_i hc;cases oq9 hf;obtain⟨l,xs,bs,e3,q3,r3,h3⟩:=z9 ox (.inr hx) (by rw[hx];exact hc.2.2.2);have q3:SqT K H l xs:=by rcases q3 with⟨z,_⟩|⟨_,z⟩;rw[hx]at z;cases z;exact z
    obtain⟨cs,r4,h4⟩:=r3.reps n.toNat;refine .inl ⟨l,n,xs,e3,wv oy hy,q3,hc.1,hc.2.1,by rw[<-r3.len];exact hc.2.2.1,λhs=>?_,λp hp=>?_⟩
    ·refine k ⟨.no,.tup _,.ref l,cs⟩ H rfl rfl ⟨xJ,?_,λb hb=>(nomatch hb),Xr,λb hb=>ll9 _ (h3 b (h4 b hb))⟩;show RepL K H true (.tup _) (.ref l) cs;unfold RepL;refine⟨l,xs,rfl,q3,?_⟩;have e:(List.replicate n.toNat xs).flatten=xs:=by
      rcases hs with hs|hs
      ·subst hs;simp
      ·subst hs;simp
     rw[e]at r4;exact r4
    ·exact k ⟨.no,.tup _,.ref p,cs⟩ _ rfl rfl (kjc hp r4 λb hb=>ll9 _ (h3 b (h4 b hb)))
   ·cases hf
  |_=>
   refine .inr (vkn H x y s Q ox oy ?_ k);unfold jY at hf;rw[show(x.o,x.d).2=x.d from rfl,show(y.o,y.d).2=y.d from rfl,hx,hy]at hf;rw[hx,hy];exact hf
 |_=>
  refine .inr (vkn H x y s Q ox oy ?_ k);unfold jY at hf;rw[show(x.o,x.d).2=x.d from rfl,hx]at hf;rw[hx];exact hf
theorem qvm{h:Heap}:∀{ds:List D} {us:List Value},CReps h ds us->us.map (dec h)=ds
 |[],_,r=>by unfold CReps at r;rw[r];rfl
 |z::ds,_,r=>by
  unfold CReps at r;obtain⟨u,rr,rfl,h1,h2⟩:=r;rw[List.map_cons,kwv h1,qvm h2]
def wku(K:PySem.W.Frag)(C:Hp->List V->Prop):List V->Hp->VK->Prop:=λvs H Q=>∃v d ds as bs xs j,vs=[v]/\RepL K H true d v as/\C H xs/\RepA K H true ds xs bs/\d.flat 30=true/\D.flats 30 ds=true/\(ds.findIdx? λz=>peq z d)=some j/\Q (.int j) H
theorem qzf{o:Expr}{to:TE}{t:TA}{apos aa:Pos}(hu:X.A.units+64<cLine)(ho:PE X o to)(ha:PA X [e] t)
  (ao:attributeBase o "index" X.env (eval o X.env)=eval o X.env:=by rfl)
  (d8:((backTo aa (starEach [e] X.env)).all (λx=>!x.1)&&(backToKw aa (keywordEach [] X.env)).all (λx=>x.1.isSome)
   && decide ([e].length+([]:List Keyword).length+(if([]:List Keyword).isEmpty then 0 else 1)<30))=true:=by rfl)
  (ak:(apos.endLine==aa.line)=true:=by rfl) (hs:starEach [e] X.env=(false,eval e X.env)::starEach [] X.env:=by rfl) (au:(backTo aa (starEach [] X.env)).any (·.1)=false:=by rfl):
  PE X (.Call (.Attribute o "index" apos) [e] [] aa) (fun σ H Q=>to σ H λx H1=>(∃p xs,x=.ref p/\LsR X.K H1 p xs/\t σ H1 λvs H2=>wku X.K (λH xs=>LsR X.K H p xs) vs H2 Q)\/∃p xs,x=.ref p/\SqT X.K H1 p xs/\t σ H1 λvs H2=>wku X.K (λH xs=>SqT X.K H p xs) vs H2 Q):=by
 intro pins s σ H Q I h;refine wpAny_Call_method_late ao d8 ak rfl (thn (ho pins s σ H _ I h) λv s1 ⟨x,H1,I1,r1,qq⟩=>?_);have eqs:∀{s2:Shared} {H2:Hp} {d:D} {v:V} {as:List Addr} {w:Value} {us:List Value} {ds:List D},L2.Inv X pins σ H2 s2->RepL X.K H2 true d v as->RelV v w->d.flat 30=true->D.flats 30 ds=true->CReps s2.heap ds us->∀y∈us.toArray,SeqAt.EqAt X.A.in1 s2 y w (peq (dec s2.heap y) d):=fun {s2 H2 d v as w us ds} I2 rd rw f1 f2 cr y hy=>by
  have c1:=Qz I2 rd f1 rw;obtain⟨d',hd,c⟩:=jzw cr (by simpa using hy);rw[kwv c];exact W4 30 (jxc f2 hd) c c1 (by have:=L3.in1_units X.A;omega)
 have idx:∀{h:Heap} {ds:List D} {us:List Value} {d:D} {j:Nat},CReps h ds us->(ds.findIdx? λz=>peq z d)=some j->∃hj:j<us.toArray.size,peq (dec h us.toArray[j]) d=true/\∀m (hm:m<us.toArray.size),m<j->peq (dec h us.toArray[m]) d=false:=fun {h ds us d j} cr hf=>by
  have e:=qvm cr;subst e;rw[List.findIdx?_eq_some_iff_getElem]at hf;obtain⟨hj,h1,h2⟩:=hf;have hj':j<us.length:=by simpa using hj
  refine⟨by simpa using hj',by simpa using h1,λm hm hmj=>?_⟩;have:=h2 m hmj
  simpa using this
 rcases qq with⟨pp,zs,rfl,ty,q1⟩|⟨pp,zs,rfl,ty,q1⟩
 ·cases r1;have hA:=ha aa pins s1 σ H1 _ I1 q1;rw[hs]at hA ⊢;obtain⟨z,a9,n,r,e0⟩:=ty.is I1;refine⟨"list","list.index",F.plainAttrs_list,F.slot_list_index,F.type_list_index,⟨_,e0,rfl⟩,λa e2=>?_,?_⟩
  ·cases e2;exact⟨_,e0,rfl⟩
  refine Yo (by show(false||(backTo aa (starEach [] X.env)).any (·.1))=false;rw[au]<;>rfl) (Calls.evalArgs_plain ?_);refine thn hA λus s2 ⟨vs,H2,I2,r2,d2⟩=>?_
  obtain⟨v,d,ds,as,bs,xs,j,rfl,rd,hq,ra,f1,f2,hf,q2⟩:=d2;obtain⟨w,rfl,rw1⟩:=r2.one;obtain⟨z2,fh,n2,r3,e3⟩:=hq.is I2;have cr:=creps_of I2 ra f2 r3;obtain⟨hj,h1,h2⟩:=idx cr hf;have hsz:fh.toArray.size<=16777216:=by rw[X7,<-r3.length];exact z2
  exact call_meets F.slot_list_index ⟨_,e3,rfl⟩ F.entry_list_index (F.args_list_index_2 _ _) (SeqAt.list_indexAt pp fh.toArray n2 none #[] w (λy=>peq (dec s2.heap y) d) j hj (by omega) h1 h2) ⟨e3,eqs I2 rd rw1 f1 f2 cr,.int _,H2,I2.tok _,⟨_,rfl⟩,q2⟩
 ·cases r1;have hA:=ha aa pins s1 σ H1 _ I1 q1;rw[hs]at hA ⊢;obtain⟨a9,r,ht,hz⟩:=I1.tuple ty;have hd0:=I1.tupleD ty;refine⟨"tuple","tuple.index",F.plainAttrs_tuple,F.slot_tuple_index,F.type_tuple_index,ht.typeIs,λa e2=>?_,?_⟩
  ·cases e2;exact hd0
  refine Yo (by show(false||(backTo aa (starEach [] X.env)).any (·.1))=false;rw[au]<;>rfl) (Calls.evalArgs_plain ?_);refine thn hA λus s2 ⟨vs,H2,I2,r2,d2⟩=>?_
  obtain⟨v,d,ds,as,bs,xs,j,rfl,rd,hq,ra,f1,f2,hf,q2⟩:=d2;obtain⟨w,rfl,rw1⟩:=r2.one;obtain⟨fh,r3,ht2,hz2⟩:=I2.tuple hq;have cr:=creps_of I2 ra f2 r3;obtain⟨hj,h1,h2⟩:=idx cr hf;exact vx0 (e:=λy=>peq (dec s2.heap y) d) ht2 (eqs I2 rd rw1 f1 f2 cr) hj h1 h2 ⟨.int _,H2,I2.tok _,⟨_,rfl⟩,q2⟩
theorem kxi{apos aa:Pos}(hu:X.A.units+64<cLine)(ha:QV X Z q a ea)(hb:QV X Z true b eb)(hK:X.K=Z.K:=by rfl)
  (ao:attributeBase ea "index" X.env (eval ea X.env)=eval ea X.env:=by rfl)
  (d8:((backTo aa (starEach [eb] X.env)).all (λx=>!x.1)&&(backToKw aa (keywordEach [] X.env)).all (λx=>x.1.isSome)
   && decide ([eb].length+([]:List Keyword).length+(if([]:List Keyword).isEmpty then 0 else 1)<30))=true:=by rfl)
  (ak:(apos.endLine==aa.line)=true:=by rfl) (hs:starEach [eb] X.env=(false,eval eb X.env)::starEach [] X.env:=by rfl) (au:(backTo aa (starEach [] X.env)).any (·.1)=false:=by rfl):
  QE X Z q (Vv a b) (.Call (.Attribute ea "index" apos) [eb] [] aa):=qX (qzf hu ha (x5 hb xj hs) ao d8 ak hs au) fun σ H Q af=>ex8 af λE L r m w hc xc k=>by
 refine wV m w (show bnd (a E) _=some r from hc) xc λE1 s h1 x L1 H1 e1 e2 m1 w1 ok fr sr st sm=>?_
 split at h1
 rotate_left
 ·cases h1
 rename_i hsq;rw [hK];have fin:∀{ds:List D},(x.d=.lst ds\/x.d=.tup ds)->∀(C:Hp->List V->Prop),(∀H2,x.ok Z.K H2->∃xs bs,C H2 xs/\RepA Z.K H2 true ds xs bs)->tV Z true b σ H1 λv H2=>wku Z.K C [v] H2 Q:=fun {ds} hx C hC=>by
  refine wV m1 w1 h1 (xc.step st) λE2 s2 h2 y L2 H2 e3 e4 m2 w2 ig fr2 sr2 bg em=>?_
  obtain⟨z,hz,rfl⟩:=K5 h2;have kx:=YQ ok fr bg (em rfl);obtain⟨xs,bs,c1,c2⟩:=hC H2 kx.1;have key:∃j:Nat,y.d.flat 30=true/\D.flats 30 ds=true/\(ds.findIdx? λz=>peq z y.d)=some j/\z=(.dp,.int j):=by
   unfold pu2 V7 at hz;rw[<-e2,<-e4]at hz;have nk:(if y.d.flat 30&&D.flats 30 ds then(ds.findIdx? λz=>peq z y.d).map λ(j:Nat)=>D.int (j:Int)else none).map (λd=>((Own.dp,d):Sd))=some z:=by
    rcases hx with hx|hx<;>(rw[hx]at hz;exact hz)
   split at nk
   ·rename_i hf;rw[Bool.and_eq_true]at hf;cases hj:ds.findIdx? λz=>peq z y.d with
    |none=>rw[hj]at nk;cases nk
    |some j=>rw[hj]at nk;exact⟨j,hf.1,hf.2,rfl,(oq9 nk).symm⟩
   ·cases nk
  obtain⟨j,f1,f2,f3,rfl⟩:=key;refine⟨y.v,y.d,ds,y.as,bs,xs,j,rfl,RepO.wk ig,c1,c2,f1,f2,f3,?_⟩;have fy:q=true->k8 H H2:=λhq=>qK (sm hq) (em rfl)
  exact k _ _ rfl ⟨.dp,.int j,.int j,[]⟩ L2 H2 rfl rfl m2 (w2.consPu (x:=⟨.dp,.int j,.int j,[]⟩) (show RepL Z.K H2 false (.int j) (.int j) []from JQ) rfl) (J3 (x:=⟨.dp,.int j,.int j,[]⟩) (st.trans bg) (λb hb=>nomatch hb) rfl) λhq=>⟨fy hq,λ_ z=>(nomatch z)⟩
 have wkA:∀{ds:List D} {xs:List V} {bs:List Addr} {H2:Hp},RepA Z.K H2 (x.o != .dp) ds xs bs->RepA Z.K H2 true ds xs bs:=fun {ds xs bs H2} r=>by
  cases ho:(x.o != .dp)with
  |true=>rw[ho]at r;exact r
  |false=>rw[ho]at r;exact r.wk
 cases hx:x.d with
 |lst ds=>
  obtain⟨l,xs,bs,ev,q3,r3,h3,_⟩:=items ok (.inl hx);have q3:LsR Z.K H1 l xs:=by rcases q3 with⟨_,z⟩|⟨z,_⟩;exact z;rw[hx]at z;cases z
  refine .inl ⟨l,xs,ev,q3,fin (.inl hx) _ λH2 ig=>?_⟩;obtain⟨l2,ys,cs,ev2,q4,r4,_⟩:=items ig (.inl hx);have:l2=l:=by have:=ev2.symm.trans ev;exact V.ref.inj this
  subst this;rcases q4 with⟨_,z⟩|⟨z,_⟩
  ·exact⟨ys,cs,z,wkA r4⟩
  ·rw[hx]at z;cases z
 |tup ds=>
  obtain⟨l,xs,bs,ev,q3,r3,h3,_⟩:=items ok (.inr hx);have q3:SqT Z.K H1 l xs:=by rcases q3 with⟨z,_⟩|⟨_,z⟩;rw[hx]at z;cases z;exact z
  refine .inr ⟨l,xs,ev,q3,fin (.inr hx) _ λH2 ig=>?_⟩;obtain⟨l2,ys,cs,ev2,q4,r4,_⟩:=items ig (.inr hx);have:l2=l:=by have:=ev2.symm.trans ev;exact V.ref.inj this
  subst this;rcases q4 with⟨z,_⟩|⟨_,z⟩
  ·rw[hx]at z;cases z
  ·exact⟨ys,cs,z,wkA r4⟩
 |_=>rw[<-e2,hx]at hsq;cases hsq
end
def Ite(K:PySem.W.Frag)(l:Addr):It:=⟨λi H=>∃xs x,SqL K H l xs/\xs[i]?=some x,
 λi H v H'=>∃T x,H T=none/\v=.ref T/\H'=upd H T (.tup [.int i,x])/\∀xs,SqL K H l xs->xs[i]?=some x,
 λi H=>∃xs,SqL K H l xs/\xs.length<=i⟩
theorem qq7{P:Program}{w:PySem.World}{K:PySem.W.Frag}{ez:List Expr}{k1:Nat}{pos:Pos}{e it l:Addr}(n1:e≠it)(n2:l≠e)(n3:l≠it):
  Turn P w K (.Tuple ez k1 pos) (Ite K l) [e,it] e (λi h=>(∃gr,IsEnum h e it (i:Int) gr)/\h.IsListIter it l i) where
 mem:=by simp
 obj:=λi h st b hb=>by
  obtain⟨⟨gr,h1⟩,o4,e4,c4,d4⟩:=st;simp only[Xw,Xm,or_false]at hb;rcases hb with rfl|rfl
  ·exact⟨_,h1,λv z=>by cases z⟩
  ·exact⟨_,e4,λv z=>by rw[d4]at z;cases z⟩
 keep:=λi h h' st k=>by
  obtain⟨⟨gr,h1⟩,o4,e4,c4,d4⟩:=st;exact⟨⟨gr,k _ (by simp) _ h1⟩,o4,k _ (by simp) _ e4,c4,d4⟩
 item:=by
  intro X hP hw hK hc i pins s σ H E I hf st hg;subst hP hw hK;obtain⟨xs,x,q1,hx⟩:=hg;obtain⟨qg,rv1,p1,hz1⟩:=I.list q1;obtain⟨u1,hu1,ru1⟩:=rv1.get hx;obtain⟨⟨gr,t1⟩,t2⟩:=st;refine wpAny_pyNext_enum_item t1 t2 p1.isList (x:=u1) (by simpa using hu1) n1 λh1 g1 g2 gT gs gk=>?_
  refine⟨_,rfl,wpAny_letOwnedTupleGo_enum (s:={ s with heap:=h1,toks:=s.toks+1 }) g1 λh2 f1 sb=>?_⟩;have fT:wq X pins H s.heap.objs.size:=I.fpOk (X8 _) (I.hok.fresh (X8 _));have nT:∀b∈[e,it],b≠s.heap.objs.size:=λb hb ee=>by
   obtain⟨o,eo,_⟩:∃o,s.heap.get? b=some o/\True:=by
    simp only[Xw,Xm,or_false]at hb;obtain⟨o4,e4,_⟩:=t2;rcases hb with rfl|rfl
    ·exact⟨_,t1,trivial⟩
    ·exact⟨_,e4,trivial⟩
   exact absurd (Xf eo) (by rw[ee];exact Yj _)
  have kk:∀b o,b∉[e,it]->s.heap.get? b=some o->h2.get? b=some o:=λb o hb ee=>by
   simp only[Xw,Xm,or_false,not_or]at hb;exact(sb.2 b hb.1).trans (gk b o hb.1 hb.2 ee)
  have I1:L2.Inv X pins σ H { s with heap:=h2,toks:=s.toks+1 }:=kjk [e,it] I kk hf;have nz:s.heap.objs.size≠e:=λee=>nT e (by simp) ee.symm
  have I2:=kwj (a:=s.heap.objs.size) (o:=.tup [.int (i:Int),x]) I1 fT.1 fT.2.1 fT.2.2.2.1 fT.2.2.2.2.1 fT.2.2.2.2.2
   (show ObjOk X.prog X.w _ h2 _ (.tup [.int (i:Int),x])from⟨by show(2:Nat)<=sizeLine;decide,[.int i s.toks,u1],.cons ⟨_,rfl⟩ (.cons ru1 .nil),⟨_,(sb.2 _ nz).trans gT,rfl,rfl,0,rfl⟩⟩)
  refine⟨.ref s.heap.objs.size,_,I2,rfl,⟨_,x,fT.1,rfl,rfl,λzs hzs=>by rw[I.list_inj hzs q1];exact hx⟩,?_,λb hb=>by rw[qz (nT b hb)];exact(hf b hb).1⟩;exact⟨⟨u1,f1⟩,g2.at λo ee=>(sb.2 _ n1.symm).trans ee⟩
 done:=by
  intro X hP hw hK hc i pins s σ H E I hf st hg;subst hP hw hK;obtain⟨xs,q1,hx⟩:=hg;obtain⟨qg,rv1,p1,hz1⟩:=I.list q1;obtain⟨⟨gr,t1⟩,t2⟩:=st;have hl1:=rv1.length;refine wpAny_pyNext_enum_end (I.ok.hd hc) t1 t2 p1.isList (by simp;omega) λh' kk=>⟨rfl,?_⟩
  refine kjk (t':=s.toks) [it] I (λb o hb ee=>kk b o (by simpa using hb) ee) λb hb=>hf b (by
   simp only[Xw,Xm,or_false]at hb ⊢;exact .inr hb)
 self:=λ_ _ _ _ _ st h=>by obtain⟨⟨gr,h1⟩,_⟩:=st;exact wpAny_pyIter_enum h1 h
abbrev wqn(K:PySem.W.Frag)(ta:TA):TI:=fun σ H R=>ta σ H λvs H1=>∃l,vs=[.ref l]/\(∃xs,SqL K H1 l xs/\(xs.length<=sizeLine->R (Ite K l) H1))
theorem kx0:bootBuiltins "enumerate"=some (.type "enumerate"):=boot_enumerate
section
variable {X:Cx}{Z:Fx0}{K:PySem.W.Frag}{pn:List Nat}{q qa qb:Bool}{a b c:Ex}{u:Ts}{tg e ea eb:Expr}{st:Stmt}{σ:L2.St}{H:Hp}{L:Ls}{E:En}{pos p p2 jg:Pos}{x:Str}{ez:List Expr}{k1:Nat}
theorem vqu(K:PySem.W.Frag){ta:TA}(hg:Gl X "enumerate")(hm:X.mg "enumerate"=none)(ha:PA X [e] ta)(hK:X.K=K:=by rfl)
  (hs:starEach [e] X.env=[(false,eval e X.env)]:=by rfl):PI X (.Tuple ez k1 jg) (.Call (.Name "enumerate" p) [e] [] pos) (wqn K ta):=by
 subst hK;intro pins s σ H R I h;refine Call_ (Vw I hg hm kx0 (Ye (thn (ha pos pins s σ H _ I h) λus s1 ⟨vs,H1,I1,r1,q1⟩=>?_) (by rw[hs];rfl) rfl));obtain⟨l,rfl,xs,q1,q⟩:=q1;obtain⟨u1,rfl,e1⟩:=zJ r1;cases e1;obtain⟨qg,rv1,p1,hz1⟩:=I1.list q1;have lt:l<s1.heap.objs.size:=by obtain⟨_,ee,_⟩:=p1.isList;exact Xf ee
 refine call_enumerate_list p1.isList λh' g1 g2 gs gk=>?_
 refine wpAny_pyIter_enum g1 ⟨_,[_,s1.heap.objs.size],_,_,H1,rfl,I1.kept (t':=s1.toks) gk,
  qq7 (e:=s1.heap.objs.size+1) (it:=s1.heap.objs.size) (l:=l) (Nat.succ_ne_self _) (Xy (Nat.lt_succ_of_lt lt)) (Xy lt),⟨⟨_,g1⟩,g2⟩,λb hb=>?_,q hz1⟩
 have fe:s1.heap.objs.size<=b:=by
  simp only[Xw,Xm,or_false]at hb;rcases hb with rfl|rfl<;>omega
 exact I1.fpOk fe (I1.hok.fresh fe)
theorem jxh:∀(ds:List D) (k:Nat),(xw k ds).length=ds.length
 |[],_=>rfl
 |d::ds,k=>by rw[xw,Xl,Xl,jxh ds]
theorem kwp:∀(ds:List D) (k i:Nat),(xw k ds)[i]?=(ds[i]?).map λd=>.tup [.int ((k+i:Nat):Int),d]
 |[],_,_=>by simp[xw]
 |d::ds,k,0=>by simp[xw]
 |d::ds,k,i+1=>by
  rw[xw,List.getElem?_cons_succ,List.getElem?_cons_succ,kwp ds,show k+1+i=k+(i+1)from by omega]
theorem qvq{x:Sl}{es:List D}{l:Addr}{H1:Hp}(hx:x.d=.lst es)(ev:x.v=.ref l):∀H2:Hp,x.let.ok K H2->∃ys cs,SqL K H2 l ys/\RepA K H2 true es ys cs/\∀b∈cs,b∈x.as:=λH2 hok=>by
 obtain⟨a',ys,cs,pz,q4,r4,h4,_⟩:=items hok (.inl hx);have:a'=l:=by have:=pz.symm.trans ev;exact V.ref.inj this
 subst this;rcases q4 with⟨_,z⟩|⟨z,_⟩
 ·exact⟨ys,cs,z.sq,r4,h4⟩
 ·rw[show x.let.d=D.lst es from hx]at z;cases z
theorem qz1{H2:Hp}{T:Addr}{d1 d2:D}{v1 v2:V}{b1 b2:List Addr}(hT:H2 T=none)(r1:RepL K H2 true d1 v1 b1)(r2:RepL K H2 true d2 v2 b2):RepL K (upd H2 T (.tup [v1,v2])) true (.tup [d1,d2]) (.ref T) (b1++b2):=by
 have sm:k8 H2 (upd H2 T (.tup [v1,v2])):=wX hT;unfold RepL;refine⟨T,[v1,v2],rfl,.inl (.inl wQ),?_⟩;unfold RepA;refine⟨v1,[v2],b1,b2,rfl,rfl,r1.kp (Kp.of_same sm),?_⟩;unfold RepA;refine⟨v2,[],b2,[],rfl,by simp,r2.kp (Kp.of_same sm),?_⟩;unfold RepA;exact⟨rfl,rfl⟩
theorem vjp(h:QE X Z q c e)(hg:Gl X "enumerate")(hm:X.mg "enumerate"=none)(hK:X.K=Z.K:=by rfl)(hs:starEach [e] X.env=[(false,eval e X.env)]:=by rfl):QI X Z q (.Tuple ez k1 jg) (Vz c) (.Call (.Name "enumerate" p) [e] [] pos):=λpins s σ H R I af=>ex8 af λE L r m w hc xc k=>by
 refine(vqu Z.K hg hm (x5 h xj hs) hK hs) pins s σ H R I ?_;refine W6 m w (show bnd (c E) _=some r from hc) xc λE1 s h1 x L1 H1 e1 e2 m1 w1 st sm=>?_
 obtain⟨ds,hd,rfl⟩:=K5 h1;have ok:=w1.head;have wT:World Z.K H1 (L1++[x.let].map some):=by
  refine World.comm (L:=[some x.let]) ?_;exact w1.tail.consNo (KJ ok) rfl λb hb=>w1.apart b hb
 have sT:Step H L H1 (L1++[x.let].map some):=by
  refine⟨st.keep,λb hb=>?_,λb hb=>?_⟩
  ·have:b∈j7 L1:=by simpa [W8]using hb
   exact st.own b (by rw[jJ];exact lr9 _ this)
  ·have:b∈jV L1\/b∈x.as:=by simpa [W8]using hb
   rcases this with z|z
   ·exact st.frz b (by rw[qw];exact lr9 _ z)
   ·exact jzr st b z
 cases hx:x.d with
 | lst es=>
  rw[<-e2,hx]at hd;have lu:xw 0 es=ds:=oq9 hd;subst lu;obtain⟨a,xs,bs,ev,q3,r3,h3,_⟩:=items ok (.inl hx);have q3:LsR Z.K H1 a xs:=by rcases q3 with⟨_,z⟩|⟨z,_⟩;exact z;rw[hx]at z;cases z
  have bi:=qvq (K:=Z.K) (H1:=H1) hx ev;refine⟨a,by rw[ev],xs,q3.sq,λae=>k _ _ rfl (Ite Z.K a) [x.let] L1 H1 m1 wT sT (by rw[jxh,r3.len];exact ae) (λhq=>(sm hq).1) ⟨λt ht=>by rw[List.mem_singleton.mp ht];rfl,λi H2 hok hi=>?_,λH2 hok=>?_,λi H2 v H3 d hok hy ic=>?_⟩⟩
  ·obtain⟨ys,cs,s1,s2,_⟩:=bi H2 (hok _ (List.mem_singleton.mpr rfl));have hl:=s2.len;rw[jxh]at hi;exact⟨ys,ys[i]'(by omega),s1,X1 (by omega)⟩
  ·obtain⟨ys,cs,s1,s2,_⟩:=bi H2 (hok _ (List.mem_singleton.mpr rfl));exact⟨ys,s1,by rw[jxh,s2.len];exact X8 _⟩
  ·obtain⟨ys,cs,s1,s2,s3⟩:=bi H2 (hok _ (List.mem_singleton.mpr rfl));obtain⟨T,x',hT,rfl,rfl,hy⟩:=hy;rw[kwp]at ic;cases mf:es[i]? with
   |none=>rw[mf]at ic;cases ic
   |some d0=>
    rw[mf]at ic;cases oq9 ic;obtain⟨v',ce,f1,f2,f3⟩:=s2.get mf;have:v'=x':=by have:=hy ys s1;rw[f1]at this;exact oq9 this
    subst this;have rp:=qz1 (v1:=.int ((0+i:Nat):Int)) hT JQ f2;rw[show((0+i:Nat):Int)=(i:Int)from by omega]at rp ⊢;exact⟨⟨.no,_,.ref T,[]++ce⟩,rfl,rfl,rfl,wX hT,rp,λb hb=>⟨x.let,List.mem_singleton.mpr rfl,s3 b (f3 b (by simpa using hb))⟩⟩
 |_=>rw[<-e2,hx]at hd;cases hd
end
section
variable {X:Cx}{Z:Fx0}{K:PySem.W.Frag}{pn:List Nat}{q qa qb:Bool}{a b c:Ex}{u:Ts}{tg e ea eb:Expr}{st:Stmt}{σ:L2.St}{H:Hp}{L:Ls}{E:En}{pos p p2 jg:Pos}{x:Str}{ez:List Expr}{k1:Nat}
theorem VY{y:Sl}{ds:List D}(ok:y.ok K H)(hd:y.d=.lst ds)(ho:y.o=.dp):∃l xs bs,y.v=.ref l/\H l=some (.lst xs)/\y.as=l::bs/\y.own=l::bs/\RepA K H false ds xs bs:=by
 obtain⟨l,xs,bs,c1,c2,c3,c4,c5⟩:=qvd ok hd (by rw[ho];exact λz=>nomatch z);rw[ho]at c5;exact⟨l,xs,bs,c1,c2,c3,by unfold Sl.own;rw[ho,c3],c5⟩
end
end Q
namespace L3
open PySem PySem.Spec PyProof.Rows L2
def tX(X:Cx)(x:Addr):Cx:={ X with A:=X.A.mark (some (.ref x)),calm:=false,xe:=λ_ _=>False }
section
variable {X:Cx}{pins:List (Addr×Obj)}{σ:L2.St}{H:Hp}{s:Shared}{x:Addr}{ox:Obj}
theorem vk9(I:Inv X pins σ H s):Inv (tX X x) pins σ H s:=
 ⟨⟨I.ok.mod,I.ok.kind,I.ok.glob,I.ok.blt,I.ok.above,I.ok.inj,I.ok.has,I.ok.cab,λz=>(by cases z),I.ok.frames,I.ok.stk,I.ok.exf,I.ok.bs,I.ok.bsz,I.ok.noex,I.ok.exfs,I.ok.funs,I.ok.frf⟩,I.os,I.bare,I.base,I.loc,I.cell,I.free,I.freeC,I.pin,I.hok,I.len⟩
theorem vvr(ok:X.Ok)(I:Inv (tX X x) pins σ H s):Inv X pins σ H s:=⟨ok,I.os,I.bare,I.base,I.loc,I.cell,I.free,I.freeC,I.pin,I.hok,I.len⟩
end
end L3
namespace Q
open PySem PySem.Spec PyProof.Rows L2 L3
theorem vkq{K:PySem.W.Frag}{C:Addr}(ga:PySem.W.findIn K (.ref C) "__getattribute__"=some (some (.builtin "BaseException.__getattribute__")))(gt:PySem.W.findIn K (.ref C) "__getattr__"=some none)(fa:PySem.W.findIn K (.ref C) "__class__"=some (some (.builtin "object.__class__")))
  (fg:PySem.W.specialIn K (.builtin "object.__class__") "__get__"=some (some (.builtin "getset_descriptor.__get__"))) (ft:PySem.W.takesIn K (.builtin "object.__class__")=some true) (ob:PySem.W.mroIn K C (.type "object")=some true) (bx:PySem.W.mroIn K C (.type "BaseException")=some true) (cl:PySem.W.isClsIn K C=true):XCls K C:=
 ⟨ga,gt,by
  obtain⟨cd,hc⟩:=Option.isSome_iff_exists.mp (show(PySem.W.clsIn K C).isSome=true from cl);unfold PySem.W.findObj;rw[hc,Option.bind_some,fa,Option.bind_some];simp[fg,ft],ob,bx,cl⟩
section
variable {X:Cx}{Z:Fx0}{pn:List Nat}{q:Bool}{a b c:Ex}{e ea eb:Expr}{es:List Expr}{pos p p2:Pos}{t:List (Str×Bool)}{y:Str}{u:V}
theorem vqc{x:Str}{C:Addr}{z:Str}{np aa:Pos}(c:ECls X.K X.mg x C)(hm:Z.mg x=some (.ref C))(g:x8 X Z.EX)(hz:PE X e (tC (.str z)))(hg:Gl X x:=by rfl)(hc:X.calm=true:=by rfl)(cu:(x==("__debug__":Str))=false:=by decide)
  (he:starEach [e] X.env=(false,eval e X.env)::starEach [] X.env:=by rfl) (bt:((backTo aa (starEach [e] X.env)).any (·.1))=false:=by rfl):
  QS X Z pn (sRz x) (.Raise (some (.Call (.Name x np) [e] [] aa)) none pos):=xk (qza c g (x5 hz xj he) hg hc cu he bt) λD σ H af=>ex7 af λE L r m w hr k=>by
 cases oq9 hr;exact⟨show(1:Nat)<=sizeLine by decide,k C σ L H hm Pn.refl m w Step.refl⟩
def QEX(X:Cx)(Z:Fx0)(q:Bool)(c:Ex)(e:Expr):Prop:=PEX X e λEX=>tQ ⟨Z.K,Z.mg,EX⟩ q c
theorem vqv{t t':XK->TE}(h:PEX X e t)(w:∀E σ H Q,t' E σ H Q->t E σ H Q):PEX X e t':=λE pins s σ H Q I q=>h E pins s σ H Q I (w E σ H Q q)
theorem vqg{k n:Nat}{x:Str}{ps:List Str}{f:Fn}{cs:List Ex}(D:kZ X.prog X.w X.K X.mg X.base k x ps (spF Z.K Z.mg n f))(hr:Room k X.A)(ha:QA X.nox ⟨Z.K,Z.mg,λ_ _ _=>False⟩ q cs (e::es))(hn:cs.length=n:=by rfl)(hg:Gl X x:=by rfl)(cu:(x==("__debug__":Str))=false:=by decide)
  (he:starEach (e::es) X.env=(false,eval e X.env)::starEach es X.env:=by rfl) (bt:(backTo pos (starEach es X.env)).any (·.1)=false:=by rfl):
  QEX X Z false (Wx f cs) (.Call (.Name x p) (e::es) [] pos):=vqv (qzd D hr ha hg cu he bt) λEX σ H Q af=>ex8 af λE L r m w hc xc kk=>by
 have hc:Wx f cs E=some r:=hc;unfold Wx at hc
 split at hc
 ·rename_i E1 ys hA;refine⟨E,L,_,m,w,hA,(λ_ _ z=>by cases z),λE' qs z xs L1 H1 e1 m1 w1 st sm=>?_⟩;injection z with z1 z2;subst z1 z2;show spF _ _ _ _ _ _ _ _;rw[Xp];have ae:xs.length=n:=by
   rw[<-hn];have:ys.length=cs.length:=Z6 hA;rw[<-this,<-e1,X3]
  cases hf:f (letAll ys)with
  | none=>rw[hf]at hc;cases hc
  | some fr=>
   rw[hf]at hc;obtain⟨wl,sl⟩:=jxs w1;have ev:xs.map Sl.v=(xs.map Sl.let).map Sl.v:=by rw[Yf];rfl
   rw[ev];refine⟨xs.map Sl.let,fr,rfl,by rw[X3];exact ae,wl.left,by rw[<-e1]at hf;rw[kv2];exact hf,λE' c ee C H' hm s'=>?_,λE' a ee y H' e2 e3 w' s'=>?_⟩
   ·subst ee;cases oq9 hc;obtain⟨w2,s2⟩:=stay wl s' ⟨λ_ z=>(nomatch z),Xr,λ_ z=>(nomatch z)⟩;exact xc _ _ rfl C L1 H' hm m1 w2 ((st.trans sl).trans s2)
   ·subst ee;cases oq9 hc;obtain⟨w2,s2⟩:=stay wl s' w';exact kk _ _ rfl y L1 H' e2 e3 m1 w2 ((st.trans sl).trans s2) λhq=>nomatch hq
 ·cases hc
def kx9(K:PySem.W.Frag)(mg:Str->Option Value)(UC:Addr)(cs:List Str):Prop:=∀c∈cs,∃C,mg c=some (.ref C)/\PySem.W.nsIn K mainGlobals c=some (some (.ref C))/\PySem.W.exmOne K (.ref C) (.ref UC)=some true/\XCls K C
theorem qks{K:PySem.W.Frag}{mg:Str->Option Value}{UC:Addr}:kx9 K mg UC []:=λ_ z=>nomatch z
theorem kzc{K:PySem.W.Frag}{mg:Str->Option Value}{UC C:Addr}{c:Str}{cs:List Str}(e:ECls K mg c C)(h:PySem.W.nsIn K mainGlobals c=some (some (.ref C)))(k:PySem.W.exmOne K (.ref C) (.ref UC)=some true)(r:kx9 K mg UC cs):kx9 K mg UC (c::cs):=λc' hc=>by
 rcases List.mem_cons.mp hc with rfl|hc
 ·exact⟨C,e.bd,h,k,e.xc⟩
 ·exact r c' hc
end
end Q
namespace Q
open PySem PySem.Spec PyProof.Rows L2 L3
section
variable {X:Cx}{pins:List (Addr×Obj)}{σ:L2.St}{H:Hp}{s:Shared}{a b:Addr}{es:List Ent}{A:Around}{E:Value->Shared->Prop}{k:Kd}
mutual
theorem jzt(I:Inv X pins σ H s):∀{d:D} {v:V} {u:Value},PuR X.K H d v->RelV v u->jw s.heap d u
 |.non,_,_,h,r=>by unfold PuR at h;rw[h]at r;unfold jw;exact r
 |.int _,_,_,h,r=>by unfold PuR at h;rw[h]at r;unfold jw;exact r
 |.tup ds,_,_,h,r=>by
  unfold PuR at h;obtain⟨a,xs,rfl,q,ra⟩:=h;cases r;obtain⟨a9,rv,p,_⟩:=I.tuple q;unfold jw;exact⟨a,a9,rfl,p,purs_creps I ra rv⟩
 |.bl _,_,_,h,_=>by unfold PuR at h;exact h.elim
 |.str _,_,_,h,_=>by unfold PuR at h;exact h.elim
 |.lst _,_,_,h,_=>by unfold PuR at h;exact h.elim
 |.dct _,_,_,h,_=>by unfold PuR at h;exact h.elim
 |.obj _ _,_,_,h,_=>by unfold PuR at h;exact h.elim
theorem purs_creps(I:Inv X pins σ H s):∀{ds:List D} {xs:List V} {us:List Value},PuRs X.K H ds xs->Vals xs us->CReps s.heap ds us
 | [],_,_,h,r=>by unfold PuRs at h;rw[h]at r;cases r;unfold CReps;rfl
 | d::ds,_,_,h,r=>by
  unfold PuRs at h;obtain⟨x,rr,rfl,h1,h2⟩:=h;cases r with
  |cons r1 r2=>
   unfold CReps;exact⟨_,_,rfl,jzt I h1 r1,purs_creps I h2 r2⟩
end
mutual
theorem vjr{K:PySem.W.Frag}{g:Bool}:∀{n:Nat} {d:D} {v:V} {as:List Addr},jX n d=true->RepL K H g d v as->PuR K H d v
 |_,.non,_,_,_,h=>by unfold RepL at h;unfold PuR;exact h.1
 |_,.int _,_,_,_,h=>by unfold RepL at h;unfold PuR;exact h.1
 |0,.tup _,_,_,hk,_=>by unfold jX at hk;cases hk
 |n+1,.tup ds,_,_,hk,h=>by
  unfold jX at hk;unfold RepL at h;obtain⟨a,xs,e,q,ra⟩:=h;unfold PuR;exact⟨a,xs,e,q,purs_of hk ra⟩
 |n,.bl _,_,_,hk,_=>by cases n<;>(unfold jX at hk;cases hk)
 |n,.str _,_,_,hk,_=>by cases n<;>(unfold jX at hk;cases hk)
 |n,.lst _,_,_,hk,_=>by cases n<;>(unfold jX at hk;cases hk)
 |n,.dct _,_,_,hk,_=>by cases n<;>(unfold jX at hk;cases hk)
 |n,.obj _ _,_,_,hk,_=>by cases n<;>(unfold jX at hk;cases hk)
theorem purs_of{K:PySem.W.Frag}{g:Bool}:∀{n:Nat} {ds:List D} {xs:List V} {as:List Addr},keyDs n ds=true->RepA K H g ds xs as->PuRs K H ds xs
 |_,[],_,_,_,h=>by unfold RepA at h;unfold PuRs;exact h.1
 |n,d::ds,_,_,hk,h=>by
  unfold keyDs at hk;rw[Bool.and_eq_true]at hk;unfold RepA at h;obtain⟨x,r,bs,cs,rfl,rfl,h1,h2⟩:=h;unfold PuRs;exact⟨x,r,rfl,vjr hk.1 h1,purs_of hk.2 h2⟩
end
theorem vkd{ep:Nat}(I:Inv X pins σ H s)(h:H a=some (qx a es ep))(hn:(es.map (·.1)).Nodup)(hk:∀x∈es,PuR X.K H x.1.1 (.ref x.2.1)):s.heap.DictOfH (kzq X.prog X.w) a es:=by
 obtain⟨⟨o,ds,h1,h2,h3,h4⟩,_⟩:=(show ObjOk X.prog X.w H s.heap a (qx a es ep)from I.hok a _ h);exact⟨o,ds,ep,h1,h2,h3,h4,λx hx=>jzt I (hk x hx) rfl,hn⟩
theorem vki:∀(es:List Ent) (k:Kd),(atKey es k).isSome=decide (k.1∈es.map (·.1.1))
 | [],k=>by simp[atKey]
 | x::es,k=>by
  have ih:=vki es k
  by_cases h:x.1=k
  ·have:k.1∈(x::es).map (·.1.1):=by rw[<-h];simp
   rw[Xd this];simp[atKey,List.find?_cons,h]
  ·have e1:atKey (x::es) k=atKey es k:=by simp[atKey,List.find?_cons,h]
   have e2:(k.1∈(x::es).map (·.1.1))↔k.1∈es.map (·.1.1):=by
    rw[List.map_cons,Xw];exact⟨λz=>z.elim (λq=>absurd (Subtype.ext q.symm) h) id,.inr⟩
   rw[e1,ih];exact decide_eq_decide.mpr e2.symm
theorem vq6(hu:A.units+64<cLine):(kzq X.prog X.w).room A.in1:=by show A.units+1+40<cLine;omega
end
theorem vke{K:PySem.W.Frag}{H:Hp}{y:Sl}{kvs:List (D×D)}(ok:y.ok K H)(hd:y.d=.dct kvs)(hu:unm kvs=true):∃a xs,y.v=.ref a/\DcN K H a (kvs.map (·.1)) xs:=by
 have h:=RepO.wk ok;rw[hd]at h;unfold RepL at h;obtain⟨a,xs,bs,e,_,q,_⟩:=h;exact⟨a,xs,e,DcA.un q hu⟩
theorem kq0{K:PySem.W.Frag}{H:Hp}{x:Sl}(ok:x.ok K H)(hk:xY x.d=true):∃b,x.v=.ref b/\PuR K H x.d (.ref b):=by
 unfold xY at hk;rw[Bool.and_eq_true]at hk;have h:=vjr hk.1 (RepO.wk ok);cases hd:x.d with
 |tup ds=>
  rw[hd]at h;have h':=h;unfold PuR at h;obtain⟨a,xs,e,_⟩:=h;exact⟨a,e,e▸h'⟩
 |_=>rw[hd]at hk;cases hk.2
theorem vw2{P:Program}{w:PySem.World}{H:Hp}(h:Heap):ObjOk P w H (h.push { cls:=.type "dict",data:=.dict #[] }) h.objs.size (qx h.objs.size [] 0):=
 ⟨⟨_,#[],Xj _ rfl,⟨rfl,rfl,rfl⟩,rfl,rfl⟩,⟨_,Xj _ rfl⟩,λh1 h2 ⟨o,ds,a1,a2⟩ k=>⟨o,ds,k o a1,a2⟩⟩
end Q
namespace Q
open PySem PySem.Spec PyProof.Rows L2 L3
section
variable {K:PySem.W.Frag}{H:Hp}{g:Bool}{k:Kd}{b:Addr}{d:D}{x:V}{r:Value}{cs:List Addr}
theorem kw0{q : D}(hx : RepL K H g d x cs): ∀{kvs : List (D × D)} {xs : List V} {bs : List Addr}, RepP K H g kvs xs bs -> RepP K H g (kvs ++ [(q, d)]) (xs ++ [x]) (bs ++ cs)
  | [], _, _, h=>by
    unfold RepP at h;obtain⟨rfl, rfl⟩:= h;show RepP K H g [(q, d)] [x] cs;unfold RepP;exact⟨x, [], cs, [], rfl, by simp, hx, by unfold RepP; exact⟨rfl, rfl⟩⟩
  | (p, e)::kvs, _, _, h=>by
    unfold RepP at h;obtain⟨y, rr, b1, b2, rfl, rfl, h1, h2⟩:= h;rw[List.cons_append];unfold RepP;exact⟨y, rr ++ [x], b1, b2 ++ cs, rfl, by rw[Xq], h1, kw0 hx h2⟩
theorem kvl:∀{xs:List V} {us:List Value},Vals xs us->RelV x r->Vals (xs++[x]) (us++[r])
 |_,_,.nil,h=>.cons h .nil
 |_,_,.cons a t,h=>.cons a (kvl t h)
end
theorem qqx{K:PySem.W.Frag}{H:Hp}{T L:Ls}{i:Nat}{y:Sl}{l:Addr}{es es':List Ent}{ep ep':Nat}{xs':List V}{bs cs:List Addr}{kvs':List (D×D)}(w:World K H (T++L))(hy:L[i]?=some (some y))(hH:H l=some (qx l es ep))(ho:y.o=.rt)(ha:y.as=l::bs)(hv:y.v=.ref l)
  (r:RepP K H true kvs' xs' cs) (hc:∀a∈cs,a∈bs\/a∈j7 T\/a∈jV T) (hs:(l==sysModules)=false) (h2:es'.length<=sizeLine) (h3:(es'.map (·.1)).Nodup) (h4:kvs'.map (·.1)=es'.map (·.1.1)) (h5:∀n∈es',PuR K H n.1.1 (.ref n.2.1)) (h6:Vals xs' (es'.map (·.2.2))):
  World K (upd H l (qx l es' ep')) (L.set i (some ⟨.rt,.dct kvs',y.v,l::cs⟩))/\Step H (T++L) (upd H l (qx l es' ep')) (L.set i (some ⟨.rt,.dct kvs',y.v,l::cs⟩)):=by
 have hl:l∈y.own:=by unfold Sl.own;rw[ho,ha];simp
 have oL:l∈j7 L:=mem_owned.mpr ⟨y,wZ hy,hl⟩;have oy:l∈j7 (T++L):=by rw[jW];exact lr9 _ oL
 have nd:=w.nd;rw[jW,X6]at nd;have nT:l∉j7 T:=λz=>nd.2.2 l z l oL rfl
 have nF:l∉jV T:=λz=>w.ds l oy (by rw[qv];exact ll9 _ z)
 have nb:l∉bs:=λz=>by
  have:l∈y.frz:=by unfold Sl.frz;rw[ho,ha];exact z
  exact w.ds l oy (by rw[qv];exact lr9 _ (mem_frozen.mpr ⟨y,wZ hy,this⟩))
 have nc:l∉cs:=λz=>by
  rcases hc l z with q|q|q
  ·exact nb q
  ·exact nT q
  ·exact nF q
 have kp:Kp H (upd H l (qx l es' ep')) cs:=by
  have k2:∀a o,H a=some o->a≠l->upd H l (qx l es' ep') a=some o:=λa o e ne=>by rw[qz ne];exact e
  refine⟨λa zs e=>k2 a _ e λz=>?_,λa o u e=>k2 a _ e λz=>?_,λa ha o e=>k2 a o e λz=>nc (z▸ha)⟩
  ·subst z;rw[hH]at e;cases e
  ·subst z;rw[hH]at e;cases e
 refine World.writeAt w hy hl (y':=⟨.rt,.dct kvs',y.v,l::cs⟩) ⟨l,xs',cs,hv,r.kp kp,.inl ⟨es',ep',wQ,hs,h2,h3,h4,λn hn=>PuR.kp kp (h5 n hn),h6⟩,rfl⟩ (by simp[Sl.own]) (λa h=>?_) (λa h=>?_) (λa h z=>?_)
 ·have:a=l:=by simpa [Sl.own]using h
  subst this;exact .inl hl
 ·rcases hc a (by simpa [Sl.frz]using h)with q|q
  ·exact .inl (by rw[ha];exact lc9 _ q)
  ·exact .inr q
 ·have:a=l:=by simpa [Sl.own]using h
  subst this;exact nc (by simpa [Sl.frz]using z)
end Q
namespace Q
open PySem PySem.Spec PyProof.Rows L2 L3
def KZ(h:Heap)(a:Addr)(ts:List DictEntry)(ep:Nat):Prop:=∃ob f9,h.get? a=some ob/\ob.ExactDict/\ob.data=.dict f9 ep/\f9.toList=ts
theorem vw3{X:Cx}{pins:List (Addr×Obj)}{σ:L2.St}{H:Hp}{s:Shared}{a:Addr}{es:List Ent}{ep:Nat}(I:Inv X pins σ H s)(h:H a=some (qx a es ep)):KZ s.heap a (es.map λx=>(⟨Kk x.1.1,.ref x.2.1,x.2.2⟩:DictEntry)) ep:=by
 obtain⟨⟨o,ds,h1,h2,h3,h4⟩,_⟩:=(show ObjOk X.prog X.w H s.heap a (qx a es ep)from I.hok a _ h);exact⟨o,ds,h1,h2,h3,h4⟩
mutual
theorem qqk{K:PySem.W.Frag}{H:Hp}:∀{d:D} {v:V},PuR K H d v->RepL K H true d v []
 |.non,_,h=>by unfold PuR at h;unfold RepL;exact⟨h,rfl⟩
 |.int _,_,h=>by unfold PuR at h;unfold RepL;exact⟨h,rfl⟩
 |.tup ds,_,h=>by
  unfold PuR at h;obtain⟨a,xs,e,s,r⟩:=h;unfold RepL;exact⟨a,xs,e,s,rep_purs r⟩
 |.bl _,_,h=>by unfold PuR at h;exact h.elim
 |.str _,_,h=>by unfold PuR at h;exact h.elim
 |.lst _,_,h=>by unfold PuR at h;exact h.elim
 |.dct _,_,h=>by unfold PuR at h;exact h.elim
 |.obj _ _,_,h=>by unfold PuR at h;exact h.elim
theorem rep_purs{K:PySem.W.Frag}{H:Hp}:∀{ds:List D} {xs:List V},PuRs K H ds xs->RepA K H true ds xs []
 |[],_,h=>by unfold PuRs at h;unfold RepA;exact⟨h,rfl⟩
 |d::ds,_,h=>by
  unfold PuRs at h;obtain⟨x,r,e,h1,h2⟩:=h;unfold RepA;exact⟨x,r,[],[],e,rfl,qqk h1,rep_purs h2⟩
end
end Q
namespace Q
open PySem PySem.Spec PyProof.Rows L2 L3
def wji(K:PySem.W.Frag)(p:Addr)(Q:VK)(ps:List (V×V))(H2:Hp):Prop:=∃x y,ps=[(x,y)]/\H2 p=some (qx p [] 0)/\∃(b:Addr) (kd:Kd),x=.ref b/\PuR K H2 kd.1 (.ref b)/\∀r ep',RelV y r->Q (.ref p) (upd H2 p (qx p [(kd,b,r)] ep'))
abbrev wkj(K:PySem.W.Frag)(tk tv:TE):TE:=fun σ H Q=>∀p,H p=none->(p==sysModules)=false->tk σ (upd H p (qx p [] 0)) λx H1=>tv σ H1 λy H2=>wji K p Q [(x,y)] H2
theorem vqx{X:Cx}{K:PySem.W.Frag}{pos:Pos}{k v:Expr}{tk tv:TE}(hu:X.A.units+64<cLine)(hk:PE X k tk)(hv:PE X v tv)(hK:X.K=K:=by rfl):PE X (.Dict [some k] [v] pos) (wkj K tk tv):=by
 subst hK;intro pins s σ H Q I h;have hn:=I.hok.fresh (X8 s.heap.objs.size);have I1:=I.laid (a:=s.heap.objs.size) (o:=qx s.heap.objs.size [] 0) (h':=s.heap.push { cls:=.type "dict",data:=.dict #[] }) (t':=s.toks) (λ_ _ q=>X9 _ q) (X8 _) (vw2 s.heap);refine wpAny_Dict_any rfl rfl (by simp) (by simp) (thn (qzb hk hv vqq pins _ σ _ (wji X.K s.heap.objs.size Q) I1 (h _ hn (beq_false_of_ne (Nat.ne_of_gt I.big)))) λvs s2 hz=>?_);obtain⟨ps,H2,I2,nq,x,y,ep,e,b,kd,ex,pk,q⟩:=hz;subst ep ex;cases nq with
 |@cons p1 p2 t1 t2 h1 h2=>
  cases h2;obtain⟨u,r⟩:=p2;obtain rfl:u=Value.ref b:=h1.1;have h1:RelV y r:=h1.2;unfold storeAll;rw[List.forIn_cons];refine X0 (X0 (wpAny_dictSet_heap (knd:=kzq X.prog X.w) (xs:=[]) (k:=kd) (by show X.A.units+40<cLine;omega) (jzt I2 pk rfl) (vkd I2 e Xr (λ_ z=>absurd z Xm)) (λh' dd hs=>X4 ?_) (Xv _)));show wpAny (model X.prog X.w) X.A (forIn [] PUnit.unit _) _ _ _;rw[List.forIn_nil];refine X4 ?_;obtain⟨o,ds,ep',hq,g2,g3,g4,_,_⟩:=dd;exact⟨.ref s.heap.objs.size,_,qwt (ob:=qx s.heap.objs.size [(kd,b,r)] ep') I2 (by rw[e];exact True.intro) hs ⟨o,hq⟩ ⟨⟨o,ds,hq,g2,g3,g4⟩,⟨o,hq⟩,λh1 h2 ⟨o,ds,a1,a2⟩ k=>⟨o,ds,k o a1,a2⟩⟩,rfl,q r ep' h1⟩
section
variable {X:Cx}{Z:Fx0}{q:Bool}{kc vc:Ex}{ke ve:Expr}{pos:Pos}
theorem vxy(hu:X.A.units+64<cLine)(hk:QE X Z q kc ke)(hv:QE X Z q vc ve)(hK:X.K=Z.K:=by rfl):QE X Z q (qx5 kc vc) (.Dict [some ke] [ve] pos):=qX (vqx hu hk hv hK) fun σ H Q af=>ex8 af λE L r m w hc xc k=>by
 intro p hp hs;have nt:k8 H (upd H p (qx p [] 0)):=wX hp;have st0:Step H L (upd H p (qx p [] 0)) L:=⟨λb ob h _=>nt b ob h,λ_ h=>.inl h,λ_ h=>.inl h⟩;have nL:p∉j7 L:=λz=>w.own_some z hp
 have nF:p∉jV L:=λz=>w.frz_some z hp
 have w0:World Z.K (upd H p (qx p [] 0)) L:=⟨λt ht=>RepO.kp (w.ok t ht) (Kp.of_same nt),w.nd,w.ds⟩;have wd:World Z.K (upd H p (qx p [] 0)) ([some ⟨.rt,.dct [],.ref p,[p]⟩]++L):=by
  refine World.cons w0 ⟨p,[],[],rfl,by unfold RepP;exact⟨rfl,rfl⟩,.inl ⟨[],0,wQ,hs,Xv _,Xr,rfl,λ_ z=>absurd z Xm,Paired.nil⟩,rfl⟩ (by simp[Sl.own]) (λb hb ho=>?_) (λb hb ho=>?_) (λb hb=>by simp[Sl.frz]at hb) (λb _ hb=>by simp[Sl.frz]at hb)
  ·have:b=p:=by simpa [Sl.own]using hb
   exact nL (this▸ho)
  ·have:b=p:=by simpa [Sl.own]using hb
   exact nF (this▸ho)
 refine W6 m w0 (show bnd (kc E) _=some r from hc) (xc.step st0) λE1 s1 h1 x L1 H1 e1 e2 m1 w1 gw lw=>?_
 obtain⟨wd1,sd1⟩:=Z5 wd gw w1;have s1':Step H L H1 L1:=(st0.trans gw).trans Step.drop;refine W6 m1 w1.tail (show bnd (vc E1) _=some r from h1) (xc.step s1') λE2 s2 h2 y L2 H2 e3 e4 m2 w2 bg em=>?_
 have pm:(([some ⟨.rt,.dct [],.ref p,[p]⟩]:Ls)++(some x::L1)).Perm (([some x,some ⟨.rt,.dct [],.ref p,[p]⟩]:Ls)++L1):=List.Perm.swap _ _ _;obtain⟨wd2,sd2⟩:=Z5 (wd1.perm pm) bg w2;have m4:(([some x,some ⟨.rt,.dct [],.ref p,[p]⟩]:Ls)++(some y::L2)).Perm (([some x,some y]:Ls)++(some ⟨.rt,.dct [],.ref p,[p]⟩::L2)):=List.Perm.cons _ (List.Perm.swap _ _ _);have w3:=wd2.perm m4;have cn:Step (upd H p (qx p [] 0)) ([some ⟨.rt,.dct [],.ref p,[p]⟩]++L) H2 ([some x,some y]++(some ⟨.rt,.dct [],.ref p,[p]⟩::L2)):=(sd1.perm (List.Perm.refl _) pm).trans (sd2.perm (List.Perm.refl _) m4)
 by_cases hkt:xY s1.2=true
 ·rw [Xb hkt]at h2;cases oq9 h2;have okx:x.ok Z.K H2:=w3.ok x (by simp);have hkz:xY x.d=true:=by rw[e2];exact hkt
  obtain⟨b,eb,pb⟩:=kq0 okx hkz;have kl:jX 6 x.d=true:=by unfold xY at hkz;rw[Bool.and_eq_true]at hkz;exact hkz.1
  obtain⟨a,xs0,bs0,ea,_,q4,_⟩:=(show RepR Z.K H2 (.dct []) (.ref p) [p]from w3.ok ⟨.rt,.dct [],.ref p,[p]⟩ (by simp));obtain⟨es,ep,g1,_⟩:=DcA.un (kvs:=[]) q4 rfl;have hH2:H2 p=some (qx p [] 0):=by
   have n1:p∉j7 (some x::L1):=λz=>by
    rcases gw.own p z with z|z
    ·exact nL z
    ·rw[wQ]at z;cases z
   have hH1:H1 p=some (qx p [] 0):=gw.keep p _ wQ nL;exact bg.keep p _ hH1 λz=>n1 (by rw[jJ];exact lr9 _ z)
  have rv:RepL Z.K H2 true s2.2 y.v y.as:=by rw[<-e4];exact RepO.wk (w3.ok y (by simp))
  refine⟨x.v,y.v,rfl,hH2,b,⟨x.d,kl⟩,eb,pb,λrr ep' hrr=>?_⟩;obtain⟨w4,ix⟩:=qqx (ep':=ep') (es':=[(⟨x.d,kl⟩,b,rr)]) (xs':=[y.v]) (cs:=y.as) (kvs':=[(x.d,s2.2)]) (bs:=[]) (i:=0) (y:=⟨.rt,.dct [],.ref p,[p]⟩) w3 rfl hH2 rfl rfl rfl
   (by unfold RepP;exact⟨y.v,[],y.as,[],rfl,by simp,rv,by unfold RepP;exact⟨rfl,rfl⟩⟩)
   (λc iz=>.inr (by
    rcases Sl.as_of iz with z|z
    ·exact .inl (by simpa using .inr z)
    ·exact .inr (by simpa using .inr z))) hs (by show(1:Nat)<=sizeLine;decide) (List.nodup_cons.mpr ⟨Xm,Xr⟩) rfl (λn hn=>by rw[List.mem_singleton.mp hn];exact pb) (.cons hrr .nil)
  have stA:Step (upd H p (qx p [] 0)) ([some ⟨.rt,.dct [],.ref p,[p]⟩]++L) _ _:=cn.trans ix;refine k _ _ rfl ⟨.rt,.dct [(x.d,s2.2)],.ref p,p::y.as⟩ L2 _ rfl (congrArg (λd=>D.dct [(d,s2.2)]) e2) m2 w4 ?_ λhq=>?_
  ·refine⟨λc ob h hn=>stA.keep c ob (nt c ob h) λz=>?_,λc iz=>?_,λc iz=>?_⟩
   ·rw[Yc,jJ]at z;rcases List.mem_append.mp z with z|z
    ·have:c=p:=by simpa [Sl.own]using z
     rw[this,hp]at h;cases h
    ·exact hn z
   ·rcases stA.own c iz with z|z
    ·rw[Yc,jJ]at z;rcases List.mem_append.mp z with z|z
     ·have:c=p:=by simpa [Sl.own]using z
      exact .inr (this▸hp)
     ·exact .inl z
    ·exact .inr (by
      cases hc0:H c with
      |none=>rfl
      |some ob=>rw[nt c ob hc0]at z;cases z)
   ·have hcp:c=p->H c=none:=λz=>z▸hp
    rcases stA.frz c iz with z|z|z
    ·rw[Yc,qw]at z;rcases List.mem_append.mp z with z|z
     ·simp[Sl.frz]at z
     ·exact .inl z
    ·rw[Yc,jJ]at z;rcases List.mem_append.mp z with z|z
     ·have:c=p:=by simpa [Sl.own]using z
      exact .inr (.inr (this▸hp))
     ·exact .inr (.inl z)
    ·exact .inr (.inr (by
      cases hc0:H c with
      |none=>rfl
      |some ob=>rw[nt c ob hc0]at z;cases z))
  ·refine⟨λc ob h=>?_,λc iz=>?_⟩
   ·have cx:c≠p:=λz=>by rw[z,hp]at h;cases h
    rw[qz cx];exact(em hq).1 c ob ((lw hq).1 c ob (nt c ob h))
   ·have:c=p:=by simpa [Sl.own]using iz
    exact this▸hp
 ·rw[Xe hkt]at h2;cases h2
end
end Q
namespace Q
open PySem PySem.Spec PyProof.Rows L2 L3
section
variable {prog:Program}{w:PySem.World}{A:Around}{E:Value->Shared->Prop}{s:Shared}{a it:Addr}{ts:List DictEntry}{ep i:Nat}
theorem qw3{Q:Value->Shared->Prop}(hs:(a==sysModules)=false)(hd:KZ s.heap a ts ep)
  (q:Q (.ref s.heap.objs.size) { s with heap:=s.heap.push { cls:=.type "dict_keyiterator",data:=.fields #[.ref a,.int 0 0,.int ts.length 0,.int ep 0] } }):wpAny (model prog w) A (pyIter (.ref a)) Q E s:=by
 obtain⟨ob,f9,g1,g2,g3,g4⟩:=hd;have ty:s.TypeIs (.ref a) "dict":=⟨ob,g1,g2.1⟩;have hl:f9.size=ts.length:=by rw[<-g4];simp
 refine wpAny_pyIter_slot ty F.slot_dict_iter (Yd F.slot_dict_iter ty F.entry_dict_iter ?_ (F.args_dict_iter_1 _));unfold Builtin.«dict.__iter__» Builtin.Dict.dictSlotNone;refine X0 (X0 (wpAny_notOrdered_dict ty ?_));show wpAny _ _ (pure (Value.ref a)) _ _ s;refine X4 ?_;show wpAny _ _ (Builtin.Dict.showsAll a >>= _) _ _ s;unfold Builtin.Dict.showsAll;rw[Xe (by rw[hs];exact Bool.false_ne_true)];refine X0 (X4 (X0 (wpAny_dictEntries g1 g3 (X0 (wpAny_dictEpoch g1 g3 ?_)))));refine X0 (Y5 (X4 ⟨_,rfl,"dict_keyiterator",_,⟨_,Xj _ rfl,rfl⟩,F.slot_dict_keyiterator_next.lookup,?_⟩))
 simpa [rawInt,hl]using q
theorem qw2{en:DictEntry}{Q:Option Value->Shared->Prop}(hi:s.heap.IsKeyIter it a i ts.length ep)(hd:KZ s.heap a ts ep)(hx:ts[i]?=some en)
  (q:∀h',h'.IsKeyIter it a (i+1) ts.length ep->Heap.SameBut it s.heap h'->Q (some en.key) { s with heap:=h' }):wpAny (model prog w) A (pyNext (.ref it)) Q E s:=by
 have ty:=hi.typeIs;obtain⟨o,h1,h2,h3⟩:=hi;obtain⟨ob,f9,g1,g2,g3,g4⟩:=hd;have hl:f9.size=ts.length:=by rw[<-g4];simp
 have az:i<f9.size:=by rw[hl];exact(List.getElem?_eq_some_iff.mp hx).1
 have ku:f9[i]=en:=by
  rw[<-g4,Yq,Array.getElem?_eq_getElem az]at hx;exact oq9 hx
 have ow:Builtin.Dict_items.ownsTuple "dict_keyiterator"=false:=by decide
 unfold pyNext;refine X0 (wpAny_attempt (wpAny_callSpecial?_slot (name:=Str.ofString "__next__") ty F.slot_dict_keyiterator_next (Yd F.slot_dict_keyiterator_next ty F.entry_dict_keyiterator_next ?_ (F.args_dict_keyiterator_next_1 _))));refine X0 (X4 (X0 (X0 ?_)))
 first
  |refine X0 (Yk ty (X4 (X0 (wpAny_fieldsOf h1 h3 ?_))))
  |refine X0 (wpAny_typeNameOf_keyiter ty (X4 (X0 (wpAny_fieldsOf h1 h3 ?_))))
 simp only[ow,Bool.false_eq_true,if_false];show wpAny _ _ (if(Value.ref a==Value.none)=true then _ else _) _ _ s;rw[Xe (show ¬((Value.ref a==Value.none)=true)from λz=>nomatch z)];refine X0 (X4 (X0 (wpAny_dictEntries g1 g3 ?_)));rw[Xe (by rw[hl];simp)];refine X0 (X4 (X0 (wpAny_dictEpoch g1 g3 ?_)));rw[Xe (by simp)];refine X4 ?_;simp only[show ¬((i:Int)<0)from by omega,if_false,Ya,Array.getElem?_eq_getElem az,ku];refine X0 ?_
 first
  |refine X0 (Yk ty (X4 (X0 (wpAny_isOneOf_keyiter ty ?_))))
  |refine X0 (wpAny_typeNameOf_keyiter ty (X4 (X0 (wpAny_isOneOf_keyiter ty ?_))))
 show wpAny _ _ (setField (.ref it) 1 (rawInt ((i:Int)+1)) >>= _) _ _ s;refine X0 (wpAny_setField h1 h3 (by simp) ?_);have li:(s.heap.update it (Obj.mapFields (·.setIfInBounds 1 (rawInt ((i:Int)+1))))).IsKeyIter it a (i+1) ts.length ep:=⟨_,Heap.get?_update_self _ h1 (Obj.isFreed_of_fields (Obj.data_mapFields h3 _)),(Obj.cls_mapFields ..).trans h2,by rw[Obj.data_mapFields h3];simp[rawInt]⟩;refine X0 (Yp (X0 (wpAny_isOneOf_keyiter (s:={ s with heap:=s.heap.update it (Obj.mapFields (·.setIfInBounds 1 (rawInt ((i:Int)+1)))) }) li.typeIs ?_)));show wpAny _ _ (pure en.key) _ _ _;exact X4 (X4 ⟨_,rfl,X4 (q _ li (Heap.SameBut.update ..))⟩)
theorem qw1{Q:Option Value->Shared->Prop}(hh:A.handled=none)(hi:s.heap.IsKeyIter it a i ts.length ep)(hd:KZ s.heap a ts ep)(hx:ts.length<=i)(q:∀h',Heap.ExtBut it s.heap h'->Q none { s with heap:=h' }):wpAny (model prog w) A (pyNext (.ref it)) Q E s:=by
 have ty:=hi.typeIs;obtain⟨o,h1,h2,h3⟩:=hi;obtain⟨ob,f9,g1,g2,g3,g4⟩:=hd;have hl:f9.size=ts.length:=by rw[<-g4];simp
 have ow:Builtin.Dict_items.ownsTuple "dict_keyiterator"=false:=by decide
 unfold pyNext;refine X0 (wpAny_attempt (wpAny_callSpecial?_slot (name:=Str.ofString "__next__") ty F.slot_dict_keyiterator_next (Yd F.slot_dict_keyiterator_next ty F.entry_dict_keyiterator_next ?_ (F.args_dict_keyiterator_next_1 _))));refine X0 (X4 (X0 (X0 ?_)))
 first
  |refine X0 (Yk ty (X4 (X0 (wpAny_fieldsOf h1 h3 ?_))))
  |refine X0 (wpAny_typeNameOf_keyiter ty (X4 (X0 (wpAny_fieldsOf h1 h3 ?_))))
 simp only[ow,Bool.false_eq_true,if_false];show wpAny _ _ (if(Value.ref a==Value.none)=true then _ else _) _ _ s;rw[Xe (show ¬((Value.ref a==Value.none)=true)from λz=>nomatch z)];refine X0 (X4 (X0 (wpAny_dictEntries g1 g3 ?_)));rw[Xe (by rw[hl];simp)];refine X0 (X4 (X0 (wpAny_dictEpoch g1 g3 ?_)));rw[Xe (by simp)];refine X4 ?_;simp only[show ¬((i:Int)<0)from by omega,if_false,Ya,Array.getElem?_eq_none (show f9.size<=i by omega)];refine X0 ?_
 first
  |refine X0 (Yk ty (X4 ?_))
  |refine X0 (wpAny_typeNameOf_keyiter ty (X4 ?_))
 show wpAny _ _ (setField (.ref it) 0 .none >>= _) _ _ s;refine X0 (wpAny_setField h1 h3 (by simp) ?_);show wpAny _ _ (newExc (.type "StopIteration") [] >>= _) _ _ _;refine X0 ?_;simp only[newExc,newTuple];refine X0 (Y5 (X0 (m:=firstArgMember _ _) (wpAny_of_eq (a:=Value.none) (by first|rfl|(simp only[firstArgMember];rfl)) (Y5 ?_ (by size_fits)))) (by size_fits));simp only[raiseNew];refine X0 (wpAny_handled ?_);rw[show A.in1.handled=none from hh];have tyS:∀(hq:Heap) (ob:Obj),ob.cls=.type "StopIteration"->(hq.push ob).get? hq.objs.size=some ob->Shared.TypeIs { s with heap:=hq.push ob } (.ref hq.objs.size) "StopIteration":=λhq ob h1 h2=>⟨_,h2,h1⟩
 refine X0 (X4 (wpAny_throw ?_));refine X0 (wpAny_isInstance (b:=true) (tyS _ _ rfl (Xj _ rfl)) isSubtype_stop ?_);exact X4 (q _ (((Heap.SameBut.update ..).extBut.push _).push _))
theorem jxk{h h':Heap}(hd:KZ h a ts ep)(k:∀o,h.get? a=some o->h'.get? a=some o):KZ h' a ts ep:=by
 obtain⟨ob,f9,g1,g⟩:=hd;exact⟨ob,f9,k ob g1,g⟩
theorem kzb{h:Heap}(hd:KZ h a ts ep):a<h.objs.size:=by
 obtain⟨ob,f9,g1,g⟩:=hd;exact Xf g1
theorem qk2(hh:A.handled=none)(I:Addr)(cx:a≠I):PySem.Walks prog w A I [I,a] [I] ts.length (λi v=>∃en,ts[i]?=some en/\v=en.key) (λi h=>h.IsKeyIter I a i ts.length ep/\KZ h a ts ep) where
 sub:=λb hb=>by simp at hb;simp[hb]
 frame:=λ_ _ _ st hk=>⟨st.1.at λo e=>hk I (by simp) o e,jxk st.2 λo e=>hk a (by simp) o e⟩
 item:=λi s Q E hi st hQ=>qw2 st.1 st.2 (X1 hi) λh' li ji=>
  hQ _ h' s.toks ⟨_,X1 hi,rfl⟩ ⟨li,jxk st.2 λo e=>ji.extBut a o cx e⟩ λb o hb e=>ji.extBut b o (λh=>hb (by simp[h])) e
 done:=λs Q E st hQ=>qw1 hh st.1 st.2 (X8 _) λh' he'=>hQ h' s.toks λb o hb e=>he' b o (λh=>hb (by simp[h])) e
 self:=λ_ _ _ _ st hQ=>wpAny_pyIter_keyiter st.1 hQ
theorem qxt(lo:(a==sysModules)=false):PySem.W.KdlSrc prog w "dict" a a ts.length (λi v=>∃en,ts[i]?=some en/\v=en.key) (λh=>KZ h a ts ep) where
 type:=λ_ hm=>by obtain⟨ob,f9,g1,g2,_⟩:=hm;exact⟨ob,g1,g2.1⟩
 there:=λ_ hm=>⟨kzb hm,kzb hm⟩
 keep:=λ_ _ hm hk=>jxk hm λo e=>hk a (.inl rfl) o e
 notList:=by decide
 notTuple:=by decide
 hint:=λ_ _ _ _ hm hq=>PySem.W.kdl_hint_dict (by obtain⟨ob,f9,g1,g2,_⟩:=hm;exact⟨ob,g1,g2.1⟩) hq
 iter:=λ_ _ hh hm=>⟨_,_,(λ_ _ hq=>qw3 lo hm hq),qk2 hh _ (Xy (kzb hm)),⟨⟨_,Xj _ rfl,rfl,rfl⟩,jxk hm λo e=>X9 _ e⟩⟩
end
def vjm(K:PySem.W.Frag):List V->Hp->VK->Prop:=λxs H Q=>∃a es ep,xs=[.ref a]/\H a=some (qx a es ep)/\(a==sysModules)=false/\es.length<=sizeLine/\∀l,H l=none->Q (.ref l) (upd H l (.lst (es.map λn=>V.ref n.2.1)))
theorem kvm:∀(es:List Ent),Vals (es.map λn=>V.ref n.2.1) (es.map λn=>Value.ref n.2.1)
 |[]=>.nil
 |n::es=>.cons rfl (kvm es)
theorem kqa{X:Cx}{K:PySem.W.Frag}(hc:X.calm=true:=by rfl):CallR X (.type "list") (vjm K):=by
 intro pins s σ H xs us Q I r h;obtain⟨a,es,ep,rfl,hH,hs,hl,q⟩:=h;obtain⟨u,rfl,rx⟩:=zJ r;cases rx;refine PySem.W.kdl_call (qxt (ts:=es.map λx=>(⟨Kk x.1.1,.ref x.2.1,x.2.2⟩:DictEntry)) (ep:=ep) hs) (I.ok.hd hc) (vw3 I hH) (by rw[X3];exact hl) λh' tk ac c kp e ax=>?_
 have he:ac.toList=es.map λn=>Value.ref n.2.1:=by
  refine List.ext_getElem? λi=>?_
  rw[Y2];have hn:ac.size=es.length:=by have:=ax.1;simpa using this
  cases hv:ac[i]? with
  |none=>rw[Yq,hv,List.getElem?_eq_none (by have:=Array.getElem?_eq_none_iff.mp hv;omega)];rfl
  |some v=>
   obtain⟨en,h1,h2⟩:=ax.2 i v hv;rw[Yq,hv,h2];rw[Y2]at h1;cases mf:es[i]? with
   |none=>rw[mf]at h1;cases h1
   |some n=>rw[mf]at h1;cases oq9 h1;rfl
 refine⟨.ref s.heap.objs.size,_,I.laid kp (X8 _) (show ObjOk X.prog X.w _ h' _ (.lst (es.map λn=>V.ref n.2.1))from⟨by rw[X3];exact hl,es.map λn=>Value.ref n.2.1,c,kvm es,by rw[<-he];simpa using e⟩),rfl,q _ (I.hok.fresh (X8 _))⟩
theorem kw1{K:PySem.W.Frag}{H:Hp}:∀{es:List Ent},(∀n∈es,PuR K H n.1.1 (.ref n.2.1))->RepA K H true (es.map (·.1.1)) (es.map λn=>V.ref n.2.1) []
 |[],_=>by unfold RepA;exact⟨rfl,rfl⟩
 |n::es,h=>by
  rw[List.map_cons,List.map_cons];unfold RepA;exact⟨_,_,[],[],rfl,rfl,qqk (h n X2),kw1 λm hm=>h m (lc9 _ hm)⟩
theorem qjz{K:PySem.W.Frag}:Ad1 K (λv H Q=>vjm K [v] H Q) JW:=by
 intro H x s Q ok hf k;unfold JW at hf;cases hx:x.d with
 | dct kvs=>
  rw[show(x.o,x.d).2=D.dct kvs from hx]at hf;have hf:(if kvs.length<=big/\unm kvs=true then some (Own.rt,D.lst (kvs.map (·.1)))else none)=some s:=hf
  split at hf
  rotate_left
  ·cases hf
  rename_i ae;cases oq9 hf;have okL:RepL K H true (.dct kvs) x.v x.as:=by rw[<-hx];exact KJ ok
  unfold RepL at okL;obtain⟨a,xs,bs,ev,rp,q4,eas⟩:=okL;obtain⟨es,ep,g1,g2,g3,g4,g5,g6,g7⟩:=DcA.un q4 ae.2;refine⟨a,es,ep,by rw[ev],g1,g2,g3,λl hl=>k ⟨.rt,.lst (kvs.map (·.1)),.ref l,[l]⟩ _ rfl rfl ⟨wX hl,⟨l,_,[],rfl,?_,wQ,rfl⟩,λb hb=>?_,by simp[Sl.own],λb hb=>?_⟩⟩
  ·rw[g5];exact(kw1 g6).kp (Kp.of_same (wX hl))
  ·have:b=l:=by simpa [Sl.own]using hb
   exact this▸hl
  ·simp[Sl.frz]at hb
 |_=>rw[show(x.o,x.d).2=_ from hx]at hf;cases hf
end Q
namespace Q
open PySem PySem.Spec PyProof.Rows L2 L3
def wvn(ka:Bool):R2:=λx y H Q=>∃a b,x=.bl a/\y=.bl b/\Q (.bl (ka != (a==b))) H
theorem vzn{X:Cx}:OpR X (compareOp .IsNot) (wvn true):=by
 intro pins s σ H x y v u Q I rx ry h;obtain⟨a,b,rfl,rfl,q⟩:=h;cases rx;cases ry;exact isnot_bool (qjq I q (by cases a<;>cases b<;>rfl))
theorem vk0{K:PySem.W.Frag}{H:Hp}{x:Sl}{a:Bool}(ok:x.ok K H)(h:x.d=.bl a):x.v=.bl a:=by
 have:=RepO.wk ok;rw[h]at this;unfold RepL at this;exact this.1
theorem vwf{K:PySem.W.Frag}:Ad2 K (wvn true) (pu2 Ww):=by
 intro H x y s Q ox oy hf k;unfold pu2 Ww at hf;cases hx:x.d with
 | bl a=>cases hy:y.d with
  |bl b=>
   rw[show(x.o,x.d).2=D.bl a from hx,show(y.o,y.d).2=D.bl b from hy]at hf;cases oq9 hf;exact⟨a,b,vk0 ox hx,vk0 oy hy,by rw[show(true != (a==b))=(!(a==b))by cases a<;>cases b<;>rfl];exact k ⟨.dp,.bl _,.bl _,[]⟩ H rfl rfl xv⟩
  |_=>rw[show(x.o,x.d).2=D.bl a from hx,show(y.o,y.d).2=_ from hy]at hf;cases hf
 |_=>rw[show(x.o,x.d).2=_ from hx]at hf;cases hf
theorem vwb:∀x y s,pu2 Ww x y=some s->∃k,s.2=.bl k:=by
 intro x y s h;unfold pu2 Ww at h
 split at h
 ·cases oq9 h;exact⟨_,rfl⟩
 ·cases h
end Q
namespace Q
open PySem PySem.Spec PyProof.Rows L2 L3
theorem qz5{X:Cx}{Z:Fx0}{q:Bool}:QA X Z q [] []:=W9 xj fun σ H Q af=>ex8 af λE L r m w hc xc k=>by
 cases oq9 hc;exact k _ _ rfl [] L H rfl m w Step.refl λ_=>⟨λ_ _ z=>z,λ_ z=>(nomatch z)⟩
end Q
namespace Q
open PySem PySem.Spec PyProof.Rows L2 L3
theorem vv1{K:PySem.W.Frag}{H:Hp}{x:Sl}(ok:x.ok K H)(ht:WK x.sd=true)(nd:x.own.Nodup):∃cs,RepL K H false x.d x.v cs/\(∀a∈cs,a∈x.own)/\cs.Nodup:=by
 obtain⟨o,d,v,as⟩:=x;unfold WK at ht;rw [Bool.or_eq_true]at ht;rcases ht with ht|ht
 ·unfold vJ at ht;rw[Bool.or_eq_true]at ht;rcases ht with ht|ht
  ·have ho:o=.dp:=by
    have ht:(o==Own.dp)=true:=ht;cases o with
    |dp=>rfl
    |no=>cases ht
    |rt=>cases ht
   subst ho;exact⟨as,ok,λa h=>h,nd⟩
  ·obtain⟨_,r⟩:=RepL.pu (g':=false) (RepO.wk ok) ht;exact⟨[],r,λ_ h=>(nomatch h),Xr⟩
 ·rw[Bool.and_eq_true]at ht;have ho:o=.rt:=by
   have ht:(o==Own.rt)=true:=ht.1;cases o with
   |rt=>rfl
   |no=>cases ht
   |dp=>cases ht
  subst ho;cases d with
  | lst ds=>
   have hp:D.pures ds=true:=ht.2;obtain⟨a,xs,bs,e,r,h,e2⟩:=(show RepR K H (.lst ds) v as from ok);obtain⟨_,r2⟩:=RepA.pu (g':=false) r hp;refine⟨[a],?_,λb hb=>?_,by simp⟩
   ·unfold RepL;exact⟨a,xs,[],e,r2,.inl ⟨h,rfl⟩⟩
   ·rw[List.mem_singleton.mp hb];show a∈as.take 1;rw[e2];exact X2
  |_=>cases ht.2
end Q
namespace PySem
section
variable {prog:Program}{w:World}{K:Type}[DecidableEq K]{knd:HeapKind prog w K}{A:Around}{E:Value->Shared->Prop}{s:Shared}
theorem jqy{d a:Addr}{xs:List (K×Addr×Value)}{k:K}{v:Value}{Q:Value->Shared->Prop}(hu:knd.room A)(dk:knd.is s.heap k a)(hm:s.heap.DictOfH knd d xs)
  (h1:∀p,atKey xs k=some p->Q p.2 { s with toks:=s.toks+knd.draws k })
  (h2:atKey xs k=none->∀h',h'.DictOfH knd d (storedH xs k a v)->Heap.SameBut d s.heap h'->Q v { s with heap:=h',toks:=s.toks+knd.draws k })
  (hsz:xs.length<=sizeLine:=by size_fits):
  wpAny (model prog w) A (dictSetDefault d (.ref a) v) Q E s:=by
 obtain⟨o,es,ep,ho,hc,hd,he,his,hn⟩:=hm;unfold dictSetDefault
 try with_reducible refine Yp ?_
 refine X0 (knd.pyHash hu dk ?_);refine X0 (wpAny_dictFind_heap (s:={ s with toks:=s.toks+knd.draws k }) hu dk ho hd he his hn ?_ ?_)
 ·intro io;have hnot:k∉xs.map (·.1):=not_mem_keys_of_get io;refine X0 (wpAny_rule (X0 (wpAny_updateDictKeys (hz:=by have e:=size_of_entries he;omega) (s:={ s with toks:=s.toks+knd.draws k }) ho hd (X4 (h2 (atKey_none_of_get io) _ ⟨_,_,ep+1,Heap.get?_update_self _ ho (Obj.isFreed_of_dict (Obj.data_mapDictKeys hd _)),
   hc.mapDictKeys _,Obj.data_mapDictKeys hd _,?_,?_,?_⟩ (Heap.SameBut.update ..))))))
  ·rw[storedH_new (atKey_none_of_get io)];simp[he,entryOfKey]
  ·rw[storedH_new (atKey_none_of_get io)];intro x hx;rcases List.mem_append.mp hx with hx|hx
   ·exact knd.keeps (his x hx) ho hd (Heap.SameBut.update ..)
   ·simp only[List.mem_singleton]at hx;subst hx;exact knd.keeps dk ho hd (Heap.SameBut.update ..)
  ·rw[storedH_new (atKey_none_of_get io)];rw[Xx,X6];refine⟨hn,by simp,?_⟩;intro x hx y hy;simp only[List.map_cons,List.map_nil,List.mem_singleton]at hy;subst hy;exact λe=>hnot (e▸hx)
 ·intro j p hj;refine X0 (wpAny_dictEntries (s:={ s with toks:=s.toks+knd.draws k }) ho hd ?_);rw[entry_at he j,hj];exact X0 (wpAny_rule (X4 (h1 _ (atKey_of_get hn hj))))
theorem jvv(knd:HeapKind prog w K)(d a:Addr)(hd:(d==sysModules)=false)(iq:Value):
  MeetsIn prog w (Builtin.«dict.setdefault» ⟨[.ref d,.ref a,iq],[]⟩) (λA R s=>knd.room A.in1/\∃k xs,knd.is s.heap k a/\s.heap.DictOfH knd d xs/\xs.length<=sizeLine /\
   (∀p,atKey xs k=some p->R (.ok (.ret p.2)) { s with toks:=s.toks+knd.draws k }) /\
   (atKey xs k=none->∀h',h'.DictOfH knd d (storedH xs k a iq)->Heap.SameBut d s.heap h'->R (.ok (.ret iq)) { s with heap:=h',toks:=s.toks+knd.draws k })):=
 .of_wp λA R s ⟨hu,k,xs,dk,hm,hz,h1,h2⟩=>by
  unfold Builtin.«dict.setdefault»;refine X0 ?_;unfold Builtin.Dict.keyAndDefault;refine X0 (wpAny_notOrdered_dict hm.typeIs ?_);show wpAny _ _ (pure (d,Value.ref a,some iq)) _ _ s;refine X4 ?_;show wpAny _ _ (if(d==sysModules)=true then _ else(dictSetDefault d (.ref a) iq >>= _)) _ _ s;rw[Xe (by rw[hd];exact Bool.false_ne_true)];exact X0 (jqy (hsz:=hz) hu dk hm (λp hp=>X4 ⟨p.2,rfl,h1 p hp⟩) λhn h' hm' ji=>X4 ⟨iq,rfl,h2 hn h' hm' ji⟩)
end
end PySem
namespace Q
open PySem PySem.Spec PyProof.Rows L2 L3
def PV(K:PySem.W.Frag)(H:Hp):List Nat->D->V->V->Prop
 |[],_,v,u=>u=v
 |n::p,.tup ds,v,u=>∃a xs x d,v=.ref a/\SqT K H a xs/\xs[n]?=some x/\ds[n]?=some d/\PV K H p d x u
 |n::p,.lst ds,v,u=>∃a xs x d,v=.ref a/\H a=some (.lst xs)/\xs[n]?=some x/\ds[n]?=some d/\PV K H p d x u
 |_::_,_,_,_=>False
section
variable {K:PySem.W.Frag}{H:Hp}
theorem PV.snoc:∀{p:List Nat} {n:Nat} {d:D} {v u:V},PV K H (p++[n]) d v u->∃d' w,PV K H p d v w/\PV K H [n] d' w u
 |[],n,d,v,u,h=>⟨d,v,rfl,h⟩
 |m::p,n,.tup ds,v,u,⟨a,xs,x,d,e,q,ex,ed,h⟩=>by
  obtain⟨d',w,h1,h2⟩:=PV.snoc (p:=p) h;exact⟨d',w,⟨a,xs,x,d,e,q,ex,ed,h1⟩,h2⟩
 |m::p,n,.lst ds,v,u,⟨a,xs,x,d,e,q,ex,ed,h⟩=>by
  obtain⟨d',w,h1,h2⟩:=PV.snoc (p:=p) h;exact⟨d',w,⟨a,xs,x,d,e,q,ex,ed,h1⟩,h2⟩
 |_::_,_,.non,_,_,h=>h.elim
 |_::_,_,.bl _,_,_,h=>h.elim
 |_::_,_,.int _,_,_,h=>h.elim
 |_::_,_,.str _,_,_,h=>h.elim
 |_::_,_,.dct _,_,_,h=>h.elim
 |_::_,_,.obj _ _,_,_,h=>h.elim
theorem PV.one{n:Nat}{d:D}{v u:V}(h:PV K H [n] d v u):∃a xs,v=.ref a/\(H a=some (.lst xs)\/SqT K H a xs)/\xs[n]?=some u:=by
 cases d with
 |tup ds=>
  obtain⟨a,xs,x,d,e,q,ex,ed,h⟩:=h;have h:u=x:=h;subst h;exact⟨a,xs,e,.inr q,ex⟩
 |lst ds=>
  obtain⟨a,xs,x,d,e,q,ex,ed,h⟩:=h;have h:u=x:=h;subst h;exact⟨a,xs,e,.inl q,ex⟩
 |_=>exact h.elim
structure Kx (H H':Hp)(as bs:List Addr):Prop where
 tup:∀a xs,H a=some (.tup xs)->H' a=some (.tup xs)
 frz:∀a o u,H a=some (.frz o u)->H' a=some (.frz o u)
 out:∀b∈as,b∉bs->∀ob,H b=some ob->H' b=some ob
theorem Kx.kp{H':Hp}{as bs cs:List Addr}(k:Kx H H' as bs)(h:∀b∈cs,b∈as/\b∉bs):Kp H H' cs:=⟨k.tup,k.frz,λa ha=>k.out a (h a ha).1 (h a ha).2⟩
theorem RepA.hole:∀{n:Nat} {ds:List D} {xs:List V} {as:List Addr} {dn:D},RepA K H false ds xs as->as.Nodup->ds[n]?=some dn->∃x bs,xs[n]?=some x/\RepL K H false dn x bs/\bs.Nodup/\(∀b∈bs,b∈as) /\
  ∀(H':Hp) (ph:D) (ce:List Addr),Kx H H' as bs->RepL K H' false ph x ce->ce.Nodup->(∀b∈as,b∉bs->b∉ce)->∃fk,RepA K H' false (ds.set n ph) xs fk/\fk.Nodup/\∀b∈fk,(b∈as/\b∉bs)\/b∈ce
 | _,[],_,_,_,_,_,e=>by simp at e
 | 0,d::ds,xs,as,dn,h,nd,e=>by
  have e:d=dn:=by simpa using e
  subst e;unfold RepA at h;obtain⟨x,r,bs,es,rfl,rfl,h1,h2⟩:=h;rw[X6]at nd;refine⟨x,bs,rfl,h1,nd.1,λb hb=>ll9 _ hb,λH' ph ce kx r' lm hd=>?_⟩;have he:∀b∈es,b∈bs++es/\b∉bs:=λb hb=>⟨lr9 _ hb,λz=>nd.2.2 b z b hb rfl⟩
  refine⟨ce++es,?_,?_,λb hb=>?_⟩
  ·rw[List.set_cons_zero];unfold RepA;exact⟨x,r,ce,es,rfl,rfl,r',h2.kp (kx.kp he)⟩
  ·rw[X6];refine⟨lm,nd.2.1,λa ha b hb le=>?_⟩;subst le;exact hd a (he a hb).1 (he a hb).2 ha
  ·rcases List.mem_append.mp hb with z|z
   ·exact .inr z
   ·exact .inl (he b z)
 | n+1,d::ds,xs,as,dn,h,nd,e=>by
  unfold RepA at h;obtain⟨x,r,bs,es,rfl,rfl,h1,h2⟩:=h;rw[X6]at nd;obtain⟨y,fs,q1,q2,q3,q4,q5⟩:=RepA.hole (n:=n) h2 nd.2.1 (by simpa using e);have hb:∀b∈bs,b∈bs++es/\b∉fs:=λb hb=>⟨ll9 _ hb,λz=>nd.2.2 b hb b (q4 b z) rfl⟩
  refine⟨y,fs,by simpa using q1,q2,q3,λb hb=>lr9 _ (q4 b hb),λH' ph ce kx r' lm hd=>?_⟩;obtain⟨fk,a1,a2,a3⟩:=q5 H' ph ce ⟨kx.tup,kx.frz,λb hb=>kx.out b (lr9 _ hb)⟩ r' lm (λb hb=>hd b (lr9 _ hb));refine⟨bs++fk,?_,?_,λb hb2=>?_⟩
  ·rw[List.set_cons_succ];unfold RepA;exact⟨x,r,bs,fk,rfl,rfl,h1.kp (kx.kp hb),a1⟩
  ·rw[X6];refine⟨nd.1,a2,λa ha b hb2 le=>?_⟩;subst le;rcases a3 a hb2 with z|z
   ·exact nd.2.2 a ha a z.1 rfl
   ·exact hd a (hb a ha).1 (hb a ha).2 z
  ·rcases List.mem_append.mp hb2 with z|z
   ·exact .inl (hb b z)
   ·exact(a3 b z).imp (λz=>⟨lr9 _ z.1,z.2⟩) id
theorem RepL.hole:∀{p:List Nat} {d d1:D} {v:V} {as:List Addr},RepL K H false d v as->as.Nodup->D.at p d=some d1->∃v1 fu,PV K H p d v v1/\RepL K H false d1 v1 fu/\fu.Nodup/\(∀b∈fu,b∈as) /\
  ∀ (H':Hp) (d':D) (ce:List Addr),Kx H H' as fu->RepL K H' false d' v1 ce->ce.Nodup->(∀b∈as,b∉fu->b∉ce)->∃fk,RepL K H' false (D.put d' p d) v fk/\fk.Nodup/\∀b∈fk,(b∈as/\b∉fu)\/b∈ce
 | [],d,d1,v,as,h,nd,e=>by
  cases oq9 (show some d=some d1 from e);exact⟨v,as,rfl,h,nd,λ_ h=>h,λH' d' ce kx r' lm hd=>⟨ce,r',lm,λb hb=>.inr hb⟩⟩
 | n::p,.tup ds,d1,v,as,h,nd,e=>by
  unfold D.at at e;cases hn:ds[n]? with
  | none=>rw[hn]at e;cases e
  | some dn=>
   rw[hn]at e;unfold RepL at h;obtain⟨a,xs,e1,sq,ra⟩:=h;obtain⟨x,bs,q1,q2,q3,q4,q5⟩:=RepA.hole ra nd hn;obtain⟨v1,fu,p1,p2,p3,p4,p5⟩:=RepL.hole (p:=p) q2 q3 e;refine⟨v1,fu,⟨a,xs,x,dn,e1,sq,q1,hn,p1⟩,p2,p3,λb hb=>q4 b (p4 b hb),λH' d' ce kx r' lm hd=>?_⟩;obtain⟨cs,c1,c2,c3⟩:=p5 H' d' ce ⟨kx.tup,kx.frz,λb hb=>kx.out b (q4 b hb)⟩ r' lm (λb hb=>hd b (q4 b hb));obtain⟨fk,a1,a2,a3⟩:=q5 H' _ cs ⟨kx.tup,kx.frz,λb hb hn=>kx.out b hb λz=>hn (p4 b z)⟩ c1 c2 (λb hb hn z=>by
    rcases c3 b z with z|z
    ·exact hn z.1
    ·exact hd b hb (λz=>hn (p4 b z)) z)
   refine⟨fk,?_,a2,λb hb=>?_⟩
   ·unfold D.put;rw[hn];dsimp only;unfold RepL;exact⟨a,xs,e1,Kp.tupT (as:=[]) ⟨kx.tup,kx.frz,λ_ h=>nomatch h⟩ sq,a1⟩
   ·rcases a3 b hb with z|z
    ·exact .inl ⟨z.1,λy=>z.2 (p4 b y)⟩
    ·exact(c3 b z).imp (λz=>⟨q4 b z.1,z.2⟩) id
 | n::p,.lst ds,d1,v,as,h,nd,e=>by
  unfold D.at at e;cases hn:ds[n]? with
  | none=>rw[hn]at e;cases e
  | some dn=>
   rw[hn]at e;unfold RepL at h;obtain⟨a,xs,fs,e1,ra,sq⟩:=h;rcases sq with⟨sq,rfl⟩|⟨z,_⟩
   rotate_left
   ·cases z
   rw[List.nodup_cons]at nd;obtain⟨x,bs,q1,q2,q3,q4,q5⟩:=RepA.hole ra nd.2 hn;obtain⟨v1,fu,p1,p2,p3,p4,p5⟩:=RepL.hole (p:=p) q2 q3 e;have lx:a∉fu:=λz=>nd.1 (q4 a (p4 a z))
   refine⟨v1,fu,⟨a,xs,x,dn,e1,sq,q1,hn,p1⟩,p2,p3,λb hb=>lc9 _ (q4 b (p4 b hb)),λH' d' ce kx r' lm hd=>?_⟩;obtain⟨cs,c1,c2,c3⟩:=p5 H' d' ce ⟨kx.tup,kx.frz,λb hb=>kx.out b (lc9 _ (q4 b hb))⟩ r' lm (λb hb=>hd b (lc9 _ (q4 b hb)));obtain⟨fk,a1,a2,a3⟩:=q5 H' _ cs ⟨kx.tup,kx.frz,λb hb hn=>kx.out b (lc9 _ hb) λz=>hn (p4 b z)⟩ c1 c2 (λb hb hn z=>by
    rcases c3 b z with z|z
    ·exact hn z.1
    ·exact hd b (lc9 _ hb) (λz=>hn (p4 b z)) z)
   have h3:∀b∈fk,(b∈fs/\b∉fu)\/b∈ce:=λb hb=>by
    rcases a3 b hb with z|z
    ·exact .inl ⟨z.1,λy=>z.2 (p4 b y)⟩
    ·exact(c3 b z).imp (λz=>⟨q4 b z.1,z.2⟩) id
   refine⟨a::fk,?_,List.nodup_cons.mpr ⟨λz=>?_,a2⟩,λb hb=>?_⟩
   ·unfold D.put;rw[hn];dsimp only;unfold RepL;exact⟨a,xs,fk,e1,a1,.inl ⟨kx.out a X2 lx _ sq,rfl⟩⟩
   ·rcases h3 a z with z|z
    ·exact nd.1 z.1
    ·exact hd a X2 lx z
   ·rcases List.mem_cons.mp hb with rfl|hb
    ·exact .inl ⟨X2,lx⟩
    ·exact(h3 b hb).imp (λz=>⟨lc9 _ z.1,z.2⟩) id
 |_::_,.non,_,_,_,_,_,e=>by cases e
 |_::_,.bl _,_,_,_,_,_,e=>by cases e
 |_::_,.int _,_,_,_,_,_,e=>by cases e
 |_::_,.str _,_,_,_,_,_,e=>by cases e
 |_::_,.dct _,_,_,_,_,_,e=>by cases e
 |_::_,.obj _ _,_,_,_,_,_,e=>by cases e
theorem xW{y:Sl}(h:y.o=.dp):y.own=y.as:=by unfold Sl.own;rw[h]
theorem World.hole{L:Ls}{y:Sl}{p:List Nat}{d1:D}(w:World K H (some y::L))(ho:y.o=.dp)(h:D.at p y.d=some d1):∃y1:Sl,y1.o=.dp/\y1.d=d1/\PV K H p y.d y.v y1.v/\World K H (some y1::L) /\
  ∀ (He:Hp) (Le:Ls) (z:Sl),World K He (some z::Le)->Step H (some y1::L) He (some z::Le)->z.o=.dp->z.v=y1.v->∃y':Sl,y'.o=.dp/\y'.d=D.put z.d p y.d/\y'.v=y.v/\World K He (some y'::Le)/\Step H (some y::L) He (some y'::Le):=by
 have ok:RepL K H false y.d y.v y.as:=by
  have:=w.ok y X2;unfold Sl.ok at this;rw[ho]at this;exact this
 have nd:=w.nd;rw [jJ,xW ho,X6]at nd;have ds:=w.ds;obtain⟨v1,fu,p1,p2,p3,p4,p5⟩:=RepL.hole ok nd.1 h;have al:∀b∈y.as,H b≠none:=λb hb z=>by
  rcases w.own_al (a:=b) (by rw[jJ,xW ho];exact ll9 _ hb)with⟨_,q⟩|⟨_,q⟩|⟨_,q⟩<;>· rw[z]at q;cases q
 refine⟨⟨.dp,d1,v1,fu⟩,rfl,rfl,p1,⟨λx hx=>?_,?_,λa ha=>?_⟩,λHe Le z wz st zo zv=>?_⟩
 ·rcases List.mem_cons.mp hx with e|hx
  ·cases e;exact p2
  ·exact w.ok x (lc9 _ hx)
 ·rw[jJ,X6];exact⟨p3,nd.2.1,λa ha b hb=>nd.2.2 a (p4 a ha) b hb⟩
 ·have ha2:a∈j7 (some y::L):=by
   rw[jJ]at ha ⊢;rcases List.mem_append.mp ha with ha|ha
   ·exact ll9 _ (by rw[xW ho];exact p4 a ha)
   ·exact lr9 _ ha
  have:=ds a ha2;rw[qw]at this ⊢;intro q;rcases List.mem_append.mp q with q|q
  ·cases q
  ·exact this (lr9 _ q)
 ·have okz:RepL K He false z.d v1 z.as:=by
   have:=wz.ok z X2;unfold Sl.ok at this;rw[zo,zv]at this;exact this
  have ndz:=wz.nd;rw[jJ,xW zo,X6]at ndz;have no1:∀b∈y.as,b∉fu->b∉j7 (some (⟨.dp,d1,v1,fu⟩:Sl)::L):=λb hb hn q=>by
   rw[jJ]at q;rcases List.mem_append.mp q with q|q
   ·exact hn q
   ·exact nd.2.2 b hb b q rfl
  have noz:∀b∈y.as,b∉fu->b∉j7 (some z::Le):=λb hb hn q=>by
   rcases st.own b q with q|q
   ·exact no1 b hb hn q
   ·exact al b hb q
  have nof:∀b∈y.as,b∉fu->b∉jV Le:=λb hb hn q=>by
   rcases st.frz b (by rw[qw];exact lr9 _ q)with q|q|q
   ·rw[qw]at q;rcases List.mem_append.mp q with q|q
    ·cases q
    ·exact ds b (by rw[jJ,xW ho];exact ll9 _ hb) (by rw[qw];exact lr9 _ q)
   ·exact no1 b hb hn q
   ·exact al b hb q
  have tupk:∀a xs,H a=some (.tup xs)->He a=some (.tup xs):=λa xs e=>st.keep a _ e λq=>by
   have q2:a∈j7 (some y::L):=by
    rw[jJ]at q ⊢;exact List.mem_append.mpr ((List.mem_append.mp q).imp (λq=>by rw[xW ho];exact p4 a q) id)
   rcases w.own_al q2 with⟨_,q⟩|⟨_,q⟩|⟨_,q⟩<;>· rw[e]at q;cases q
  have frzk:∀a o u,H a=some (.frz o u)->He a=some (.frz o u):=λa o u e=>st.keep a _ e λq=>by
   have q2:a∈j7 (some y::L):=by
    rw[jJ]at q ⊢;exact List.mem_append.mpr ((List.mem_append.mp q).imp (λq=>by rw[xW ho];exact p4 a q) id)
   rcases w.own_al q2 with⟨_,q⟩|⟨_,q⟩|⟨_,q⟩<;>· rw[e]at q;cases q
  obtain⟨fk,a1,a2,a3⟩:=p5 He z.d z.as ⟨tupk,frzk,λb hb hn ob e=>st.keep b ob e (no1 b hb hn)⟩ okz ndz.1 (λb hb hn q=>noz b hb hn (by rw[jJ,xW zo];exact ll9 _ q));have sub:∀b∈j7 (some z::Le),b∈j7 (some y::L)\/H b=none:=λb hb=>(st.own b hb).imp (λq=>by
   rw[jJ]at q ⊢;exact List.mem_append.mpr ((List.mem_append.mp q).imp (λq=>by rw[xW ho];exact p4 b q) id)) id
  refine⟨⟨.dp,D.put z.d p y.d,y.v,fk⟩,rfl,rfl,rfl,⟨λx hx=>?_,?_,λa ha q=>?_⟩,⟨λa ob e hn=>st.keep a ob e λq=>hn ?_,λa ha=>?_,λa ha=>?_⟩⟩
  ·rcases List.mem_cons.mp hx with e|hx
   ·cases e;exact a1
   ·exact wz.ok x (lc9 _ hx)
  ·rw[jJ,X6];refine⟨a2,ndz.2.1,λa ha b hb le=>?_⟩;subst le;rcases a3 a ha with q|q
   ·exact noz a q.1 q.2 (by rw[jJ];exact lr9 _ hb)
   ·exact ndz.2.2 a q a hb rfl
  ·have q:a∈jV Le:=by
    rw[qw]at q;rcases List.mem_append.mp q with q|q
    ·cases q
    ·exact q
   rw[jJ]at ha;have fz:a∈jV (some z::Le):=by rw[qw];exact lr9 _ q
   rcases List.mem_append.mp ha with ha|ha
   ·rcases a3 a ha with r|r
    ·exact nof a r.1 r.2 q
    ·exact wz.ds a (by rw[jJ,xW zo];exact ll9 _ r) fz
   ·exact wz.ds a (by rw[jJ];exact lr9 _ ha) fz
  ·rw[jJ]at q ⊢;exact List.mem_append.mpr ((List.mem_append.mp q).imp (λq=>by rw[xW ho];exact p4 a q) id)
  ·rw[jJ]at ha;rcases List.mem_append.mp ha with ha|ha
   ·rcases a3 a ha with q|q
    ·exact .inl (by rw[jJ,xW ho];exact ll9 _ q.1)
    ·exact sub a (by rw[jJ,xW zo];exact ll9 _ q)
   ·exact sub a (by rw[jJ];exact lr9 _ ha)
  ·have q:a∈jV Le:=by
    rw[qw]at ha;rcases List.mem_append.mp ha with q|q
    ·cases q
    ·exact q
   rcases st.frz a (by rw[qw];exact lr9 _ q)with r|r|r
   ·refine .inl ?_;rw[qw]at r ⊢;rcases List.mem_append.mp r with r|r
    ·cases r
    ·exact lr9 _ r
   ·refine .inr (.inl ?_);rw[jJ]at r ⊢;exact List.mem_append.mpr ((List.mem_append.mp r).imp (λq=>by rw[xW ho];exact p4 a q) id)
   ·exact .inr (.inr r)
end
end Q
namespace Q
open PySem PySem.Spec PyProof.Rows L2 L3
abbrev tP(K:PySem.W.Frag)(i:Nat)(p:List Nat):TE:=fun σ H Q=>∃d v u,σ[i]?=some (some v)/\PV K H p d v u/\Q u H
theorem qxb{xs:List V}{n:Nat}{x:V}(h:xs[n]?=some x):atI xs (n:Int)=some x:=by
 have hn:n<xs.length:=(List.getElem?_eq_some_iff.mp h).1;have e:L2.ixN xs.length (n:Int)=some n:=by
  unfold L2.ixN;rw[Xb (Int.natCast_nonneg n)];simp[hn]
 unfold atI;rw[e];exact h
section
variable {X:Cx}{Z:Fx0}{pn:List Nat}{q:Bool}{c:Ex}{e ep:Expr}{i:Nat}{p:List Nat}{pos:Pos}
theorem Z3(K:PySem.W.Frag)(h:PE X e (J9 i)):PE X e (tP K i []):=qX h fun σ H Q ⟨d,v,u,hv,hu,q⟩=>by
 have hu:u=v:=hu;subst hu;exact⟨u,hv,q⟩
theorem Qq{K:PySem.W.Frag}{z:Int}{j:Nat}{cw:Pos}(n:Nat)(h:PE X e (tP K i p))(bt:kvk (.Constant (.int z) j cw))(hK:X.K=K:=by rfl)(hz:z=(n:Int):=by rfl):PE X (.Subscript e (.Constant (.int z) j cw) pos) (tP K i (p++[n])):=
 qX (vzg (hK▸vk7) h vjx bt) fun σ H Q ⟨d,v,u,hv,hu,q⟩=>by
  subst hz;obtain⟨d',w,h1,h2⟩:=hu.snoc;obtain⟨a,xs,e1,sq,ex⟩:=h2.one;refine⟨d,v,w,hv,h1,?_⟩;rcases sq with sq|sq
  ·exact .inl ⟨a,xs,n,u,e1,rfl,.inl (.inl sq),qxb ex,q⟩
  ·exact .inr (.inl ⟨a,xs,n,u,e1,rfl,sq,qxb ex,q⟩)
theorem jzq{K:PySem.W.Frag}{H:Hp}{L:Ls}{y:Sl}(w:World K H L)(h:L[i]?=some (some y)):World K H (some y::L.set i none)/\Step H L H (some y::L.set i none):=by
 have wn:World K H (none::L):=⟨λy hy=>w.ok y (by simpa using hy),by simpa using w.nd,by simpa using w.ds⟩;have sn:Step H L H (none::L):=⟨λ_ _ z _=>z,λa z=>.inl (by simpa using z),λa z=>.inl (by simpa using z)⟩;exact⟨wn.perm (Z2 h),sn.trans (Step.refl.perm (List.Perm.refl _) (Z2 h))⟩
theorem vjk{K:PySem.W.Frag}{H:Hp}{x:Sl}(ok:x.ok K H)(h:x.d.pure=true):RepL K H false x.d x.v []:=(RepL.pu (g':=false) (RepO.wk ok) h).2
theorem vk6{H:Hp}{l:Addr}{xs:List V}{ob:HO}(h:H l=some (.lst xs)){as:List Addr}(hn:l∉as):Kp H (upd H l ob) as:=by
 have ke:∀a o,H a=some o->a≠l->upd H l ob a=some o:=λa o e ne=>by rw[qz ne];exact e
 refine⟨λa xs e=>ke a _ e λz=>?_,λa o u e=>ke a _ e λz=>?_,λa ha o e=>ke a o e λz=>hn (z▸ha)⟩
 ·subst z;rw[h]at e;cases e
 ·subst z;rw[h]at e;cases e
theorem World.app{K:PySem.W.Frag}{H:Hp}{M:Ls}{y x:Sl}{ds:List D}(w:World K H (some y::some x::M))(ho:y.o=.dp)(hd:y.d=.lst ds)(hp:x.d.pure=true):∃l xs,y.v=.ref l/\H l=some (.lst xs)/\xs.length=ds.length /\
  ∃z:Sl,z.o=.dp/\z.d=.lst (ds++[x.d])/\z.v=y.v/\World K (upd H l (.lst (xs++[x.v]))) (some z::M)/\Step H (some y::some x::M) (upd H l (.lst (xs++[x.v]))) (some z::M):=by
 obtain⟨l,xs,bs,c1,c2,c3,c4,c5⟩:=VY (w.ok y X2) hd ho;have nd:=w.nd;rw[jJ,X6,c4,List.nodup_cons]at nd;refine⟨l,xs,c1,c2,c5.len.symm,⟨.dp,.lst (ds++[x.d]),y.v,l::bs⟩,rfl,rfl,rfl,World.write (T:=[some x]) (M:=M) w (by rw[c4];exact X2) ?_ (List.nodup_cons.mpr nd.1) (λa ha=>.inl (by rw[c4];exact ha)) (λa ha=>nomatch ha) (λa ha z=>nomatch z)⟩;show RepL K _ false _ _ _;unfold RepL;have rx:=vjk (w.ok x (lc9 _ X2)) hp;have hr:=RepA.snoc (rx.kp (vk6 (ob:=.lst (xs++[x.v])) c2 (λz=>nomatch z))) (c5.kp (vk6 (ob:=.lst (xs++[x.v])) c2 nd.1.1));rw[Xp]at hr;exact⟨l,_,bs,c1,hr,.inl ⟨wQ,rfl⟩⟩
theorem World.clr{K:PySem.W.Frag}{H:Hp}{M:Ls}{y:Sl}{ds:List D}(w:World K H (some y::M))(ho:y.o=.dp)(hd:y.d=.lst ds):∃l xs,y.v=.ref l/\H l=some (.lst xs) /\
  ∃z:Sl,z.o=.dp/\z.d=.lst []/\z.v=y.v/\World K (upd H l (.lst [])) (some z::M)/\Step H (some y::M) (upd H l (.lst [])) (some z::M):=by
 obtain⟨l,xs,bs,c1,c2,c3,c4,c5⟩:=VY (w.ok y X2) hd ho;refine⟨l,xs,c1,c2,⟨.dp,.lst [],y.v,[l]⟩,rfl,rfl,rfl,World.write (T:=[]) (M:=M) w (by rw[c4];exact X2) ?_ (by simp[Sl.own]) (λa ha=>.inl ?_) (λa ha=>nomatch ha) (λa ha z=>nomatch z)⟩
 ·show RepL K _ false _ _ _;unfold RepL;exact⟨l,[],[],c1,by unfold RepA;exact⟨rfl,rfl⟩,.inl ⟨wQ,rfl⟩⟩
 ·rw[c4];have ha:a∈[l]:=ha;rw[List.mem_singleton.mp ha];exact X2
theorem kzl{K:PySem.W.Frag}{H:Hp}{l:Addr}{xs:List V}(h:H l=some (.lst xs)):tyV K "list" (.ref l) H:=.inl ⟨rfl,xs,.inl (.inl h)⟩
theorem wvr(hP:PE X ep (tP Z.K i p))(hc:QE X Z q c e)(hK:X.K=Z.K:=by rfl)(hm:MtR X "list.append" ZQ){apos aa cj:Pos}
  (ao:attributeBase ep "append" X.env (eval ep X.env)=eval ep X.env:=by rfl)
  (d8:((backTo aa (starEach [e] X.env)).all (λx=>!x.1)&&(backToKw aa (keywordEach [] X.env)).all (λx=>x.1.isSome)
   && decide ([e].length+([]:List Keyword).length+(if([]:List Keyword).isEmpty then 0 else 1)<30))=true:=by rfl)
  (ak:(apos.endLine==aa.line)=true:=by rfl) (hs:starEach [e] X.env=(false,eval e X.env)::starEach [] X.env:=by rfl) (au:(backTo aa (starEach [] X.env)).any (·.1)=false:=by rfl)
  (i3:swapsWith (.Call (.Attribute ep "append" apos) [e] [] aa) none cj.line X.env=pure false:=by rfl):
  QS X Z pn (sPA i p c) (.Expr (.Call (.Attribute ep "append" apos) [e] [] aa) cj):=
 xk (kja (qv8 Z.K Ym PySem.F.slot_list_append PySem.F.type_list_append hm hP (x5 hc xj hs) ao d8 ak hs au hK) i3) λDe σ H af=>ex7 af λE L r m w bj k=>by
 unfold sPA at bj
 split at bj
 rotate_left
 ·cases bj
 rename_i d hE
 split at bj
 rotate_left
 ·cases bj
 rename_i ds dl
 split at bj
 rotate_left
 ·cases bj
 rename_i ae;obtain⟨y,a1,a2,a3,a4⟩:=m.get hE;obtain⟨w0,s0⟩:=jzq w a1;obtain⟨y1,b1,b2,b3,b4,b5⟩:=w0.hole a2 (by rw[a3];exact dl);obtain⟨l,xs,bs,c1,c2,_,_,_⟩:=VY (b4.ok y1 X2) b2 b1;refine⟨y.d,y.v,y1.v,a4,b3,by rw[c1];exact kzl c2,?_⟩;refine Wz (q:=q) (Vk i m) w0.tail bj (k.step (s0.trans Step.drop) Pn.refl) λE1 s h1 x L1 H1 e1 e2 m1 w1 st _=>?_
 split at h1
 rotate_left
 ·cases h1
 rename_i hpu;cases oq9 h1;obtain⟨w2,s2⟩:=Z5 (T:=[some y1]) b4 st w1;obtain⟨l',xs',f1,f2,f3,z,z1,z2,z3,z4,z5⟩:=World.app w2 b1 b2 (by rw[e2];exact hpu);obtain⟨y',g1,g2,g3,g4,g5⟩:=b5 _ _ z z4 (s2.trans z5) z1 z3;refine⟨l',xs',x.v,f1,rfl,f2,by rw[f3];exact ae,?_⟩;have mm:=Q3 (i:=i) (x:=y') (s:=(.dp,Q.D.put (.lst (ds++[s.2])) p d)) m1 g1 (by rw[g2,z2,a3,e2]);rw[g3,xK a4]at mm;exact k σ _ _ Pn.refl mm g4.set (s0.trans (g5.trans Step.set))
theorem q_pc(hP:PE X ep (tP Z.K i p))(hK:X.K=Z.K:=by rfl)(hm:MtR X "list.clear" vjn){apos aa cj:Pos}
  (ao:attributeBase ep "clear" X.env (eval ep X.env)=eval ep X.env:=by rfl) (ak:(apos.endLine==aa.line)=true:=by rfl)
  (i3:swapsWith (.Call (.Attribute ep "clear" apos) [] [] aa) none cj.line X.env=pure false:=by rfl):
  QS X Z pn (sPC i p) (.Expr (.Call (.Attribute ep "clear" apos) [] [] aa) cj):=
 xk (kja (qv9 Z.K Ym PySem.F.slot_list_clear PySem.F.type_list_clear hm hP ao ak hK) i3) λDe σ H af=>ex7 af λE L r m w bj k=>by
 unfold sPC at bj
 split at bj
 rotate_left
 ·cases bj
 rename_i d hE
 split at bj
 rotate_left
 ·cases bj
 rename_i ds dl;cases oq9 bj;obtain⟨y,a1,a2,a3,a4⟩:=m.get hE;obtain⟨w0,s0⟩:=jzq w a1;obtain⟨y1,b1,b2,b3,b4,b5⟩:=w0.hole a2 (by rw[a3];exact dl);obtain⟨l,xs,c1,c2,z,z1,z2,z3,z4,z5⟩:=World.clr b4 b1 b2;refine⟨y.d,y.v,y1.v,a4,b3,by rw[c1];exact kzl c2,?_⟩;obtain⟨y',g1,g2,g3,g4,g5⟩:=b5 _ _ z z4 z5 z1 z3;refine⟨l,xs,c1,rfl,c2,?_⟩;have mm:=Q3 (i:=i) (x:=y') (s:=(.dp,Q.D.put (.lst []) p d)) (Vk i m) g1 (by rw[g2,z2,a3]);rw[g3,xK a4,List.set_set]at mm;exact k σ _ _ Pn.refl mm g4.set (s0.trans (g5.trans Step.set))
theorem vzy{u:Option V}:∀{E:En} {σ:L2.St} {L:Ls} (j:Nat),Mt E σ L->Mt (E.set j none) (σ.set j u) (L.set j none):=by
 intro E σ L j m
 induction m generalizing j with
 |nil=>exact .nil
 |un m ih=>cases j with
  |zero=>exact .un m
  |succ j=>exact .un (ih j)
 |cons m ih=>cases j with
  |zero=>exact .un m
  |succ j=>exact .cons (ih j)
theorem World.out1{K:PySem.W.Frag}{H:Hp}{L:Ls}(r:Nat)(w:World K H L):World K H (L.set r none)/\Step H L H (L.set r none):=by
 cases h:L[r]? with
 | none=>
  rw[show L.set r none=L from List.set_eq_of_length_le (by simpa using h)];exact⟨w,Step.refl⟩
 | some q=>
  cases q with
  |none=>
   rw[xK h];exact⟨w,Step.refl⟩
  |some y=>
   obtain⟨w1,s1⟩:=jzq w h;exact⟨w1.tail,s1.trans Step.drop⟩
theorem qz3(hc:QE X Z q c e):QE X Z q (Q4 c) e:=qX hc fun σ H Q af=>ex8 af λE L r m w hr xc k=>by
 unfold Q4 at hr;rcases wW hr with⟨E1,s,h1,h2⟩|⟨E1,cc,h1,h2⟩
 ·refine⟨E,L,_,m,w,h1,(λ_ _ z=>by cases z),λE' s' z x L' H' e1 e2 m' w' st sm=>?_⟩;injection z with z1 z2;subst z1 z2
  split at h2
  rotate_left
  ·cases h2
  rename_i hown;cases oq9 h2;have xn:x.own.Nodup:=by
   have:=w'.nd;rw[jJ]at this;exact(List.nodup_append.mp this).1
  obtain⟨cs,rx,jr,hcn⟩:=vv1 w'.head (by unfold Sl.sd;rw[e1,e2];exact hown) xn;have nd:=w'.nd;rw[jJ,X6]at nd;refine k _ _ rfl ⟨.dp,x.d,x.v,cs⟩ L' H' rfl e2 m' ⟨λy hy=>?_,?_,λa ha=>?_⟩ ⟨st.keep,λa ha=>?_,λa ha=>?_⟩ λhq=>⟨(sm hq).1,λb hb=>(sm hq).2 b (jr b hb)⟩
  ·rcases List.mem_cons.mp hy with z|z
   ·cases z;exact rx
   ·exact w'.ok y (lc9 _ z)
  ·rw[jJ,X6];exact⟨hcn,nd.2.1,λa ha b hb=>nd.2.2 a (jr a ha) b hb⟩
  ·have ha2:a∈j7 (some x::L'):=by
    rw[jJ]at ha ⊢;exact List.mem_append.mpr ((List.mem_append.mp ha).imp (jr a) id)
   intro q2;rw[qw]at q2;refine w'.ds a ha2 ?_;rw[qw];exact lr9 _ ((List.mem_append.mp q2).elim (λz=>nomatch z) id)
  ·refine st.own a ?_;rw[jJ]at ha ⊢;exact List.mem_append.mpr ((List.mem_append.mp ha).imp (jr a) id)
  ·refine st.frz a ?_;rw[qw]at ha ⊢;exact lr9 _ ((List.mem_append.mp ha).elim (λz=>nomatch z) id)
 ·exact⟨E,L,_,m,w,h1,xc.map h2,λE' s' z=>by cases z⟩
end
end Q
namespace Q
open PySem PySem.Spec PyProof.Rows L2 L3
mutual
theorem qj1{X:Cx}{pins:List (Addr×Obj)}{σ:L2.St}{H:Hp}{s:Shared}{g:Bool}(I:Inv X pins σ H s):∀{n:Nat} {d:D} {v:V} {u:Value} {as:List Addr},RepL X.K H g d v as->d.flat n=true->RelV v u->∃bs,Reads s.heap u (D.dat d) bs
 | _,.non,v,u,as,h,_,r=>by
  unfold RepL at h;obtain⟨rfl,_⟩:=h;cases(show u=.none from r);exact⟨[],.none⟩
 | _,.bl b,v,u,as,h,_,r=>by
  unfold RepL at h;obtain⟨rfl,_⟩:=h;cases(show u=.bool b from r);exact⟨[],.bool b⟩
 | _,.int i,v,u,as,h,_,r=>by
  unfold RepL at h;obtain⟨rfl,_⟩:=h;obtain⟨t,e⟩:=(show ∃t,u=Value.int i t from r);rw[e];exact⟨[],.int i t⟩
 | _,.str z,v,u,as,h,_,r=>by
  unfold RepL at h;obtain⟨rfl,_⟩:=h;obtain⟨t,e⟩:=(show ∃t,u=Value.str z t from r);rw[e];exact⟨[],.str z t⟩
 | 0,.tup ds,v,u,as,h,f,r=>by cases f
 | n+1,.tup ds,v,u,as,h,f,r=>by
  unfold RepL at h;obtain⟨a,xs,rfl,sq,ra⟩:=h;cases(show u=.ref a from r);obtain⟨a9,rv,⟨o,e,c,m,hd⟩,_⟩:=I.tuple sq;obtain⟨bs,q⟩:=readsA_of I (n:=n) ra f rv;exact⟨bs,.tuple e c hd q⟩
 | 0,.lst ds,v,u,as,h,f,r=>by cases f
 | n+1,.lst ds,v,u,as,h,f,r=>by
  unfold RepL at h;obtain⟨a,xs,cs,rfl,ra,sq⟩:=h;cases(show u=.ref a from r);have sl:LsR X.K H a xs:=by
   rcases sq with⟨z,_⟩|⟨_,z,_⟩
   ·exact .inl (.inl z)
   ·exact .of z
  obtain⟨_,a9,m,rv,e⟩:=sl.is I;obtain⟨bs,q⟩:=readsA_of I (n:=n) ra f rv;exact⟨a::bs,.list e rfl rfl q⟩
 |n,.dct _,_,_,_,_,f,_=>by cases n<;>cases f
 |n,.obj _ _,_,_,_,_,f,_=>by cases n<;>cases f
theorem readsA_of{X:Cx}{pins:List (Addr×Obj)}{σ:L2.St}{H:Hp}{s:Shared}{g:Bool}(I:Inv X pins σ H s):∀{n:Nat} {ds:List D} {xs:List V} {us:List Value} {as:List Addr},RepA X.K H g ds xs as->D.flats n ds=true->Vals xs us->∃bs,ReadsAll s.heap us (D.dats ds) bs
 | _,[],xs,us,as,h,_,r=>by
  unfold RepA at h;obtain⟨rfl,_⟩:=h;cases r;exact⟨[],.nil⟩
 | n,d::ds,xs,us,as,h,f,r=>by
  unfold RepA at h;obtain⟨x,xr,bs,cs,rfl,_,h1,h2⟩:=h;unfold D.flats at f;rw[Bool.and_eq_true]at f;cases r with
  |cons r1 r2=>
   obtain⟨b1,q1⟩:=qj1 I h1 f.1 r1;obtain⟨b2,q2⟩:=readsA_of I h2 f.2 r2;exact⟨b1++b2,.cons q1 q2⟩
end
mutual
theorem qjr:∀{n:Nat} {d:D},d.flat n=true->(D.dat d).depth<=n
 |n,.non,_=>Xv _
 |n,.bl _,_=>Xv _
 |n,.int _,_=>Xv _
 |n,.str _,_=>Xv _
 |0,.tup ds,f=>by cases f
 |n+1,.tup ds,f=>Nat.succ_le_succ (depths_le (n:=n) f)
 |0,.lst ds,f=>by cases f
 |n+1,.lst ds,f=>Nat.succ_le_succ (depths_le (n:=n) f)
 |n,.dct _,f=>by cases n<;>cases f
 |n,.obj _ _,f=>by cases n<;>cases f
theorem depths_le:∀{n:Nat} {ds:List D},D.flats n ds=true->PyData.depthAll (D.dats ds)<=n
 |_,[],_=>Xv _
 |n,d::ds,f=>by
  unfold D.flats at f;rw[Bool.and_eq_true]at f;exact Nat.max_le.mpr ⟨qjr f.1,depths_le f.2⟩
end
mutual
theorem kq5:∀d:D,(D.dat d).hasDict=false
 |.non=>rfl
 |.bl _=>rfl
 |.int _=>rfl
 |.str _=>rfl
 |.tup ds=>dats_noDict ds
 |.lst ds=>dats_noDict ds
 |.dct _=>rfl
 |.obj _ _=>rfl
theorem dats_noDict:∀ds:List D,PyData.hasDictAll (D.dats ds)=false
 |[]=>rfl
 |d::ds=>by
  show((D.dat d).hasDict||PyData.hasDictAll (D.dats ds))=false;rw[kq5 d,dats_noDict ds];rfl
end
def wk7(K:PySem.W.Frag):List V->Hp->VK->Prop:=λxs H Q=>∃v d z g as,xs=[v]/\RepL K H g d v as/\zX d=some (.str z)/\Q (.str z) H
theorem qwz{X:Cx}(hg:X.A.guards=some [])(hu:X.A.units+64<cLine):CallR X (.builtin "repr") (wk7 X.K):=by
 intro pins s σ H xs us Q I r ⟨v,d,z,g,as,e,rp,hf,q⟩;subst e;cases r with
 | cons r1 r2=>
  cases r2;unfold zX at hf
  split at hf
  rotate_left
  ·cases hf
  rename_i hc;cases hf;obtain⟨bs,rd⟩:=qj1 I rp hc.2.1 r1;have hv:∃a,v=.ref a:=by
   cases d with
   |tup ds=>unfold RepL at rp;obtain⟨a,_,e,_⟩:=rp;exact⟨a,e⟩
   |lst ds=>unfold RepL at rp;obtain⟨a,_,_,e,_⟩:=rp;exact⟨a,e⟩
   |_=>exact absurd hc.1 (by simp[wjg])
  obtain⟨a,rfl⟩:=hv;cases r1;have hd:=qjr hc.2.1;exact repr_of_reads' rd hc.2.2.1 (PyData.noDict_hsm (kq5 d)) hg (by omega) (λ_ _ e=>e) (λh' u tk hk=>⟨.str _,H,I.kept (t':=tk) hk,⟨u,rfl⟩,q⟩) hc.2.2.2
theorem qju{X:Cx}(K:PySem.W.Frag)(hg:X.A.guards=some [])(hu:X.A.units+64<cLine)(hK:X.K=K:=by rfl):CallR X (.builtin "repr") (wk7 K):=by subst hK;exact qwz hg hu
theorem vkl{K:PySem.W.Frag}:Ad1 K (λv H Q=>wk7 K [v] H Q) (pu1 zX):=by
 intro H x s Q ok hf k;have hf:(zX x.d).map (λd=>(Own.dp,d))=some s:=hf;cases h:zX x.d with
 |none=>rw[h]at hf;cases hf
 |some d=>
  rw[h]at hf;cases oq9 hf;have h0:=h;unfold zX at h
  split at h
  rotate_left
  ·cases h
  rename_i hc;cases h;refine⟨x.v,x.d,_,true,x.as,rfl,RepO.wk ok,h0,k ⟨.dp,.str _,.str _,[]⟩ H rfl rfl (Zq (λ_ _ h=>h) ?_)⟩;unfold RepL;exact⟨rfl,rfl,hc.2.2.2⟩
theorem qx7:bootBuiltins "repr"=some (.builtin "repr"):=by decide +kernel
end Q
namespace PySem
section
variable {prog:Program}{w:World}{A:Around}{E:Value->Shared->Prop}{s:Shared}
def qxh(h:Heap)(d:Addr)(n:Nat):Prop:=∃o es ep,h.get? d=some o/\o.cls=.type "dict"/\o.data=.dict es ep/\es.size=n
theorem kjg(d:Addr)(hd:(d==sysModules)=false):
  MeetsIn prog w (Builtin.«dict.__len__» ⟨[.ref d],[]⟩) (λ_ R s=>∃n,qxh s.heap d n/\R (.ok (.ret (.int n s.toks))) { s with toks:=s.toks+1 }):=
 .of_wp λA R s ⟨n,⟨o,es,ep,ho,hc,hdat,hz⟩,h⟩=>by
  show wpAny _ _ (dictSize d >>= _) _ _ s;unfold dictSize;refine X0 (X0 (wpAny_dictEntries ho hdat (X4 ?_)));show wpAny _ _ (Builtin.Dict.pendingCount d >>= _) _ _ s;refine X0 (wpAny_pendingCount_other hd ?_);refine wpAny_ret_mkInt ?_;rw[Nat.add_zero,hz];exact h
theorem kkl{d:Addr}{n:Nat}{Q:Value->Shared->Prop}(hd:(d==sysModules)=false)(hm:qxh s.heap d n)(i4:(n:Int)<2 ^ 63)
  (h:Q (.int n (s.toks+1)) { s with toks:=s.toks+1+1 }):wpAny (model prog w) A (Builtin.«len» ⟨[.ref d],[]⟩) (λfin s'=>∃r,fin=.done (.ret r)/\Q r s') E s:=by
 have ht:s.TypeIs (.ref d) "dict":=by obtain⟨o,es,ep,ho,hc,_⟩:=hm;exact⟨o,ho,hc⟩
 unfold Builtin.«len»;refine X0 (m:=oneArg "len" _) (X4 ?_);refine X0 (m:=callSpecial? (.ref d) (Str.ofString "__len__")) (wpAny_callSpecial?_slot (name:=Str.ofString "__len__") ht F.slot_dict_len
  (call_meetsIn F.slot_dict_len ht F.entry_dict_len (F.args_dict_len_1 _) (kjg d hd) ⟨n,hm,?_⟩))
 show wpAny _ _ _ _ _ { s with toks:=s.toks+1 };refine X0 (Yp (X4 ?_));refine X0 (wpAny_letGo ?_);show wpAny _ _ (if((n:Nat):Int)<0 then _ else _) _ _ _;rw[Xe (by omega)];show wpAny _ _ (if((n:Nat):Int)>=2 ^ 63 then _ else _) _ _ _;rw[Xe (by omega)];exact X0 (wpAny_mkInt (X4 ⟨_,rfl,h⟩))
theorem kkr{d:Addr}{n:Nat}{Q:Value->Shared->Prop}(hd:(d==sysModules)=false)(hm:qxh s.heap d n)(i4:(n:Int)<2 ^ 63)
  (h:Q (.int n (s.toks+1)) { s with toks:=s.toks+1+1 }):wpAny (model prog w) A (call (.builtin "len") [.ref d]) Q E s:=
 Calls.call_function_entry kind_len plain_len entry_len (args_len1 _) (kkl hd hm i4 h)
end
end PySem
namespace Q
open PySem PySem.Spec PyProof.Rows L2 L3
def vxn(K:PySem.W.Frag):List V->Hp->VK->Prop:=λxs H Q=>∃a ks vs,xs=[.ref a]/\DcN K H a ks vs/\Q (.int ks.length) H
theorem kwy{X:Cx}(K:PySem.W.Frag):CallR X (.builtin "len") (vxn K):=by
 intro pins s σ H xs us Q I r ⟨a,ks,vs,e,⟨es,ep,hH,hs,hl,_,hk,_⟩,q⟩;subst e;cases r with
 | cons r1 r2=>
  cases r2;cases r1;obtain⟨ob,f9,g1,g2,g3,g4⟩:=vw3 I hH;have ae:ks.length=f9.size:=by
   have:=congrArg List.length g4;rw[X3,Y6]at this;rw[hk,X3];exact this.symm
  have hz:es.length=ks.length:=by rw[hk,X3]
  exact kkr (n:=ks.length) hs ⟨ob,f9,ep,g1,g2.1,g3,ae.symm⟩ (by rw[sizeLine_eq]at hl;omega) ⟨.int ks.length,H,I.tok _,⟨_,rfl⟩,q⟩
theorem qxe{K:PySem.W.Frag}:Ad1 K (λv H Q=>vxn K [v] H Q) (pu1 Qw):=by
 intro H x s Q ok hf k;have hf:(Qw x.d).map (λd=>(Own.dp,d))=some s:=hf;cases hd:x.d with
 | dct kvs=>
  rw[hd]at hf;unfold Qw at hf;dsimp only at hf
  by_cases hu:unm kvs=true
  ·rw[Xb hu]at hf;cases oq9 hf;obtain⟨a,xs,e,dn⟩:=vke ok hd hu;refine⟨a,kvs.map (·.1),xs,by rw[e],dn,?_⟩;rw[X3];exact k ⟨.dp,.int kvs.length,.int kvs.length,[]⟩ H rfl rfl (Zq (λ_ _ h=>h) JQ)
  ·rw[Xe hu]at hf;cases hf
 |_=>rw[hd]at hf;cases hf
section
variable {X:Cx}{pins:List (Addr×Obj)}{σ:L2.St}{H:Hp}{s:Shared}{a b:Addr}{es:List Ent}{A:Around}{E:Value->Shared->Prop}{k:Kd}{r:Value}
theorem vj8{ep:Nat}{Q:Value->Shared->Prop}(hu:A.units+64<cLine)(I:Inv X pins σ H s)(e:H a=some (qx a es ep))(hs:(a==sysModules)=false)(h2:es.length<=sizeLine)(h3:(es.map (·.1)).Nodup)(h5:∀x∈es,PuR X.K H x.1.1 (.ref x.2.1))(hk:PuR X.K H k.1 (.ref b))
  (h1:∀p,atKey es k=some p->∀s',Inv X pins σ H s'->Q p.2 s') (h4:atKey es k=none->∀ep' s',Inv X pins σ (upd H a (qx a (storedH es k b r) ep')) s'->Q r s'):
  wpAny (model X.prog X.w) A (call (.builtin "dict.setdefault") [.ref a,.ref b,r]) Q E s:=by
 have dd:=vkd I e h3 h5;refine call_meetsIn PySem.F.slot_dict_setdefault dd.typeIs PySem.F.entry_dict_setdefault (PySem.F.args_dict_setdefault_3 _ _ _) (jvv (kzq X.prog X.w) a b hs r) ⟨?_,k,es,jzt I hk rfl,dd,h2,λp hp=>h1 p hp _ (I.tok _),λhn h' dd' hss=>?_⟩
 ·exact vq6 hu
 ·obtain⟨q,ds,ep',hq,g2,g3,g4,_,_⟩:=dd';exact h4 hn ep' _ (qwt I (by rw[e];exact True.intro) hss ⟨q,hq⟩ ⟨⟨q,ds,hq,g2,g3,g4⟩,⟨q,hq⟩,λh1 h2 ⟨o,ds,a1,a2⟩ k=>⟨o,ds,k o a1,a2⟩⟩)
end
abbrev qxq(K:PySem.W.Frag)(td ty tx:TE):TE:=fun σ H Q=>td σ H λx H1=>∃a,x=.ref a/\(∃es ep,H1 a=some (qx a es ep))/\ty σ H1 λy H2=>tx σ H2 λz H3=>∃b k es ep,y=.ref b/\H3 a=some (qx a es ep)/\(a==sysModules)=false/\es.length<=sizeLine/\(es.map (·.1)).Nodup/\(∀x∈es,PuR K H3 x.1.1 (.ref x.2.1))/\PuR K H3 k.1 (.ref b) /\
 (∀p,atKey es k=some p->∃v,RelV v p.2/\Q v H3)/\(atKey es k=none->∀r ep',RelV z r->Q z (upd H3 a (qx a (storedH es k b r) ep')))
section
variable {X:Cx}{o e f:Expr}{apos aa:Pos}{td ty tx:TE}
theorem qkd(hu:X.A.units+64<cLine)(ho:PE X o td)(he:PE X e ty)(hf:PE X f tx)(m:M2 X o "setdefault" apos e f aa):PE X (.Call (.Attribute o "setdefault" apos) [e,f] [] aa) (qxq X.K td ty tx):=by
 intro pins s σ H Q I h;refine wpAny_Call_method m.base m.few m.line PySem.F.plainAttrs_dict PySem.F.slot_dict_setdefault PySem.F.type_dict_setdefault (thn (ho pins s σ H _ I h) λu s1 ⟨x,H1,I1,rx,a,ex,⟨es0,ep0,d⟩,q1⟩=>?_);subst ex;obtain rfl:u=Value.ref a:=rx;obtain⟨ob,f9,g1,g2,g3,g4⟩:=vw3 I1 d;refine⟨⟨ob,g1,g2.1⟩,λb z=>by cases z;exact⟨ob,g1,g2.2.1⟩,?_⟩;rw[m.trees];refine Yo rfl (Calls.evalArgs_plain (Calls.spliced_cons (thn (he pins s1 σ H1 _ I1 q1) λiv s2 ⟨y,H2,I2,ry,q2⟩=>
  Calls.spliced_cons (thn (hf pins s2 σ H2 _ I2 q2) λfv s3 ⟨z,H3,I3,rz,b,k,es,ep,ey,ea,hs,hl,hn,h5,hk,q4,q5⟩=>Calls.spliced_nil ?_))))
 subst ey;obtain rfl:iv=Value.ref b:=ry;exact vj8 hu I3 ea hs hl hn h5 hk (λp hp s4 I4=>by obtain⟨v,rv,q3⟩:=q4 p hp;exact⟨v,H3,I4,rv,q3⟩) λcx ep' s4 I4=>⟨z,_,I4,rz,q5 cx fv ep' rz⟩
end
theorem qwd {K : PySem.W.Frag} {H : Hp} {k : Kd}: ∀{kvs : List (D × D)} {xs : List V} {bs : List Addr} {es : List Ent}, RepP K H true kvs xs bs -> kvs.map (·.1) = es.map (·.1.1) -> Vals xs (es.map (·.2.2)) -> D.pures (kvs.map (·.2)) = true ->
    (∀ p, atKey es k = some p -> ∃d v, x6 kvs k.1 = some d /\ RelV v p.2 /\ RepL K H false d v [] /\ d.pure = true) /\ (atKey es k = none -> x6 kvs k.1 = none)
  | [], _, _, [], _, _, _, _=>⟨λp h=>(by cases h), λ_=>rfl⟩
  | [], _, _, _::_, _, h, _, _=>by cases h
  | _ :: _, _, _, [], _, h, _, _=>by cases h
  | (q, d)::kvs, xs, bs, e::es, hr, hk, hv, hp=>by
    unfold RepP at hr;obtain⟨x, r, b1, c1, rfl, _, h1, h2⟩:= hr;rw [List.map_cons, List.map_cons]at hk;injection hk with k1 k2;rw [List.map_cons]at hv hp;cases hv with
    | cons v1 v2=>
      unfold D.pures at hp;rw [Bool.and_eq_true]at hp;have ih:= qwd (k:= k) h2 k2 v2 hp.2;have k1 : q = e.1.1:= k1
      by_cases he : e.1 = k
      · have hq : q = k.1:= by rw[k1, he]
        have hg : x6 ((q, d)::kvs) k.1 = some d:= by unfold x6; rw[List.find?_cons_of_pos (by simp[hq])]; rfl
        have ha : atKey (e::es) k = some e.2:= by
          obtain⟨ek, ev⟩:= e;have he : ek = k:= he;simp[atKey, he]
        refine⟨λp hp'=> ?_, λhn=> ?_⟩
        · rw[ha]at hp'
          cases oq9 hp';exact⟨d, x, hg, v1, (RepL.pu (g':= false) h1 hp.1).2, hp.1⟩
        · rw[ha]at hn; cases hn
      · have hq : q≠k.1:= λz=>he (Subtype.ext (by rw[<-k1]; exact z))
        have hg : x6 ((q, d)::kvs) k.1 = x6 kvs k.1:= by unfold x6; rw[List.find?_cons_of_neg (by simp[hq])]
        have ha : atKey (e::es) k = atKey es k:= by
          obtain⟨ek, ev⟩:= e;have he : ¬ek = k:= he;simp[atKey, he]
        rw[hg, ha];exact ih
section
variable {X:Cx}{Z:Fx0}{pn:List Nat}{q qa:Bool}{kc vc a b:Ex}{o ke ve ea eb:Expr}{pos cw apos aa:Pos}
theorem vxv{i:Nat}(hu:X.A.units+64<cLine)(ho:PE X o (J9 i))(hk:QV X Z true kc ke)(hv:QV X Z true vc ve)(hK:X.K=Z.K:=by rfl)(hm:M2 X o "setdefault" apos ke ve aa:=by exact⟨rfl,rfl,rfl,rfl⟩):QE X Z false (YW i kc vc) (.Call (.Attribute o "setdefault" apos) [ke,ve] [] aa):=
 qX (hK▸qkd hu ho hk hv hm) fun σ H Q af=>ex8 af λE L r m w hc xc k=>by
  unfold YW at hc
  by_cases hD:wkb E[i]?=true
  rotate_left
  ·rw[Xe hD]at hc;cases hc
  rw[Xb hD]at hc;obtain⟨kvs0,h0,hu0⟩:∃kvs,E[i]?=some (some (.rt,.dct kvs))/\unm kvs=true:=by
   unfold wkb at hD
   split at hD
   ·rename_i kvs h;exact⟨kvs,h,hD⟩
   ·cases hD
  obtain⟨x0,a1,a2,a3,a4⟩:=m.get h0;obtain⟨l0,xs0,el0,⟨es0,ep0,hH0,_⟩⟩:=vke (w.ok x0 (wZ a1)) a3 hu0;refine⟨x0.v,a4,l0,el0,⟨es0,ep0,hH0⟩,?_⟩;refine wV m w hc xc λE2 s2 h2 y L2 H2 e3 e4 m2 w2 ig fr2 sr2 bg em=>?_
  refine wV m2 w2 h2 (xc.step bg) λE3 s3 h3 t L3 H3 e5 e6 m3 w3 ok3 nu sr3 cn sm3=>?_
  split at h3
  rotate_left
  ·cases h3
  rename_i kvs hE
  split at h3
  rotate_left
  ·cases h3
  rename_i gh;obtain⟨dk,ae,hunm,jf,hps⟩:=gh;obtain⟨z,b1,b2,b3,b4⟩:=m3.get hE;have hzv:z.v=x0.v:=by rw[a4]at b4;exact(oq9 (oq9 b4)).symm
  have okz:RepR Z.K H3 (.dct kvs) z.v z.as:=by
   have:=w3.ok z (wZ b1);unfold Sl.ok at this;rw[b2,b3]at this;exact this
  obtain⟨l,xs,bs,c1,c2,c3,c4⟩:=okz;have hll:l=l0:=by
   have:V.ref l=V.ref l0:=by rw[<-c1,hzv,el0]
   injection this
  subst hll;obtain⟨es,ep,d1,d2,d3,d4,d5,d6,d7⟩:=DcA.un c3 hunm;have ok2':y.ok Z.K H3:=RepO.kp ig (Kp.of_same (sm3 rfl));obtain⟨b,eb,pb⟩:=kq0 ok2' (by rw[e4];exact dk);have kl:jX 6 y.d=true:=by
   have:xY y.d=true:=by rw[e4];exact dk
   unfold xY at this;rw[Bool.and_eq_true]at this;exact this.1
  have ht:=vjk ok3 (by rw[e6];exact jf);obtain⟨g1,g2⟩:=qwd (k:=⟨y.d,kl⟩) c2 d5 d7 hps;have hyk:(⟨y.d,kl⟩:Kd).1=s2.2:=e4;have fe:es.length<sizeLine:=by
   have:=congrArg List.length d5;rw[X3,X3]at this;rw[<-this];exact ae
  refine⟨b,⟨y.d,kl⟩,es,ep,eb,d1,d2,d3,d4,d6,pb,λp hp=>?_,λhn rr ep' hrr=>?_⟩
  ·obtain⟨d,v',q1,q2,q3,q4⟩:=g1 p hp;rw[hyk]at q1;rw[q1]at h3;cases oq9 h3;exact⟨v',q2,k _ _ rfl ⟨.dp,d,v',[]⟩ L3 H3 rfl rfl m3 (w3.consPu q3 rfl) (J3 (x:=⟨.dp,d,v',[]⟩) (bg.trans cn) (λb hb=>nomatch hb) rfl) λz=>nomatch z⟩
  ·have q1:=g2 hn;rw[hyk]at q1;rw[q1]at h3;cases oq9 h3;have on:=vki es (⟨y.d,kl⟩:Kd);rw[hn]at on;have hnm:y.d∉es.map (·.1.1):=of_decide_eq_false on.symm;rw[storedH_new hn];have rt:RepL Z.K H3 true s3.2 t.v []:=by rw[<-e6];exact(RepL.pu (g':=true) (RepO.wk ok3) (by rw[e6];exact jf)).2
   have rp:=kw0 (q:=s2.2) rt c2;rw[Xp]at rp;obtain⟨w4,ix⟩:=qqx (ep':=ep') (T:=[]) (i:=i) (y:=z) (es':=es++[(⟨y.d,kl⟩,b,rr)]) (xs':=xs++[t.v]) (cs:=bs) (kvs':=kvs++[(s2.2,s3.2)]) (by simpa using w3) b1 d1 b2 c4 c1 rp (λa h=>.inl h) d2 (by rw[Xn,List.length_singleton];omega) (by
    rw[Xx,X6];refine⟨d4,List.nodup_cons.mpr ⟨Xm,Xr⟩,λp hp' q hq e=>?_⟩;have:q=⟨y.d,kl⟩:=List.mem_singleton.mp hq;subst this e;obtain⟨n,nw,hn2⟩:=List.mem_map.mp hp';exact hnm (List.mem_map.mpr ⟨n,nw,by rw[hn2]⟩)) (by rw[Xx,Xx,d5,<-e4];rfl) (λn hn'=>by
    rcases List.mem_append.mp hn' with z|z
    ·exact d6 n z
    ·rw[List.mem_singleton.mp z];exact pb) (by rw[Xx];exact kvl d7 hrr)
   have ht2:RepL Z.K (upd H3 l (qx l (es++[(⟨y.d,kl⟩,b,rr)]) ep')) false s3.2 t.v []:=by
    rw[<-e6];refine ht.kp ⟨λa zs e=>?_,λa o u e=>?_,λa ha=>nomatch ha⟩
    ·rw[qz (λz=>by subst z;rw[d1]at e;cases e)];exact e
    ·rw[qz (λz=>by subst z;rw[d1]at e;cases e)];exact e
   have mm:=m3.set (x:=⟨.rt,.dct (kvs++[(s2.2,s3.2)]),z.v,l::bs⟩) i;rw[xK b4]at mm;exact k _ _ rfl ⟨.dp,s3.2,t.v,[]⟩ _ _ rfl rfl mm (w4.consPu ht2 rfl) (J3 (x:=⟨.dp,s3.2,t.v,[]⟩) ((bg.trans cn).trans (by simpa using ix)) (λb hb=>nomatch hb) rfl) λz=>nomatch z
end
end Q
namespace Q
open PySem PySem.Spec PyProof.Rows L2 L3
def spM(K:PySem.W.Frag)(mg:Str->Option Value)(n:Nat)(f:Fn):Sp:=λvs H Q E=>∃(xs:List Sl) (y:Sl) (r:Res Sd),vs=xs.map Sl.v++[y.v]/\xs.length=n/\World K H ((xs++[y]).map some)/\f ((xs++[y]).map Sl.sd)=some r /\
 (∀E' c,r=.exc E' c->∀C H',mg c=some (.ref C)->Step H ((xs++[y]).map some) H' []->E (.ref C) none H') /\
 ∀E' a,r=.ok E' a->∃sd,E'[n]?=some (some sd)/\∀(x y':Sl) H',x.o=a.1->x.d=a.2->y'.o=sd.1->y'.d=sd.2->y'.v=y.v->World K H' [some x,some y']->Step H ((xs++[y]).map some) H' [some x,some y']->Q x.v H'
theorem qqd{K:PySem.W.Frag}{mg:Str->Option Value}{n:Nat}{f:Fn}{ps:List Str}(hn:ps.length=n+1):∀vs H Q E,spM K mg n f vs H Q E->vs.length=ps.length:=λvs H Q E ⟨xs,y,r,e,hl,_⟩=>by rw[e,Xn,X3,hl,hn];rfl
theorem kqh{L:Ls}{x y:Sl}{i:Nat}(h:L[i]?=some (some y)):(sls [some x,some y]).Sublist (sls (some x::L)):=by
 have:y∈sls L:=mem_sls.mpr (wZ h);show(x::[y]).Sublist (x::sls L);exact(List.singleton_sublist.mpr this).cons₂ x
theorem qwj{X:Cx}{K:PySem.W.Frag}{mg:Str->Option Value}{N:List Str}{n nn:Nat}{B:Sm}{body:List Stmt}{H:Hp}{vs:List V}{Q:VK}{E:XK}(hN:N.length=nn)(t:QSs X ⟨K,mg,E⟩ [n] B body)(h:spM K mg n (fn nn B) vs H Q E):
  ∃t,PSs X body t/\t { nx:=λ_ H'=>Q .non H',rt:=Q } (L2.start N vs) H:=by
 refine⟨_,t,?_⟩;obtain⟨xs,y,r,rfl,hl,w,hf,hx,hk⟩:=h;unfold fn at hf;rw[X3,Yf]at hf;have m:=jzv (xs++[y]) (nn - (xs++[y]).length);have e1:L2.start N (xs.map Sl.v++[y.v])=(xs++[y]).map (λx=>some x.v)++List.replicate (nn - (xs++[y]).length) none:=by
  unfold L2.start;rw[show xs.map Sl.v++[y.v]=(xs++[y]).map Sl.v by simp,Yf,X3,hN];rfl
 have hy0:(L2.start N (xs.map Sl.v++[y.v]))[n]?=some (some y.v):=by
  rw[e1,Y9 (by simp[hl])];simp[hl]
 have wL:World K H ((xs++[y]).map some++List.replicate (nn - (xs++[y]).length) none):=w.same (by simp);have sL:Step H ((xs++[y]).map some) H ((xs++[y]).map some++List.replicate (nn - (xs++[y]).length) none):=Step.refl.same (List.Perm.refl _) (by simp);have fin:∀{E1:En} {σ':L2.St} {L':Ls} {sd:Sd},E1[n]?=some (some sd)->Pn [n] (L2.start N (xs.map Sl.v++[y.v])) σ'->Mt E1 σ' L'->∃y':Sl,L'[n]?=some (some y')/\y'.o=sd.1/\y'.d=sd.2/\y'.v=y.v:=λhE p m'=>by
  obtain⟨y',a1,a2,a3,a4⟩:=m'.get hE;refine⟨y',a1,a2,a3,?_⟩;have:=p n (List.mem_singleton.mpr rfl);rw[a4,hy0]at this;exact oq9 (oq9 this)
 cases hB:B ((xs++[y]).map (λx=>some x.sd)++List.replicate (nn - (xs++[y]).length) none)with
 | none=>rw[show(some∘Sl.sd)=(λx:Sl=>some x.sd)from rfl,hB]at hf;cases hf
 | some g=>
  rw[show(some∘Sl.sd)=(λx:Sl=>some x.sd)from rfl,hB]at hf;refine⟨_,_,g,e1▸m,wL,hB,?_⟩;cases g with
  |nx E1=>
   cases oq9 hf;intro σ' L' H' p m' w' s';obtain⟨sd,hE,hk⟩:=hk _ _ rfl;obtain⟨y',b1,b2,b3,b4⟩:=fin hE p m';have wx:World K H' (some (⟨.dp,.non,.non,[]⟩:Sl)::L'):=w'.consPu (show RepL K H' false .non .non []from kqo) rfl;have sx:Step H ((xs++[y]).map some) H' (some (⟨.dp,.non,.non,[]⟩:Sl)::L'):=J3 (x:=⟨.dp,.non,.non,[]⟩) (sL.trans s') (λb hb=>(nomatch hb)) rfl;exact hk ⟨.dp,.non,.non,[]⟩ y' H' rfl rfl b2 b3 b4 (wx.sub (kqh b1)) (sx.sub (kqh b1))
  |rt E1 a=>
   cases oq9 hf;intro x σ' L' H' e2 e3 p m' w' s';obtain⟨sd,hE,hk⟩:=hk _ _ rfl;obtain⟨y',b1,b2,b3,b4⟩:=fin hE p m';exact hk x y' H' e2 e3 b2 b3 b4 (w'.sub (kqh b1)) ((sL.trans s').sub (kqh b1))
  |xc E1 c=>
   cases oq9 hf;intro C σ' L' H' hm _ m' w' s';exact hx _ _ rfl C H' hm ((sL.trans s').sub (by simp))
  |ct E1=>cases hf
  |bk E1=>cases hf
def tAM(Z:Fx0)(q:Bool)(cs:List Ex)(i:Nat):TA:=fun σ H Q=>∃E L r,Mt E σ L/\World Z.K H L/\qJ cs E=some r/\Xc Z σ H L r /\
 ∀E' ys,r=.ok E' ys->∀(xs:List Sl) L' H',xs.map Sl.sd=ys->Mt E' σ L'->World Z.K H' (xs.map some++L')->Step H L H' (xs.map some++L')->(q=true->k8 H H'/\∀b∈j7 (xs.map some),H b=none)->∃v,σ[i]?=some (some v)/\Q (xs.map Sl.v++[v]) H'
section
variable {X:Cx}{Z:Fx0}{q:Bool}{c:Ex}{cs:List Ex}{e:Expr}{es:List Expr}{pos p:Pos}{x:Str}{ps:List Str}{k n i:Nat}{f:Fn}
theorem wvs(h:PE X e (J9 i))(b7:starEach [e] X.env=(false,eval e X.env)::starEach [] X.env:=by rfl):PA X [e] (tAM Z q [] i):=W9 (x5 h xj b7) fun σ H Q af=>ex8 af λE L r m w hc xc k=>by
 cases oq9 hc;obtain⟨v,hv,q⟩:=k _ _ rfl [] L H rfl m w Step.refl λ_=>⟨λ_ _ z=>z,λ_ z=>(nomatch z)⟩
 exact⟨v,hv,q⟩
theorem wk8(h:QE X Z q c e)(hs:PA X es (tAM Z q cs i))(b7:starEach (e::es) X.env=(false,eval e X.env)::starEach es X.env:=by rfl):PA X (e::es) (tAM Z q (c::cs) i):=
 W9 (x5 h hs b7) fun σ H Q af=>ex8 af λE L r m w hc xc k=>by
  refine W6 m w (show bnd (c E) _=some r from hc) xc λE1 s h1 x L1 H1 e1 e2 m1 w1 st sm=>?_
  have s1:Step H L H1 L1:=st.trans Step.drop;rcases wW h1 with⟨E2,ys,h2,h3⟩|⟨E2,cc,h2,h3⟩
  ·cases oq9 h3;refine⟨E1,L1,_,m1,w1.tail,h2,(λ_ _ z=>by cases z),λE' qs z xs L2 H2 e3 m2 w2 bg em=>?_⟩;injection z with z1 z2;subst z1 z2;obtain⟨w3,cn⟩:=Z5 (T:=[some x]) w1 bg w2;refine k _ _ rfl (x::xs) L2 H2 (by rw[List.map_cons,e3];simp[Sl.sd,e1,e2]) m2 w3 (st.trans cn) λhq=>?_
   obtain⟨a1,a2⟩:=sm hq;obtain⟨b1,b2⟩:=em hq;refine⟨qK a1 b1,λb hb=>?_⟩;rw[List.map_cons,jJ]at hb;rcases List.mem_append.mp hb with z|z
   ·exact a2 b z
   ·exact xX a1 (b2 b z)
  ·exact⟨E1,L1,_,m1,w1.tail,h2,(xc.step s1).map h3,λE' s' z=>by cases z⟩
theorem qxw{L:Ls}{y:Sl}(h:L[i]?=some (some y)):(sls L).Perm (y::sls (L.set i none)):=by
 have:=(Z2 h).filterMap id;exact this
theorem qqw(D:kZ X.prog X.w X.K X.mg X.base k x ps (spM Z.K Z.mg n f))(hr:Room k X.A)(g:x8 X Z.EX)(ha:PA X (e::es) (tAM Z q cs i))(hn:cs.length=n:=by rfl)(hg:Gl X x:=by rfl)(cu:(x==("__debug__":Str))=false:=by decide)
  (he:starEach (e::es) X.env=(false,eval e X.env)::starEach es X.env:=by rfl) (bt:(backTo pos (starEach es X.env)).any (·.1)=false:=by rfl):
  QE X Z false (V5 f i cs) (.Call (.Name x p) (e::es) [] pos):=qX (qv6 D hr g ha hg cu he bt) fun σ H Q af=>ex8 af λE L r m w hc xc kk=>by
 rcases wW (show bnd (qJ cs E) _=some r from hc)with⟨E1,ys,h1,h2⟩|⟨E1,cc,h1,h2⟩
 rotate_left
 ·exact⟨E,L,_,m,w,h1,xc.map h2,λE' s' z=>by cases z⟩
 refine⟨E,L,_,m,w,h1,(λ_ _ z=>by cases z),λE' qs z xs L1 H1 e1 m1 w1 st sm=>?_⟩;injection z with z1 z2;subst z1 z2;have ae:xs.length=n:=by rw[<-hn,<-Z6 h1,<-e1,X3]
 have hyl:ys.length=n:=by rw[<-hn];exact Z6 h1
 split at h2
 rotate_left
 ·cases h2
 rename_i x0 hE;obtain⟨o0,d0⟩:=x0;obtain⟨y,a1,a2,a3,a4⟩:=m1.get hE;refine⟨y.v,a4,?_⟩;dsimp only;rw [Xp];obtain⟨wl,sl⟩:=jxs w1;have pm:(sls ((xs.map Sl.let).map some++L1)).Perm (sls ((xs.map Sl.let++[y]).map some++L1.set i none)):=by
  have e2:∀A B:Ls,sls (A++B)=sls A++sls B:=λA B=>List.filterMap_append ..
  rw[Xx,Xq,e2,e2];exact List.Perm.append_left _ (qxw a1)
 have wl2:=wl.same pm;have lp:Step H L H1 ((xs.map Sl.let++[y]).map some++L1.set i none):=(st.trans sl).trans (Step.refl.same (List.Perm.refl _) pm);cases hf:f (letAll ys++[(o0,d0)])with
 | none=>rw[hf]at h2;cases h2
 | some fr=>
  rw[hf]at h2;refine⟨xs.map Sl.let,y,fr,by rw[Yf];rfl,by rw[X3];exact ae,wl2.left,?_,λE' c ee C H' hm s'=>?_,λE' a ee=>?_⟩
  ·rw[Xx,kv2,e1];show f (letAll ys++[(y.o,y.d)])=some fr;rw[a2,a3];exact hf
  ·subst ee;cases oq9 h2;obtain⟨w2,s2⟩:=stay wl2 s' ⟨λ_ z=>(nomatch z),Xr,λ_ z=>(nomatch z)⟩;exact xc _ _ rfl C _ H' hm (Vk i m1) w2 (lp.trans s2)
  ·subst ee;dsimp only at h2
   split at h2
   rotate_left
   ·cases h2
   rename_i x' hE';cases oq9 h2;rw[hyl]at hE';refine⟨x',hE',λx y' H' e2 e3 e4 e5 e6 w' s'=>?_⟩;obtain⟨w2,s2⟩:=stay wl2 s' w';have m4:([some x,some y']++L1.set i none).Perm (some y'::(some x::L1.set i none)):=List.Perm.swap ..;have w3:=(w2.perm m4).set (i:=i+1);rw[List.set_cons_succ,List.set_set]at w3;have s3:Step H L H' (some x::L1.set i (some y')):=by
    have:=(lp.trans (s2.perm (List.Perm.refl _) m4)).trans (Step.set (i:=i+1));rw[List.set_cons_succ,List.set_set]at this;exact this
   have mm:=Q3 (i:=i) (x:=y') (s:=x') m1 e4 e5;rw[e6,xK a4]at mm;exact kk _ _ rfl x _ H' e2 e3 mm w3 s3 λz=>nomatch z
end
end Q
namespace Q
open PySem PySem.Spec PyProof.Rows L2 L3
abbrev vx3(K:PySem.W.Frag)(UC:Addr)(tb:XK->TS)(ts:TS):TS:=λD σ H=>∃E:XK,tb E D σ H/\∀x Cv H',E Cv none H'->H' x=none->∃C,Cv=.ref C/\PySem.W.exmOne K (.ref C) (.ref UC)=some true/\XCls K C/\ts D σ H'
theorem vqp{X:Cx}{ux:Str}{np jo pos:Pos}{UC:Addr}{st b0:Stmt}{gi:List Stmt}{tb:XK->TS}{ts:TS}(top:z8 X)(hU:X.mg ux=some (.ref UC))(hb:PSX X st tb)
  (hs:∀x,PSs (tX X x) (b0::gi) ts) (hg:Gl X ux:=by rfl) (cu:(ux==("__debug__":Str))=false:=by decide):
  PS X (.Try [st] [.ExceptHandler (some (.Name ux np)) none (b0::gi) jo] [] [] pos) (vx3 X.K UC tb ts):=by
 intro pins s σ H D I ⟨E,h1,h2⟩;refine wpAny_Try_except (wpAny_execs_cons (wpAny_mono (hb E pins s σ H D I h1) (λf s1 q=>?_) (λe s1 q=>?_)))
 ·cases f with
  |next=>exact wpAny_execs_nil (wpAny_execs_nil q)
  |ret v=>exact q
  |brk=>exact q
  |cont=>exact q
 ·obtain⟨H',x,Cv,rfl,I1,f1,q1⟩:=q;refine qja top rfl I1 f1 λL T s2 _ t2=>jxb t2 λs3 t3=>?_
  obtain⟨C,rfl,hm,xc,ht⟩:=h2 x Cv H' q1 t3.fx.1;refine wpAny_handleBy_cons (codeAny_handlers_test ?_) (λz=>nomatch z);obtain⟨vs,ho,hv⟩:=t3.f.ex;have I3:Inv (tX X x) pins σ H' s3:=vk9 t3.inv;refine kv3 I3 hg hU ?_ cu;have at3:PySem.W.InstAt s3.heap x { cls:=.ref C,data:=.fields vs } C none:=⟨ho,rfl,rfl,trivial⟩;refine Lk (PySem.W.exm_one t3.inv.kIn at3.type hm) ?_;show codeAny _ _ _ _ s3;refine codeAny_handlers_suite (jxb t3 λs4 t4=>?_);have I4:Inv (tX X x) pins σ H' s4:=vk9 t4.inv;refine wpAny_mono (hs x pins s4 _ _ _ I4 ht) (λf s6 q=>?_) λ_ _ z=>z.elim
  have bk:∀{σ6:L2.St} {H6:Hp},Inv (tX X x) pins σ6 H6 s6->Inv X pins σ6 H6 s6:=λz=>vvr I.ok z
  cases f with
  |next=>
   obtain⟨σ6,H6,I6,q6⟩:=q;exact⟨_,_,bk I6,q6⟩
  |brk=>
   obtain⟨σ6,H6,I6,q6⟩:=q;exact⟨_,_,bk I6,q6⟩
  |cont=>
   obtain⟨σ6,H6,I6,q6⟩:=q;exact⟨_,_,bk I6,q6⟩
  |ret v=>
   obtain⟨v',σ6,H6,I6,r6,q6⟩:=q;exact⟨v',_,_,bk I6,r6,q6⟩
section
variable {X:Cx}{Z:Fx0}{pn:List Nat}{q:Bool}{b:Ex}{e:Expr}{pos:Pos}
theorem qq8{UC:Addr}{cs:List Str}{B h:Sm}{tb:XK->TS}{D:Ends}{σ:L2.St}{H:Hp}(hK:X.K=Z.K)(ca:kx9 X.K Z.mg UC cs)
  (hb:∀(EX:XK) E L r,Mt E σ L->World Z.K H L->B E=some r->(∀E' c,r=.xc E' c->∀C L' H',Z.mg c=some (.ref C)->Mt E' σ L'->World Z.K H' L'->Step H L H' L'->EX (.ref C) none H')->((∀E' c,r≠.xc E' c)->FlP Z pn D σ H L r)->tb EX D σ H)
  (hr:tS Z pn (Kv cs B h) D σ H):vx3 X.K UC tb (tS ⟨Z.K,Z.mg,λ_ _ _=>False⟩ pn h) D σ H:=by
 obtain⟨E,L,r,m,w,hr,k⟩:=hr;have hr:Kv cs B h E=some r:=hr;cases hB:B E with
 | none=>unfold Kv at hr;rw[hB]at hr;cases hr
 | some rb=>
  refine⟨λCv _ H'=>∃E1 c C L1,rb=.xc E1 c/\Cv=.ref C/\Z.mg c=some (.ref C)/\Mt E1 σ L1/\World Z.K H' L1/\Step H L H' L1,hb _ E L rb m w hB (λE' c e C L' H' hm m' w' st=>⟨E',c,C,L',e,rfl,hm,m',w',st⟩) (λcx=>?_),?_⟩
  ·unfold Kv at hr;rw[hB]at hr;cases rb with
   | xc E1 c1=>exact absurd rfl (cx E1 c1)
   | nx E1=>cases oq9 hr;exact k
   | ct E1=>cases oq9 hr;exact k
   | bk E1=>cases oq9 hr;exact k
   | rt E1 x=>cases oq9 hr;exact k
  ·rintro x Cv H' ⟨E1,c,C,L1,rfl,rfl,hm,m1,w1,gw⟩ hx;unfold Kv at hr;rw[hB]at hr;dsimp only at hr
   by_cases hc:c∈cs
   ·rw[Xb hc]at hr;obtain⟨C',g1,g2,g3,g4⟩:=ca c hc;rw[hm]at g1;cases oq9 g1;refine⟨C,rfl,g3,g4,?_⟩;cases hh:h E1 with
    |none=>rw[hh]at hr;cases hr
    |some rh=>
     rw[hh]at hr;have k2:=k.step gw Pn.refl;refine⟨E1,L1,rh,m1,w1,hh,?_⟩;cases rh with
     |xc E2 c2=>cases hr
     |nx E2=>cases oq9 hr;exact k2
     |ct E2=>cases oq9 hr;exact k2
     |bk E2=>cases oq9 hr;exact k2
     |rt E2 x=>cases oq9 hr;exact k2
   ·rw[Xe hc]at hr;cases hr
theorem vxt{ux:Str}{np jo jg:Pos}{UC:Addr}{b0:Stmt}{gi:List Stmt}{cs:List Str}{h:Sm}(top:z8 X)(hU:X.mg ux=some (.ref UC))(hK:X.K=Z.K)(ca:kx9 X.K Z.mg UC cs)(hb:QEX X Z q b e)
  (hs:∀x,QSs (tX X x) ⟨Z.K,Z.mg,λ_ _ _=>False⟩ pn h (b0::gi)) (i3:swapsWith e none pos.line X.env=pure false:=by rfl) (hg:Gl X ux:=by rfl) (cu:(ux==("__debug__":Str))=false:=by decide):
  QS X Z pn (Kv cs (qxz b) h) (.Try [.Expr e pos] [.ExceptHandler (some (.Name ux np)) none (b0::gi) jo] [] [] jg):=
 xk (vqp top hU (qz7 hb i3) hs hg cu) λD σ H hr=>qq8 hK ca (λEX E L r m w hB hx hk=>by
  have hB:ofE (b E) (λE _=>some (.nx E))=some r:=hB;rcases jx7 hB with⟨E1,s,h1,h2⟩|⟨E1,c,h1,rfl⟩
  ·cases oq9 h2;refine⟨E,L,_,m,w,h1,(λ_ _ z=>by cases z),λE' s' z x L' H' e1 e2 m' w' st sm=>?_⟩;injection z with z1 z2;subst z1 z2;exact hk (λ_ _ z=>nomatch z) σ L' H' Pn.refl m' w'.tail (st.trans Step.drop)
  ·exact⟨E,L,_,m,w,h1,(λE' c' e C L' H' hm m' w' st=>by injection e with z1 z2;subst z1 z2;exact hx _ _ rfl C L' H' hm m' w' st),λE' s' z=>by cases z⟩) hr
theorem RepA.rev{K:PySem.W.Frag}{H:Hp}{g:Bool}:∀{ds:List D} {xs:List V} {bs:List Addr},RepA K H g ds xs bs->∃cs,RepA K H g ds.reverse xs.reverse cs/\∀a∈cs,a∈bs
 |[],xs,bs,h=>⟨bs,by unfold RepA at h;obtain⟨rfl,rfl⟩:=h;unfold RepA;exact⟨rfl,rfl⟩,λ_ h=>h⟩
 |d::ds,xs,bs,h=>by
  unfold RepA at h;obtain⟨x,r,b1,c1,rfl,rfl,h1,h2⟩:=h;obtain⟨cs,r2,hc⟩:=RepA.rev h2;rw[List.reverse_cons,List.reverse_cons];refine⟨cs++b1,RepA.snoc h1 r2,λa ha=>?_⟩;rcases List.mem_append.mp ha with z|z
  ·exact lr9 _ (hc a z)
  ·exact ll9 _ z
theorem wkv{o:Expr}{i:Nat}(ho:PE X o (J9 i))(hK:X.K=Z.K:=by rfl)(hm:MtR X "list.reverse" qj3){apos aa cj:Pos}
  (ao:attributeBase o "reverse" X.env (eval o X.env)=eval o X.env:=by rfl) (ak:(apos.endLine==aa.line)=true:=by rfl)
  (i3:swapsWith (.Call (.Attribute o "reverse" apos) [] [] aa) none cj.line X.env=pure false:=by rfl):
  QS X Z pn (QY i) (.Expr (.Call (.Attribute o "reverse" apos) [] [] aa) cj):=
 xk (kja (qv9 Z.K Ym PySem.F.slot_list_reverse PySem.F.type_list_reverse hm ho ao ak hK) i3) λDe σ H af=>ex7 af λE L r m w bj k=>by
 unfold QY at bj
 split at bj
 rotate_left
 ·cases bj
 rename_i ds hE;cases oq9 bj;obtain⟨y,a1,a2,a3,a4⟩:=m.get hE;have oky:RepR Z.K H (.lst ds) y.v y.as:=by
  have:=w.ok y (wZ a1);unfold Sl.ok at this;rw[a2,a3]at this;exact this
 obtain⟨l,xs,bs,c1,c2,c3,c4⟩:=oky;obtain⟨cs,r2,hc⟩:=c2.rev;obtain⟨w2,s2⟩:=kxj (T:=[]) (o':=.rt) (ds':=ds.reverse) (xs':=xs.reverse) (by simpa using w) a1 c3 c4 (by unfold Sl.own;rw[a2,c4];simp) c1 r2 (.inl ⟨rfl,λa ha=>.inl (hc a ha)⟩);refine⟨y.v,a4,by rw[c1];exact kzl c3,l,xs,c1,rfl,c3,?_⟩;have mm:=m.set (x:=⟨.rt,.lst ds.reverse,y.v,l::cs⟩) i;rw[xK a4]at mm;exact k σ _ _ Pn.refl mm w2 (by simpa using s2)
end
end Q
namespace Q
open PySem PySem.Spec PyProof.Rows L2 L3
theorem qw0{P:Program}{w:PySem.World}{K:PySem.W.Frag}{mg mb:Str->Option Value}{CX:CXT}{k:Nat}{fa a:Addr}{fd:FuncData}{x:Str}{sp:Sp}{s₁:Shared}{vs:List Value}{ns:List Int}
  (KX:K.In s₁.heap) (hns:s₁.heap.Ns mainGlobals mg) (hb:s₁.heap.Ns builtinsNs mb) (pj:∀x:Str,x≠"__name__"->mb x=bootBuiltins x) (hlim:s₁.heap.NoLimit) (hg:s₁.gens=#[])
  (ha:s₁.heap.get? a=some { cls:=.type "list",data:=.seq vs.toArray }) (hi:IntsAre vs ns) (hl:ns.length<=sizeLine) (hr:Room k callerA)
  (F:∀base:Heap,K.In base->base.Ns mainGlobals mg->FnOk P w K mg base CX k fa fd [x] sp) (px:∀(s:Shared) (u:Value),BindsTo s fd ⟨[u],[]⟩ [(x,u)])
  (js:∀H:Hp,wv8 H->LsR K H a (ns.map V.int)->sp [.ref a] H (λv _=>v=.bl true) λ_ _ _=>False)
  (hCX:∀H e s',CX [] H s₁ (λ_ _ _=>False) e s'->False):
  codeAny (model P w) callerA (.call (.ref fa) ⟨[.ref a],[]⟩) (λr s'=>r=.ok (.ret (.bool true))/\OldK s₁.heap s'.heap/\s'.os=s₁.os/\AllBare s'.gens) s₁:=by
 have rv:=kvn hi;have lenV:=hi.length;have ju:∀H:Hp,wv8 H->LsR K H a (ns.map V.int)->HOk P w H s₁.heap->(∀b,H b≠none->b=a)->(H a≠none->K.lookup a=none) ->
   codeAny (model P w) callerA (.call (.ref fa) ⟨[.ref a],[]⟩) (λr s'=>r=.ok (.ret (.bool true))/\OldK s₁.heap s'.heap/\s'.os=s₁.os/\AllBare s'.gens) s₁:=by
  intro H hO hS hok hA hK;have ik:∀{b:Addr} {o:Obj},s₁.heap.get? b=some o->H b=none->(JY s₁.heap H).get? b=some o:=λe n=>qzy e n
  have oj:∀{b:Addr} {o:Obj} {es:Array DictEntry} {ep:Nat},s₁.heap.get? b=some o->o.data=.dict es ep->H b=none:=fun {b o es ep} e d=>by
   cases q:H b with
   | none=>rfl
   | some u=>
    have e':b=a:=hA b (by rw[q];simp);subst e';rw[ha]at e;cases e;have d':Data.seq vs.toArray _=Data.dict es ep:=d;cases d'
  have nsK:∀{b:Addr} {m:Str->Option Value},s₁.heap.Ns b m->(JY s₁.heap H).Ns b m:=fun {b m} ⟨o,es,ep,e,d,r⟩=>⟨o,es,ep,ik e (oj e d),d,r⟩
  have hKb:K.In (JY s₁.heap H):=λb o e=>ik (KX b o e) (by
   cases q:H b with
   | none=>rfl
   | some u=>
    have e':b=a:=hA b (by rw[q];simp);subst e';rw[hK (by rw[q];simp)]at e;cases e)
  have hM:Mod K mg (JY s₁.heap H):=⟨hKb,nsK hns,⟨mb,nsK hb,pj⟩,let ⟨mc,h1,h2⟩:=hlim;⟨mc,nsK h1,h2⟩⟩;have e0:Env0 P w K mg (JY s₁.heap H) callerA [] s₁ H:=⟨rfl,hM,λb o e=>vvd e,Nat.le_of_eq (qwb _ _),trivial,λb hb=>absurd (show b∈([]:List Addr)from hb) (by simp),hok,.of_eq hg⟩;refine codeAny_mono ((F _ hKb (nsK hns)).run callerA [] s₁ H ⟨[.ref a],[]⟩ [.ref a] [.ref a] _ _ hr e0 (px s₁ (.ref a)) (.cons rfl .nil) (js H hO hS)) λr s' h=>?_
  cases r with
  | error e=>exact(hCX H e s' h).elim
  | ok fl=>
   cases fl with
   | next=>exact False.elim h
   | brk=>exact False.elim h
   | cont=>exact False.elim h
   | ret u=>
    obtain⟨v,H',os,bare,un,hok',r',q⟩:=h;have q':v=.bl true:=q;subst q';obtain rfl:u=Value.bool true:=r';refine⟨rfl,OldK.of_keep λb o e=>?_,os,bare⟩;cases q:H b with
    | none=>exact un.keep b o e q (by intro z;exact absurd (show b∈([]:List Addr)from z) (by simp)) (by simp)
    | some u=>
     rcases hO b with z|⟨ob,xs,z⟩
     ·rw[q]at z;cases z
     ·have z2:=un.frzs b ob _ z;obtain⟨e1,_⟩:=hok b _ z;obtain⟨e2,_⟩:=hok' b _ z2;rw[e]at e1;cases e1;exact e2
 cases hk:K.lookup a with
 | some o=>
  have e:=KX a o hk;rw[ha]at e;cases e;refine ju (λ_=>none) (λ_=>.inl rfl) (.inr ⟨vs.toArray,_,hk,by rw[X7,lenV];exact hl,by simpa using rv⟩) (λb u z=>by have z':(none:Option HO)=some u:=z;cases z') (λb z=>absurd rfl z) λz=>absurd rfl z
 | none=>
  refine ju (λb=>if b=a then some (.frz { cls:=.type "list",data:=.seq vs.toArray } (.lst (ns.map V.int)))else none) (λb=>?_) (.inl (.inr ⟨{ cls:=.type "list",data:=.seq vs.toArray },Xb rfl⟩)) (λb u z=>?_) (λb z=>?_) λ_=>hk
  ·by_cases hb:b=a
   ·exact .inr ⟨_,_,Xb hb⟩
   ·exact .inl (Xe hb)
  ·by_cases hb:b=a
   ·have z':=(Xb hb).symm.trans z;cases z';subst hb;exact⟨ha,by rw[X3];exact hl,vs,_,rv,ha⟩
   ·have z':=(Xe hb).symm.trans z;cases z'
  ·by_cases hb:b=a
   ·exact hb
   ·exact absurd (Xe hb) z
@[elab_as_elim] theorem ww0 {P:List Value->Prop}(us:List Value)(e:us.length=1)(h:∀a,P [a]):P us:=by
 cases us with
 |nil=>cases e
 |cons a us=>cases List.eq_nil_of_length_eq_zero (Nat.succ.inj e);exact h a
@[elab_as_elim] theorem wvz {P:List Value->Prop}(us:List Value)(e:us.length=2)(h:∀a b,P [a,b]):P us:=by
 cases us with
 |nil=>cases e
 |cons a us=>exact ww0 (P:=λl=>P (a::l)) us (Nat.succ.inj e) λb=>h a b
@[elab_as_elim] theorem wvy {P:List Value->Prop}(us:List Value)(e:us.length=3)(h:∀a b c,P [a,b,c]):P us:=by
 cases us with
 |nil=>cases e
 |cons a us=>exact wvz (P:=λl=>P (a::l)) us (Nat.succ.inj e) λb c=>h a b c
@[elab_as_elim] theorem wvx {P:List Value->Prop}(us:List Value)(e:us.length=4)(h:∀a b c d,P [a,b,c,d]):P us:=by
 cases us with
 |nil=>cases e
 |cons a us=>exact wvy (P:=λl=>P (a::l)) us (Nat.succ.inj e) λb c d=>h a b c d
@[elab_as_elim] theorem wvw {P:List Value->Prop}(us:List Value)(e:us.length=5)(h:∀a b c d f,P [a,b,c,d,f]):P us:=by
 cases us with
 |nil=>cases e
 |cons a us=>exact wvx (P:=λl=>P (a::l)) us (Nat.succ.inj e) λb c d f=>h a b c d f
@[elab_as_elim] theorem len6 {P:List Value->Prop}(us:List Value)(e:us.length=6)(h:∀a b c d f g,P [a,b,c,d,f,g]):P us:=by
 cases us with
 |nil=>cases e
 |cons a us=>exact wvw (P:=λl=>P (a::l)) us (Nat.succ.inj e) λb c d f g=>h a b c d f g
theorem jxv{K:PySem.W.Frag}{H:Hp}{g:Bool}:∀(ns:List Int),RepA K H g (ns.map D.int) (ns.map V.int) []
 |[]=>by unfold RepA;exact⟨rfl,rfl⟩
 |n::ns=>by
  rw[List.map_cons,List.map_cons];unfold RepA;exact⟨_,_,[],[],rfl,rfl,JQ,jxv ns⟩
theorem wj7{K:PySem.W.Frag}{mg:Str->Option Value}{f:Fn}{H:Hp}{a:Addr}{ns:List Int}(h:∃E o,f [(.no,.lst (ns.map D.int))]=some (.ok E (o,.bl true)))(hs:LsR K H a (ns.map V.int))(hO:wv8 H):
  spF K mg 1 f [.ref a] H (λv _=>v=.bl true) λ_ _ _=>False:=by
 obtain⟨E,o,h⟩:=h;have key:∃as,RepL K H true (.lst (ns.map D.int)) (.ref a) as/\(∀b∈as,False):=by
  rcases hs with(hs|⟨ob,hs⟩)|hs
  ·rcases hO a with z|⟨_,_,z⟩<;>(rw[hs]at z;cases z)
  ·refine⟨[],?_,λb hb=>nomatch hb⟩;unfold RepL;exact⟨a,ns.map V.int,[],rfl,jxv ns,.inr ⟨rfl,.inl ⟨ob,hs⟩,rfl⟩⟩
  ·refine⟨[],?_,λb hb=>nomatch hb⟩;unfold RepL;exact⟨a,ns.map V.int,[],rfl,jxv ns,.inr ⟨rfl,.inr hs,rfl⟩⟩
 obtain⟨as,r,hn⟩:=key;refine⟨[⟨.no,.lst (ns.map D.int),.ref a,as⟩],_,rfl,rfl,?_,h,(λE' c z=>by cases z),λE' s z x H' e1 e2 w' st=>?_⟩
 ·exact⟨λx hx=>by rw[oq9 (List.mem_singleton.mp hx)];exact r,by simp[Sl.own],λb hb=>by simp[Sl.own]at hb⟩
 ·injection z with z1 z2;subst z2;exact W0 w'.head e2
section
open PySem.W PySem.Calls
theorem walkQ{l:OpenLaw}{n k:Nat}{q:Program}{qW:List Str}{XP:(Str->Option Value)->Heap->Prop}{YP:PySem.World->Heap->Prop}{d:DefRec}{K:Params->Frag}{f:Fn}{x:Str}
  (hn:l.most=some n) (hn2:n<=sizeLine) (hdf:d.params.defaults=[]) (hr:Room k callerA)
  (hY:∀(w:PySem.World) (h:Heap),YP w h->(K w.params).In h)
  (F:∀(w:PySem.World) (mg:Str->Option Value) (fa:Addr) (h:Heap),(K w.params).In h->h.Ns mainGlobals mg->mg d.name=some (.ref fa) ->
   ∃fd:FuncData,(∀(s:Shared) (u:Value),BindsTo s fd ⟨[u],[]⟩ [(x,u)])/\∀base:Heap,(K w.params).In base->base.Ns mainGlobals mg->FnOk l.prog w (K w.params) mg base (CXE l.prog w) k fa fd [x] (spF (K w.params) mg 1 f))
  (js:∀(ns:List Int),ns.length<=n->(∀i∈ns,Builtin.Int.intBits i<=1048576)->∃E o,f [(.no,.lst (ns.map D.int))]=some (.ok E (o,.bl true))):
  WalkO q qW XP YP l.row.toRowW d [] (λf vs=>PySem.call f vs):=by
 intro w s0 s1 mg mb G Y fa o pm cd fq dV kV ho hd i7 hD hmg hg args mv as lq hlay hrd qu hlo;obtain rfl:dV=.none:=Dflts.none hD hdf;obtain rfl:kV=.none:=Dflts.noKw hD;obtain⟨a,vs,ns,rfl,rfl,hobj,p7,ae⟩:=Att.script_of hn lq qu;have ou:=kzg hlay;have KX:=hY w _ Y;obtain⟨fd,hb,hF⟩:=F w mg fa _ KX G.T.g hmg;refine enter_call (codeAny_mono (qw0 KX G.T.g G.T.b G.T.builtins G.T.nolimit hg hobj p7 (Y0 ae hn2) hr hF hb (λH hO hS=>wj7 (js ns ae ou) hS hO) (λ_ _ _ ⟨_,_,_,_,_,_,_,_,_,_,_,_,_,_,_,z⟩=>z)) λr s' hq=>?_);obtain⟨rfl,h2,h3,h4⟩:=hq;exact⟨.inl ⟨.bool true,.bool true,[],rfl,λ_=>rfl,.bool true,Att.post_true l _,λ_=>⟨List.Pairwise.nil,λ_ hm=>(nomatch hm)⟩⟩,h2,h3,h4⟩
end
end Q
namespace Q
open PySem PySem.Spec PyProof.Rows L2 L3
section
variable {P:Program}{w:PySem.World}{K:PySem.W.Frag}{mg:Str->Option Value}{base h:Heap}{x:Str}{st:Stmt}{ps:List Str}{k:Nat}{sp:Sp}
def Gf(K:PySem.W.Frag)(x:Str)(st:Stmt):Prop:=∃(f:Addr) (oc:Value) (od:Option Addr) (kV dc pm:Value) (an:Option Addr) (cd ct:Value) (sl:Array (Option Value)),PySem.W.nsIn K mainGlobals x=some (some (.ref f))/\K.lookup f=some ⟨oc,od,.func (PySem.W.fnOf x x (Q7 st) (Q2 st) (kQ st) .none kV dc pm an cd ct),sl⟩/\PySem.W.codeIn K cd x=true/\PySem.W.keepIn K (.ref f)=true
theorem Gf.mk{f:Addr}{oc:Value}{od:Option Addr}{kV dc pm:Value}{an:Option Addr}{cd ct:Value}{sl:Array (Option Value)}(a:PySem.W.nsIn K mainGlobals x=some (some (.ref f)))(l:K.lookup f=some ⟨oc,od,.func (PySem.W.fnOf x x (Q7 st) (Q2 st) (kQ st) .none kV dc pm an cd ct),sl⟩)(c:PySem.W.codeIn K cd x=true)(k:PySem.W.keepIn K (.ref f)=true):Gf K x st:=⟨f,oc,od,kV,dc,pm,an,cd,ct,sl,a,l,c,k⟩
theorem Gf.d(g:Gf K x st)(X:K.In h)(G:h.Ns mainGlobals mg)(ok:∀{f:Addr} {fd:FuncData},Fun K x x st f fd->FnOk P w K mg base (CXE P w) k f fd ps sp)
  (hb:∀(kV fq pm:Value) (an:Option Addr) (av ct:Value) (us:List Value),us.length=ps.length->bindArgs (PySem.W.fnOf x x (Q7 st) (Q2 st) (kQ st) .none kV fq pm an av ct) ⟨us,[]⟩=pure (ps.zip us):=by
   intro _ _ _ _ _ _ us hl
   first
   |exact ww0 us hl λ_=>rfl
   |exact wvz us hl λ_ _=>rfl
   |exact wvy us hl λ_ _ _=>rfl
   |exact wvx us hl λ_ _ _ _=>rfl
   |exact wvw us hl λ_ _ _ _ _=>rfl
   |exact len6 us hl λ_ _ _ _ _ _=>rfl):kZ P w K mg base k x ps sp:=by
 obtain⟨f,oc,od,kV,dc,pm,an,cd,ct,sl,a,l,c,kp⟩:=g;exact⟨f,_,ok (qwf l c kp),(qwf l c kp).binds hb,kp,PySem.W.mg_of X G a⟩
theorem Gf.law{fa:Addr}{y:Str}(g:Gf K "law" st)(X:K.In h)(G:h.Ns mainGlobals mg)(il:mg "law"=some (.ref fa))(ok:∀{base:Heap} {f:Addr} {fd:FuncData},Fun K "law" "law" st f fd->FnOk P w K mg base (CXE P w) k f fd [y] sp)
  (hb:∀(kV fq pm:Value) (an:Option Addr) (av ct:Value) (s:Shared) (v:Value),BindsTo s (PySem.W.fnOf "law" "law" (Q7 st) (Q2 st) (kQ st) .none kV fq pm an av ct) ⟨[v],[]⟩ [(y,v)]:=by
   intros
   exact .of_eq rfl):
  ∃fd:FuncData,(∀(s:Shared) (v:Value),BindsTo s fd ⟨[v],[]⟩ [(y,v)])/\∀base:Heap,K.In base->base.Ns mainGlobals mg->FnOk P w K mg base (CXE P w) k fa fd [y] sp:=by
 obtain⟨f,oc,od,kV,dc,pm,an,cd,ct,sl,a,l,c,kp⟩:=g;have e:=il.symm.trans (PySem.W.mg_of X G a);cases e;exact⟨_,hb kV dc pm an cd ct,λbase _ _=>ok (qwf l c kp)⟩
end
end Q
namespace Q
open PySem L2
theorem mkS{N P:List Str}{sc:Scope}(h1:sc.kind=.function:=by rfl)(h2:sc.isCoroutine=false:=by rfl)(h3:sc.isGenerator=false:=by rfl)(h4:N.Nodup:=by decide +kernel)(h5:N.take P.length=P:=by rfl)(h6:∀x∈P,sc.names.lookup x=some .local\/sc.names.lookup x=some .cell:=by decide +kernel)(h7:∀y∈sc.names,y.2≠.free:=by decide +kernel):FnScope N P sc:=⟨h1,h2,h3,h4,h5,h6,h7⟩
end Q
namespace Q
open PySem PySem.Spec PyProof.Rows L2 L3
section
variable {X:Cx}{Z:Fx0}{pn:List Nat}{q qa:Bool}{a b c:Ex}{e ea eb:Expr}{pos p:Pos}
theorem kI{z:Int}{j}:QE X Z true (cC (.int z)) (.Constant (.int z) j p):=q_C vjx λ_=>JQ
theorem ki{z:Int}{j}:QV X Z true (vE (cC (.int z))) (.Constant (.int z) j p):=j8 kI
theorem kN{j}:QE X Z true (cC .non) (.Constant .none j p):=q_C vjw λ_=>kqo
theorem kn{j}:QV X Z true (vE (cC .non)) (.Constant .none j p):=j8 kN
theorem kS{z:Str}{j}(h:z.length<=sizeLine:=by decide):QE X Z true (cC (.str z)) (.Constant (.str z) j p):=q_C vjv λ_=>kj8 h
theorem ks{z:Str}{j}(h:z.length<=sizeLine:=by decide):QV X Z true (vE (cC (.str z))) (.Constant (.str z) j p):=j8 (kS h)
theorem vv(i:Nat){x:Str}(hN:X.N[i]?=some x:=by rfl)(hv:Vis X.env.scope x:=by first|exact Or.inl rfl|exact Or.inr (Or.inl rfl)|exact Or.inr (Or.inr rfl))(hd:(x==("__debug__":Str))=false:=by decide)
  (i7:(x==("__classdict__":Str))=false:=by decide):QV X Z true (vV i) (.Name x pos):=q_vV (pv i hN hv hd i7)
theorem cv(i:Nat){x:Str}(hN:X.N[i]?=some x:=by rfl)(hv:Vis X.env.scope x:=by first|exact Or.inl rfl|exact Or.inr (Or.inl rfl)|exact Or.inr (Or.inr rfl))(hd:(x==("__debug__":Str))=false:=by decide)
  (i7:(x==("__classdict__":Str))=false:=by decide):QE X Z true (cV i) (.Name x pos):=q_V (pv i hN hv hd i7)
theorem kx(ha:QV X Z qa a ea)(hb:QV X Z true b eb)(hs:kvk eb:=by exact λ_ _=>rfl)(hK:X.K=Z.K:=by rfl):QV X Z qa (j3 a b) (.Subscript ea eb pos):=q_ix ha hb hs hK
theorem qA{i:Nat}{y:Str}{cw:Pos}(hN:X.N.Nodup)(h:QE X Z q a ea)(hi:X.N[i]?=some y:=by rfl)(hx:Loc X.env.scope y:=by first|exact Or.inl rfl|exact Or.inr rfl)(hp:i∉pn:=by decide)(hs:swapsWith ea (some (.Name y cw)) pos.line X.env=pure false:=by rfl)(hf:X.fn y=true\/X.env.scope.names.lookup y=some .local:=by first|exact .inl rfl|exact .inr rfl|assumption):
  QS X Z pn (j6 i a) (.Assign [.Name y cw] ea pos):=wq0 hN hi hx h hp hs hf
theorem gn{i:Nat}{x:Str}(hN:X.N.Nodup)(hi:X.N[i]?=some x:=by rfl)(hx:Loc X.env.scope x:=by first|exact Or.inl rfl|exact Or.inr rfl)(hf:X.fn x=true\/X.env.scope.names.lookup x=some .local:=by first|exact .inl rfl|exact .inr rfl|assumption):PG X (.Name x pos) (W3 i):=JK hN hi hx hf
theorem gN{i:Nat}{x:Str}(hN:X.N.Nodup)(hi:X.N[i]?=some x:=by rfl)(hx:Loc X.env.scope x:=by first|exact Or.inl rfl|exact Or.inr rfl)(hf:X.fn x=true\/X.env.scope.names.lookup x=some .local:=by first|exact .inl rfl|exact .inr rfl|assumption)(hp:i∉pn:=by decide):QG X Z pn (.n i) (.Name x pos):=YJ (JK hN hi hx hf) hp
theorem qC{k m n:Nat}{x:Str}{ps:List Str}{f:Fn}{cs:List Ex}{es:List Expr}(D:kZ X.prog X.w X.K X.mg X.base k x ps (spF Z.K Z.mg n f))(hr:Room m X.A)(ha:QA X Z q cs (e::es))(g:x8 X Z.EX:=by exact K7)(fe:k<=m:=by decide)(hn:cs.length=n:=by rfl)(hg:Gl X x:=by rfl)(cu:(x==("__debug__":Str))=false:=by decide)
  (he:starEach (e::es) X.env=(false,eval e X.env)::starEach es X.env:=by rfl) (bt:(backTo pos (starEach es X.env)).any (·.1)=false:=by rfl):
  QE X Z q (jK f cs) (.Call (.Name x p) (e::es) [] pos):=vz0 D (hr.mono fe) g ha hn hg cu he bt
theorem qF{tg iter:Expr}{ss:List Stmt}{it:Ev (List D)}{t:Tg}{B:Sm}(hi:QI X Z q tg it iter)(hg:QG X Z pn t tg)(hb:QSs X Z pn B ss)(hp:PassesOwn (model X.prog X.w) X.A X.env X.xe:=by exact qzh ⟨_,_,rfl,rfl⟩)(hc:X.calm=true:=by rfl)(hs:∀x,foldedSetIterable iter X.env x=pure x:=by intro _;rfl):QS X Z pn (qQ it t B) (.For tg iter ss [] pos):=wky hp hc hi hg hb hs
theorem oA(ha:QV X Z qa a ea)(hb:QV X Z true b eb)(hK:X.K=Z.K:=by rfl):QE X Z qa (cF2 jq a b) (.BinOp ea .Add eb pos):=Wj (vzq hK) wk0 ha hb
theorem oX(ha:QV X Z qa a ea)(hb:QV X Z true b eb)(hK:X.K=Z.K:=by rfl):QE X Z qa (cF2 jY a b) (.BinOp ea .Mult eb pos):=Wj (vzo hK) vwg ha hb
theorem oM(ha:QV X Z qa a ea)(hb:QV X Z true b eb):QE X Z qa (cF2 (pu2 kW) a b) (.BinOp ea .Mod eb pos):=Wj vzm wjx ha hb
theorem qP{i:Nat}{x:Str}{apos aa xp:Pos}(h:QE X Z q c e)(hN:X.N[i]?=some x:=by rfl)(hv:Vis X.env.scope x:=by first|exact Or.inl rfl|exact Or.inr (Or.inl rfl)|exact Or.inr (Or.inr rfl))(hd:(x==("__debug__":Str))=false:=by decide)
  (i7:(x==("__classdict__":Str))=false:=by decide) (ao:attributeBase (.Name x xp) "append" X.env (eval (.Name x xp) X.env)=eval (.Name x xp) X.env:=by rfl)
  (d8:((backTo aa (starEach [e] X.env)).all (λx=>!x.1)&&(backToKw aa (keywordEach [] X.env)).all (λx=>x.1.isSome)
   && decide ([e].length+([]:List Keyword).length+(if([]:List Keyword).isEmpty then 0 else 1)<30))=true:=by rfl)
  (ak:(apos.endLine==aa.line)=true:=by rfl) (hs:starEach [e] X.env=(false,eval e X.env)::starEach [] X.env:=by rfl) (au:(backTo aa (starEach [] X.env)).any (·.1)=false:=by rfl) (hK:X.K=Z.K:=by rfl)
  (i3:swapsWith (.Call (.Attribute (.Name x xp) "append" apos) [e] [] aa) none pos.line X.env=pure false:=by rfl):
  QS X Z pn (k9 kj i c) (.Expr (.Call (.Attribute (.Name x xp) "append" apos) [e] [] aa) pos):=wq1 (qv8 Z.K Ym PySem.F.slot_list_append PySem.F.type_list_append jx8 (pv i hN hv hd i7) (x5 h xj hs) ao d8 ak hs au hK) i3
theorem qL(ha:QV X Z q a ea)(hm:X.mg "len"=none)(hK:X.K=Z.K:=by rfl)(hg:Gl X "len":=by rfl)(he:starEach [ea] X.env=(false,eval ea X.env)::starEach [] X.env:=by rfl)(bt:(backTo pos (starEach [] X.env)).any (·.1)=false:=by rfl):QE X Z q (cF1 (pu1 kX) a) (.Call (.Name "len" p) [ea] [] pos):=XQ (hK▸vw7 X.K) wjy ha hm qx8 hg (by decide) (by decide) he bt
theorem qT(ha:QV X Z q a ea)(hm:X.mg "tuple"=none)(hK:X.K=Z.K:=by rfl)(hg:Gl X "tuple":=by rfl)(he:starEach [ea] X.env=(false,eval ea X.env)::starEach [] X.env:=by rfl)(bt:(backTo pos (starEach [] X.env)).any (·.1)=false:=by rfl):QE X Z q (cF1 x3 a) (.Call (.Name "tuple" p) [ea] [] pos):=J4 (qx3 hK) vje ha hm qjw hg (by decide) (by decide) he bt
variable {iter dm tg:Expr}{db:List Expr}{scope:Scope}{it:Ev (List D)}{tt:Tg}{u:Ts}
theorem qm(o:Own)(k:Nat)(R:List Nat)(m:Nat)(N:List Str)(hi:QI X Z q tg it iter)
  (hg:N.Nodup->∀cl C s0 H0 fp,QG (lcE X scope N cl C s0 H0 fp Z.EX) Z ((List.range R.length).map (k + ·)) tt tg) (ht:∀cl C s0 H0 fp,PTs (lcE X scope N cl C s0 H0 fp Z.EX) db (tT Z q u)) (he:∀cl C s0 H0 fp,QE (lcE X scope N cl C s0 H0 fp Z.EX) Z q c dm)
  (hN:N.Nodup:=by decide +kernel) (gx:x8 X Z.EX:=by exact K7) (top:z8 X:=by exact⟨_,_,rfl,rfl⟩) (hR:R.Nodup:=by decide) (hm:X.N.length=m:=by rfl) (hr:∀j∈R,j<m:=by decide) (hc:X.calm=true:=by rfl) (hk:scope.kind=.function:=by rfl) (jd:Qx X.N X.env.scope scope N k R=true:=by rfl) (hs:∀x,foldedSetIterable iter X.env x=pure x:=by intro _;rfl):
  QE X Z q (cLC o k R it tt u c) (.ListComp dm [⟨tg,iter,db,0⟩] scope pos):=wvt N hi (hg hN) ht he gx top hR (hm▸hr) hc hk jd hs
theorem qM{x:Str}{p':Pos}(o:Own)(k:Nat)(R:List Nat)(m:Nat)(N:List Str)(hi:QI X Z q (.Name x p') it iter)(he:∀cl C s0 H0 fp,QE (lcE X scope N cl C s0 H0 fp Z.EX) Z q c dm)
  (hN:N.Nodup:=by decide +kernel) (gx:x8 X Z.EX:=by exact K7) (top:z8 X:=by exact⟨_,_,rfl,rfl⟩) (hR:R.Nodup:=by decide) (hm:X.N.length=m:=by rfl) (hr:∀j∈R,j<m:=by decide) (hc:X.calm=true:=by rfl) (hk:scope.kind=.function:=by rfl) (jd:Qx X.N X.env.scope scope N k R=true:=by rfl) (hs:∀x,foldedSetIterable iter X.env x=pure x:=by intro _;rfl)
  (hg:N.Nodup->∀cl C s0 H0 fp,QG (lcE X scope N cl C s0 H0 fp Z.EX) Z ((List.range R.length).map (k + ·)) (.n 0) (.Name x p'):=by exact λh _ _ _ _ _=>YJ (JK (i:=0) h rfl (by first|exact Or.inl rfl|exact Or.inr rfl))):
  QE X Z q (cLC o k R it (.n 0) tYes c) (.ListComp dm [⟨.Name x p',iter,[],0⟩] scope pos):=wvt N hi (hg hN) (λ_ _ _ _ _=>vqb) he gx top hR (hm▸hr) hc hk jd hs
end
end Q
namespace Q
open PySem PySem.Spec PyProof.Rows L2 L3
theorem World.put1{K:PySem.W.Frag}{H:Hp}{M:Ls}{y:Sl}{ds:List D}{v:D}{v':V}(w:World K H (some y::M))(ho:y.o=.dp)(hd:y.d=.lst ds)(hp:v.pure=true)(hr:∀H,RepL K H false v v' []):∃l xs,y.v=.ref l/\H l=some (.lst xs)/\xs.length=ds.length /\
  ∃z:Sl,z.o=.dp/\z.d=.lst (ds++[v])/\z.v=y.v/\World K (upd H l (.lst (xs++[v']))) (some z::M)/\Step H (some y::M) (upd H l (.lst (xs++[v']))) (some z::M):=by
 have w1:World K H (some ⟨.dp,v,v',[]⟩::some y::M):=w.consPu (hr H) rfl;have s1:Step H (some y::M) H (some ⟨.dp,v,v',[]⟩::some y::M):=J3 (x:=⟨.dp,v,v',[]⟩) Step.refl (λb hb=>nomatch hb) rfl;have pm:(some (⟨.dp,v,v',[]⟩:Sl)::some y::M).Perm (some y::some ⟨.dp,v,v',[]⟩::M):=List.Perm.swap ..;obtain⟨l,xs,a1,a2,a3,z,b1,b2,b3,b4,b5⟩:=World.app (x:=⟨.dp,v,v',[]⟩) (w1.perm pm) ho hd hp;exact⟨l,xs,a1,a2,a3,z,b1,b2,b3,b4,(s1.perm (List.Perm.refl _) pm).trans b5⟩
section
variable {X:Cx}{Z:Fx0}{pn:List Nat}{q:Bool}{c:Ex}{e ep:Expr}{i:Nat}{p:List Nat}{pos:Pos}
theorem vqf{r s j:Nat}{v:D}{v':V}{tg tg2 er es:Expr}(hp:PassesOwn (model X.prog X.w) X.A X.env X.xe)(hcm:X.calm=true)(hP:PE X ep (tP Z.K i p))(hg:PG X tg (W3 r))(hR:PE X er (tP Z.K r [j]))(n8:PG X tg2 (W3 s))(hS:PE X es (tP Z.K s []))(hc:PE X e (tC v'))(i6:∀H,RepL Z.K H false v v' [])(hK:X.K=Z.K:=by rfl)(hm:MtR X "list.append" ZQ){apos aa cj fpos qt:Pos}
  (rg:r≠i:=by decide) (his:s≠i:=by decide) (ly:r≠s:=by decide) (hpn:r∉pn:=by decide) (hpn2:s∉pn:=by decide)
  (ao:attributeBase es "append" X.env (eval es X.env)=eval es X.env:=by rfl)
  (d8:((backTo aa (starEach [e] X.env)).all (λx=>!x.1)&&(backToKw aa (keywordEach [] X.env)).all (λx=>x.1.isSome)
   && decide ([e].length+([]:List Keyword).length+(if([]:List Keyword).isEmpty then 0 else 1)<30))=true:=by rfl)
  (ak:(apos.endLine==aa.line)=true:=by rfl) (hs:starEach [e] X.env=(false,eval e X.env)::starEach [] X.env:=by rfl) (au:(backTo aa (starEach [] X.env)).any (·.1)=false:=by rfl)
  (i3:swapsWith (.Call (.Attribute es "append" apos) [e] [] aa) none cj.line X.env=pure false:=by rfl) (m5:∀x,foldedSetIterable ep X.env x=pure x:=by intro _;rfl) (hfs2:∀x,foldedSetIterable er X.env x=pure x:=by intro _;rfl):
  QS X Z pn (ZX i r s p j v) (.For tg ep [.For tg2 er [.Expr (.Call (.Attribute es "append" apos) [e] [] aa) cj] [] qt] [] fpos):=
 xk (qv1 hp hcm (qv5 hP) hg (kxk (qv1 hp hcm (qv5 hR) n8 (kxk (kja (qv8 Z.K Ym PySem.F.slot_list_append PySem.F.type_list_append hm hS (x5 hc xj hs) ao d8 ak hs au hK) i3)) hfs2)) m5) λDe σ H af=>ex7 af λE L rr m w bj k=>by
 unfold ZX at bj
 split at bj
 rotate_left
 ·cases bj
 rename_i d hE
 split at bj
 rotate_left
 ·cases bj
 rename_i ds dl
 split at bj
 rotate_left
 ·cases bj
 rename_i hrE;obtain⟨hrE,hsE,hpu⟩:=hrE
 split at bj
 rotate_left
 ·cases bj
 rename_i de hea;cases oq9 bj;obtain⟨y,a1,a2,a3,a4⟩:=m.get hE;obtain⟨w0,s0⟩:=jzq w a1;have m0:=Vk s (Vk r (Vk i m));obtain⟨wa,sa⟩:=World.out1 r w0.tail;obtain⟨wb,sb⟩:=World.out1 s wa;obtain⟨w0,s0'⟩:=Z5 (T:=[some y]) w0 (sa.trans sb) wb;have s0:=s0.trans s0';generalize hL0:((L.set i none).set r none).set s none=L0 at *;generalize hE0:((E.set i none).set r none).set s none=E0 at *;obtain⟨y1,b1,b2,b3,b4,b5⟩:=World.hole w0 a2 (by rw[a3];exact dl);obtain⟨l,xs0,bs,c1,c2,_,_,c5⟩:=VY (b4.ok y1 X2) b2 b1;refine⟨y.d,y.v,y1.v,a4,b3,l,c1,⟨xs0,.inl (.inl c2)⟩,?_⟩;have hE0r:E0[r]?=some none:=by
  rw [<-hE0,Xs ly.symm,Y1 (by simpa using hrE)]
 have hE0s:E0[s]?=some none:=by
  rw [<-hE0,Y1 (by simpa using hsE)]
 have hL0r:L0[r]?=some none:=by
  rw [<-hL0,Xs ly.symm,Y1 (by have:=m.len.1;have:=m.len.2;simp;omega)]
 have hL0s:L0[s]?=some none:=by
  rw [<-hL0,Y1 (by have:=m.len.1;have:=m.len.2;simp;omega)]
 have mr:∀(u:Option V) (σ1:L2.St),Mt E0 σ1 L0->Mt E0 (σ1.set r u) L0:=λu σ1 h=>by
  have:=vzy (u:=u) r h;rw [xK hE0r,xK hL0r]at this;exact this
 have ms:∀(u:Option V) (σ1:L2.St),Mt E0 σ1 L0->Mt E0 (σ1.set s u) L0:=λu σ1 h=>by
  have:=vzy (u:=u) s h;rw [xK hE0s,xK hL0s]at this;exact this
 refine⟨λk0 n σ1 H1=>∃(z:Sl) (gm:List Q.D),k0<=ds.length/\n=ds.length - k0/\Mt E0 σ1 L0/\World Z.K H1 (some z::L0)/\z.o=.dp/\z.d=.lst gm/\z.v=y1.v/\Step H (some y1::L0) H1 (some z::L0)/\Vx j v (ds.length - k0) k0 (.lst gm)=some de/\gm.length=ds.length/\σ1[i]?=some (some y.v)/\Pn pn σ σ1/\r < σ1.length/\s < σ1.length,
  ⟨_,y1,ds,Xv _,rfl,m0,b4,b1,b2,rfl,Step.refl,hea,rfl,a4,Pn.refl,by rw[<-m.len.1];exact hrE,by rw[<-m.len.1];exact hsE⟩,?_⟩
 rintro k0 n σ1 H1 ⟨z,gm,hk,rfl,m1,w1,z1,z2,z3,gw,hea1,hl1,hs1,hpn1,hrS,hsS⟩;obtain⟨l',xs,ce,d1,d2,_,_,d5⟩:=VY (w1.ok z X2) z2 z1;have hll:l'=l:=by rw[z3,c1]at d1;exact(V.ref.inj d1).symm
 subst hll;have hxl:xs.length=ds.length:=by rw[<-d5.len,hl1]
 by_cases az:k0<ds.length
 ·refine .inr ⟨⟨xs,xs[k0]'(by omega),.inl (.inl d2),X1 _⟩,fun σ2 H2=>∃m',m'<ds.length - k0/\_,fun σ' H' h=>h,λx H' hy=>?_⟩;obtain⟨rfl,hyx⟩:=hy;have hx:xs[k0]?=some x:=hyx xs (.inl (.inl d2));obtain⟨n,hn⟩:∃n,ds.length - k0=n+1:=⟨ds.length - k0 - 1,by omega⟩;rw [hn]at hea1;unfold Vx at hea1
  split at hea1
  rotate_left
  ·cases hea1
  rename_i es1 hat2
  split at hea1
  rotate_left
  ·cases hea1
  rename_i de2 kg;obtain⟨y2,f1,f2,f3,f4,f5⟩:=w1.hole z1 (by rw[z2];exact hat2);rw [z2]at f3;obtain⟨la,xs2,x2,dx,g1,g2,g3,g4,g5⟩:=f3;have e1:la=l':=by rw[d1]at g1;exact(V.ref.inj g1).symm
  subst e1;have e2:xs2=xs:=by rw[d2]at g2;cases g2;rfl
  subst e2;have e3:x2=x:=by rw[hx]at g3;exact(oq9 g3).symm
  subst e3;obtain⟨lb,ys,bb,q1,q2,_,_,_⟩:=VY (f4.ok y2 X2) f2 f1;have sg:(σ1.set r (some x2))[r]?=some (some x2):=Y1 hrS;refine⟨dx,x2,y2.v,sg,g5,lb,q1,⟨ys,.inl (.inl q2)⟩,?_⟩;refine⟨λm0 n σ3 H3=>∃(z':Sl) (jt:List Q.D),m0<=es1.length/\n=es1.length - m0/\Mt E0 σ3 L0/\World Z.K H3 (some z'::L0)/\z'.o=.dp/\z'.d=.lst jt/\z'.v=y2.v/\Step H' (some y2::L0) H3 (some z'::L0)/\V6 v (es1.length - m0) m0 (.lst jt)=some de2/\jt.length=es1.length/\σ3[i]?=some (some y.v)/\Pn pn σ σ3/\r < σ3.length/\s < σ3.length,
   ⟨_,y2,es1,Xv _,rfl,mr _ _ m1,f4,f1,f2,rfl,Step.refl,kg,rfl,by rw[Xs rg];exact hs1,hpn1.set hpn,by rw[Xz];exact hrS,by rw[Xz];exact hsS⟩,?_⟩
  rintro k1 n3 σ3 H3 ⟨z',jt,hk',rfl,m3,w3,t1,t2,t3,cn,hin3,ij,n9,hpn3,hrS3,hsS3⟩;obtain⟨lc,zs,cs,i1,i2,_,_,i5⟩:=VY (w3.ok z' X2) t2 t1;have hlc:lc=lb:=by rw[t3,q1]at i1;exact(V.ref.inj i1).symm
  subst hlc;have jl:zs.length=es1.length:=by rw[<-i5.len,ij]
  by_cases hlt3:k1<es1.length
  ·refine .inr ⟨⟨zs,zs[k1]'(by omega),.inl (.inl i2),X1 _⟩,fun σ2 H2=>∃m',m'<es1.length - k1/\_,fun σ' H' h=>h,λx' H'' hy'=>?_⟩;obtain⟨rfl,hyx'⟩:=hy';have lf:zs[k1]?=some x':=hyx' zs (.inl (.inl i2));obtain⟨n3,hn3⟩:∃n3,es1.length - k1=n3+1:=⟨es1.length - k1 - 1,by omega⟩;rw[hn3]at hin3;unfold V6 at hin3
   split at hin3
   rotate_left
   ·cases hin3
   rename_i ds3 hat3
   split at hin3
   rotate_left
   ·cases hin3
   rename_i ae;obtain⟨y3,u1,u2,u3,u4,u5⟩:=w3.hole t1 (by rw[t2];exact hat3);rw[t2]at u3;obtain⟨ld,xs4,x4,dx4,v1,v2,v3,v4,v5⟩:=u3;have e1:ld=lc:=by rw[i1]at v1;exact(V.ref.inj v1).symm
   subst e1;have e2:xs4=zs:=by rw[i2]at v2;cases v2;rfl
   subst e2;have e3:x4=x':=by rw[lf]at v3;exact(oq9 v3).symm
   subst e3;have v5:y3.v=x4:=v5;obtain⟨l3,xs3,h1,h2,h3,zn,n1,n2,n3',n4,n5⟩:=World.put1 u4 u1 u2 hpu i6;obtain⟨zz,o1,o2,o3,o4,o5⟩:=u5 _ _ zn n4 n5 n1 n3';have sg3:(σ3.set s (some x4))[s]?=some (some x4):=Y1 hsS3;refine⟨dx4,x4,y3.v,sg3,v5,by rw[h1];exact kzl h2,?_⟩;refine⟨l3,xs3,v',h1,rfl,h2,by rw[h3];exact ae,es1.length - (k1+1),by omega,zz,jt.set k1 (.lst (ds3++[v])),by omega,rfl,ms _ _ m3,o4,o1,?_,o3.trans t3,cn.trans o5,?_,by rw[Xz];exact ij,?_,hpn3.set hpn2,by rw[Xz];exact hrS3,by rw[Xz];exact hsS3⟩
   ·rw[o2,n2,t2];show(match jt[k1]? with|some d=>Q.D.lst (jt.set k1 _)|none=>_)=_;rw[v4];rfl
   ·have e4:es1.length - (k1+1)=n3:=by omega
    rw[e4];have e5:Q.D.put (.lst (ds3++[v])) [k1] (.lst jt)=.lst (jt.set k1 (.lst (ds3++[v]))):=by
     show(match jt[k1]? with|some d=>Q.D.lst (jt.set k1 _)|none=>_)=_;rw[v4];rfl
    rw[<-e5];exact hin3
   ·rw[Xs his];exact n9
  ·have ov:k1=es1.length:=by omega
   refine .inl ⟨⟨zs,.inl (.inl i2),by omega⟩,?_⟩;rw[ov,Nat.sub_self]at hin3;unfold V6 at hin3;have hde2:=oq9 hin3;obtain⟨z'',o1,o2,o3,o4,o5⟩:=f5 _ _ z' w3 cn t1 t3;have e5:Q.D.put de2 [k0,j] (.lst gm)=.lst (gm.set k0 (Q.D.put de2 [j] dx)):=by
    show(match gm[k0]? with|some d=>Q.D.lst (gm.set k0 (Q.D.put _ [j] d))|none=>_)=_;rw[g4]
   refine⟨ds.length - (k0+1),by omega,z'',gm.set k0 (Q.D.put de2 [j] dx),by omega,rfl,m3,o4,o1,?_,o3.trans z3,gw.trans o5,?_,by rw[Xz];exact hl1,n9,hpn3,hrS3,hsS3⟩
   ·rw[o2,t2,hde2,z2];exact e5
   ·have e4:ds.length - (k0+1)=n:=by omega
    rw[e4,<-e5];exact hea1
 ·have ov:k0=ds.length:=by omega
  refine .inl ⟨⟨xs,.inl (.inl d2),by omega⟩,?_⟩;rw[ov,Nat.sub_self]at hea1;unfold Vx at hea1;cases oq9 hea1;obtain⟨y',g1,g2,g3,g4,g5⟩:=b5 _ _ z w1 gw z1 z3;have mm:=Q3 (i:=i) (x:=y') (s:=(.dp,Q.D.put (.lst gm) p d)) m1 g1 (by rw[g2,z2,a3]);rw[g3,xK hs1]at mm;exact k σ1 _ _ hpn1 mm g4.set (s0.trans (g5.trans Step.set))
end
end Q
namespace Q
open PySem
def out(f:Fn)(xs:List Sd):Option (Sd ⊕ Str):=match f xs with
 |some (.ok _ y)=>some (.inl y)
 |some (.exc _ c)=>some (.inr c)
 |none=>none
theorem vk4(n:Nat)(h:300<=n):(10:Nat) ^ 70<2 ^ n:=Xg (show(10:Nat) ^ 70<2 ^ 240 by decide) (Nat.pow_le_pow_right (by decide) (by omega))
theorem wj1:(10:Nat) ^ 70<2 ^ 4096:=vk4 4096 (by decide)
theorem mul_l{o1 o2:Own}{a b:Int}(h1:-18446744073709551616<a)(h2:a<18446744073709551616):zV (o1,.int a) (o2,.int b)=some (.dp,.int (a*b)):=by
 have:JV a b=true:=by
  have:qqg a=true:=by unfold qqg;rw[Xd (show -(2 ^ 64)<a by omega),Xd (show a<2 ^ 64 by omega)];rfl
  unfold JV;rw[this];rfl
 show(if JV a b=true then _ else _)=_;rw[Xb this]
theorem wqg{o1 o2:Own}{a b:Int}(h1:-(10 ^ 70)<a)(h2:a<10 ^ 70)(h3:-(10 ^ 70)<b)(h4:b<10 ^ 70):zV (o1,.int a) (o2,.int b)=some (.dp,.int (a*b)):=by
 have lg:∀{c:Int},c.natAbs<10 ^ 70->c.natAbs.log2<2000000:=fun {c} h=>by
  rcases Nat.eq_zero_or_pos c.natAbs with h0|hp
  ·rw[h0];decide
  ·exact Nat.lt_trans ((Nat.log2_lt (Nat.ne_of_gt hp)).mpr (Nat.lt_trans h wj1)) (by decide)
 have ha:a.natAbs.log2<2000000:=lg (by omega);have hb:b.natAbs.log2<2000000:=lg (by omega);have:JV a b=true:=by unfold JV;rw[Xd ha,Xd hb];simp
 show(if JV a b=true then _ else _)=_;rw[Xb this]
theorem add_i{o1 o2:Own}{a b:Int}:jq (o1,.int a) (o2,.int b)=some (.dp,.int (a+b)):=rfl
theorem sub_i{a b:Int}:fSub (.int a) (.int b)=some (.int (a - b)):=rfl
theorem div_i{a b:Int}(h:0<b)(h2:b<10 ^ 70):z6 (.int a) (.int b)=some (.int (a / b)):=by
 have hb:b.natAbs.log2<9000:=by
  exact(Nat.log2_lt (by omega)).mpr (Nat.lt_trans (show b.natAbs<10 ^ 70 by omega) (vk4 9000 (by decide)))
 show(if 0<b/\b.natAbs.log2<9000 then some (a / b)else none).map _=_;rw[Xb ⟨h,hb⟩];rfl
theorem mod_i{a b:Int}(h:0<b):kW (.int a) (.int b)=some (.int (a % b)):=by
 show(if 0<b then some (a % b)else none).map _=_;rw[Xb h];rfl
theorem pow_i{a b:Int}(h1:0<=b)(h2:b<=1000)(h3:-1000000<a)(h4:a<1000000):WY (.int a) (.int b)=some (.int (a ^ b.toNat)):=by
 show(if 0<=b/\b<=1000000/\a.natAbs<2 ^ 64 then some (a ^ b.toNat)else none).map _=_;rw[Xb ⟨h1,by omega,by omega⟩];rfl
theorem xQ{a b:Int}:fEq (.int a) (.int b)=some (.bl (a==b)):=rfl
theorem K4{a b:Str}:fEq (.str a) (.str b)=some (.bl (a==b)):=rfl
theorem lt_ii{a b:Int}:fLt (.int a) (.int b)=some (.bl (decide (a<b))):=rfl
theorem gt_ii{a b:Int}:fGt (.int a) (.int b)=some (.bl (decide (b<a))):=rfl
theorem le_ii{a b:Int}:fLe (.int a) (.int b)=some (.bl (decide (a<=b))):=rfl
theorem ge_ii{a b:Int}:fGe (.int a) (.int b)=some (.bl (decide (b<=a))):=rfl
theorem wY{xs:List D}{i:Int}{d:D}(h0:0<=i)(h:xs[i.toNat]?=some d):k6 (.lst xs) (.int i)=some d:=by
 show((ixN xs.length i).bind λj=>xs[j]?)=some d;have hl:i.toNat<xs.length:=(List.getElem?_eq_some_iff.mp h).1;unfold ixN;rw[Xb h0,Xb (by omega)];exact h
theorem ix_t{xs:List D}{i:Int}{d:D}(h0:0<=i)(h:xs[i.toNat]?=some d):k6 (.tup xs) (.int i)=some d:=by
 show((ixN xs.length i).bind λj=>xs[j]?)=some d;have hl:i.toNat<xs.length:=(List.getElem?_eq_some_iff.mp h).1;unfold ixN;rw[Xb h0,Xb (by omega)];exact h
theorem len_l{xs:List D}:kX (.lst xs)=some (.int xs.length):=rfl
theorem len_t{xs:List D}:kX (.tup xs)=some (.int xs.length):=rfl
theorem qw6(ns:List Int)(i:Int)(h0:0<=i)(h1:i<ns.length):k6 (.lst (ns.map D.int)) (.int i)=some (.int (ns.getD i.toNat 0)):=by
 have:i.toNat<ns.length:=by omega
 refine wY h0 ?_;simp[this]
theorem wqj(xs:List D)(i:Int)(h0:0<=i)(h1:i<xs.length):k6 (.lst xs) (.int i)=some (xs.getD i.toNat .non):=by
 have:i.toNat<xs.length:=by omega
 refine wY h0 ?_;simp[this]
theorem qzt(xs:List D)(i:Int)(h0:0<=i)(h1:i<xs.length):k6 (.tup xs) (.int i)=some (xs.getD i.toNat .non):=by
 have:i.toNat<xs.length:=by omega
 refine ix_t h0 ?_;simp[this]
theorem JX(xs:List D)(i:Int)(h0:0<=i)(h1:i<xs.length):xs.getD i.toNat .non∈xs:=by
 have:i.toNat<xs.length:=by omega
 rw[X5,X1 this];exact Xi this
theorem vkk{o1 o2:Own}{a b:List D}(h1:o1≠.dp)(h2:o2≠.dp)(hl:a.length+b.length<10000):jq (o1,.lst a) (o2,.lst b)=some (.rt,.lst (a++b)):=by
 show(if a.length+b.length<=big/\qW (o1,.lst a)/\qW (o2,.lst b)then _ else _)=_;rw[Xb ⟨by unfold big;omega,by cases o1<;>simp_all [qW],by cases o2<;>simp_all [qW]⟩]
theorem K9{o:Own}{xs:List D}(h:o≠.dp):x3 (o,.lst xs)=some (.no,.tup xs):=by
 show(if qW (o,.lst xs)then _ else _)=_;rw[Xb (by cases o<;>simp_all [qW])]
abbrev XP:=Str->Prop
theorem nd{α:Sort _}{a b:α}(h:a=b):a=b:=h
@[irreducible] noncomputable def Eo {α:Type} (m:Option (Res α)) (P:En->α->Prop) (X:XP):Prop:=match m with
 |some (.ok E a)=>P E a
 |some (.exc _ c)=>X c
 |none=>False
@[irreducible] noncomputable def Vo {α:Type} (m:Option α) (P:α->Prop):Prop:=match m with
 |some a=>P a
 |none=>False
@[irreducible] noncomputable def Oo (f:Fn) (xs:List Sd) (P:Sd->Prop) (X:XP):Prop:=match f xs with
 |some (.ok _ y)=>P y
 |some (.exc _ c)=>X c
 |none=>False
@[irreducible] noncomputable def Po (r:Option Fl) (N C:En->Prop) (R:Sd->Prop) (X:XP):Prop:=match r with
 |some (.nx E)=>N E
 |some (.ct E)=>C E
 |some (.rt _ x)=>R x
 |some (.xc _ c)=>X c
 |_=>False
abbrev noX:XP:=λ_=>False
section
variable {α β:Type}{P:En->α->Prop}{X:XP}{N C:En->Prop}{R:Sd->Prop}{E:En}
theorem Jj{a:α}:Eo (some (.ok E a)) P X=P E a:=nd (by with_unfolding_all rfl)
theorem qws{c:Str}:Eo (some (.exc E c):Option (Res α)) P X=X c:=nd (by with_unfolding_all rfl)
theorem qwq:Eo (none:Option (Res α)) P X=False:=nd (by with_unfolding_all rfl)
theorem kJ{m:Option (Res β)}{f:En->β->Option (Res α)}:Eo (bnd m f) P X=Eo m (λE a=>Eo (f E a) P X) X:=by
 cases m with
 |none=>with_unfolding_all rfl
 |some r=>cases r<;>with_unfolding_all rfl
theorem vo_some{a:α}{P:α->Prop}:Vo (some a) P=P a:=nd (by with_unfolding_all rfl)
theorem vo_map{x:Option β}{f:β->α}{P:α->Prop}:Vo (x.map f) P=Vo x (λa=>P (f a)):=by cases x<;>with_unfolding_all rfl
theorem KQ{x:Option α}:Eo (val E x) P X=Vo x (P E):=by cases x<;>with_unfolding_all rfl
theorem YV{E:En}:Po (some (.nx E)) N C R X=N E:=nd (by with_unfolding_all rfl)
theorem wq5{E:En}{x:Sd}:Po (some (.rt E x)) N C R X=R x:=nd (by with_unfolding_all rfl)
theorem QX{m:Option (Res α)}{f:En->α->Option Fl}:Po (ofE m f) N C R X=Eo m (λE a=>Po (f E a) N C R X) X:=by
 cases m with
 |none=>with_unfolding_all rfl
 |some r=>cases r<;>with_unfolding_all rfl
theorem vjs{a b:Sm}:Po (j4 a b E) N C R X=Po (a E) (λE=>Po (b E) N C R X) C R X:=by
 unfold j4 Po;cases a E with
 |none=>with_unfolding_all rfl
 |some r=>cases r<;>with_unfolding_all rfl
theorem vz9{x:Option β}{f:β->Fl}:Po (x.map f) N C R X=Vo x (λa=>Po (some (f a)) N C R X):=by cases x<;>with_unfolding_all rfl
theorem Eo.mono{m:Option (Res α)}{P':En->α->Prop}(h:Eo m P X)(k:∀E a,P E a->P' E a):Eo m P' X:=by
 cases m with
 |none=>with_unfolding_all exact h
 |some r=>cases r with
  |ok E a=>with_unfolding_all exact k E a h
  |exc E c=>with_unfolding_all exact h
theorem Oo.mono{f:Fn}{xs:List Sd}{P P':Sd->Prop}(h:Oo f xs P X)(k:∀y,P y->P' y):Oo f xs P' X:=by
 unfold Oo at h ⊢;cases hf:f xs with
 |none=>rw[hf]at h;with_unfolding_all exact h
 |some r=>rw[hf]at h;cases r with
  |ok E a=>with_unfolding_all exact k a h
  |exc E c=>with_unfolding_all exact h
theorem Oo.out{f:Fn}{xs:List Sd}{P:Sd->Prop}(h:Oo f xs P noX):∃E y,f xs=some (.ok E y)/\P y:=by
 unfold Oo at h;cases hf:f xs with
 |none=>rw[hf]at h;with_unfolding_all exact(show False from h).elim
 |some r=>rw[hf]at h;cases r with
  |ok E a=>with_unfolding_all exact⟨E,a,rfl,h⟩
  |exc E c=>with_unfolding_all exact(show False from h).elim
theorem v8{n:Nat}{b:Sm}{xs:List Sd}{P:Sd->Prop}(h:Po (b (xs.map some++List.replicate (n - xs.length) none)) (λ_=>P (.dp,.non)) (λ_=>False) P X):Oo (fn n b) xs P X:=by
 unfold Oo fn;unfold Po at h;cases hb:b (xs.map some++List.replicate (n - xs.length) none)with
 |none=>rw[hb]at h;with_unfolding_all exact h
 |some r=>rw[hb]at h;cases r<;>with_unfolding_all exact h
theorem vw0{f:Fn}{cs:List Ex}{P:En->Sd->Prop}:Eo (jK f cs E) P X=Eo (qJ cs E) (λE xs=>Oo f (letAll xs) (P E) X) X:=by
 unfold jK;rw[kJ]
 congr 1
 funext E xs;unfold Oo;cases f (letAll xs)with
 |none=>with_unfolding_all rfl
 |some r=>cases r<;>with_unfolding_all rfl
theorem vj6{f:Fn}{cs:List Ex}{P:En->Sd->Prop}:Eo (kwz f cs E) P X=Eo (qJ cs E) (λE xs=>Oo f (letAll xs) (λy=>y.2.pure=true/\P E (.dp,y.2)) X) X:=by
 unfold kwz;rw[kJ]
 congr 1
 funext E xs;unfold Oo;cases f (letAll xs)with
 | none=>with_unfolding_all rfl
 | some r=>
  cases r with
  |exc=>with_unfolding_all rfl
  |ok E1 y=>
   dsimp only
   by_cases hp:y.2.pure=true
   ·rw[Xb hp];with_unfolding_all exact propext ⟨λh=>⟨hp,h⟩,λh=>h.2⟩
   ·rw[Xe hp];with_unfolding_all exact propext ⟨λh=>(show False from h).elim,λh=>hp h.1⟩
def wke(d:D){α:Type}(a b:Option α):Option α:=match d with
 |.bl k=>if k=true then a else b
 |_=>none
theorem vw9(a b:Ex):V0 a b E=bnd (a E) λE x=>wke x.2 (b E) (some (.ok E (.dp,.bl false))):=by
 unfold V0 wke
 congr 1
 funext E x;cases x.2 with
 |bl k=>cases k<;>with_unfolding_all rfl
 |_=>with_unfolding_all rfl
theorem wju(a b:Ex):cOr a b E=bnd (a E) λE x=>wke x.2 (some (.ok E (.dp,.bl true))) (b E):=by
 unfold cOr wke
 congr 1
 funext E x;cases x.2 with
 |bl k=>cases k<;>with_unfolding_all rfl
 |_=>with_unfolding_all rfl
theorem kxm{tg:Tg}{b:Sm}(I:En->List D->Prop)(hs:∀E d ds,I E (d::ds)->Vo (tg.put d E) λE1=>Po (b E1) (λE2=>I E2 ds) (λE2=>I E2 ds) R X)(h1:∀E,I E []->N E):∀ds E,I E ds->Po (Jk tg b ds E) N C R X
 | [],E,h=>by with_unfolding_all exact h1 E h
 | d::ds,E,h=>by
  have h2:=hs E d ds h;unfold Jk;cases hp:tg.put d E with
  | none=>rw[hp]at h2;with_unfolding_all exact(show False from h2).elim
  | some E1=>
   rw[hp]at h2;have h2:Po (b E1) (λE2=>I E2 ds) (λE2=>I E2 ds) R X:=by with_unfolding_all exact h2
   dsimp only;cases hb:b E1 with
   |none=>rw[hb]at h2;with_unfolding_all exact(show False from h2).elim
   |some r=>
    rw[hb]at h2;cases r with
    |nx E2=>with_unfolding_all exact kxm I hs h1 ds E2 h2
    |ct E2=>with_unfolding_all exact kxm I hs h1 ds E2 h2
    |rt E2 x=>with_unfolding_all exact h2
    |xc E2 c=>with_unfolding_all exact h2
    |bk E2=>with_unfolding_all exact(show False from h2).elim
theorem zQ{it:Ev (List D)}{tg:Tg}{b:Sm}(I:En->List D->Prop)(h0:Eo (it E) I X)(hs:∀E d ds,I E (d::ds)->Vo (tg.put d E) λE1=>Po (b E1) (λE2=>I E2 ds) (λE2=>I E2 ds) R X)(h1:∀E,I E []->N E):Po (qQ it tg b E) N C R X:=by
 show Po (ofE (it E) λE ds=>Jk tg b ds E) N C R X;rw[QX]
 with_unfolding_all exact h0.mono λE ds h=>kxm I hs h1 ds E h
theorem qj4{t:Ts}{b:Sm}(I:Nat->En->Prop)(hs:∀n E,I n E->Eo (t E) (λE1 k=>if k=true then Po (b E1) (λE2=>∃m,m<n/\I m E2) (λE2=>∃m,m<n/\I m E2) R X else N E1) X):∀n E,I n E->Po (sWhile t b E) N C R X:=by
 intro n
 induction n using Nat.strongRecOn with
 | _ n ih=>
  intro E h;have h2:=hs n E h;rw [sWhile];cases ht:t E with
  | none=>rw[ht]at h2;with_unfolding_all exact(show False from h2).elim
  | some r=>
   rw [ht]at h2;cases r with
   | exc E1 c=>with_unfolding_all exact h2
   | ok E1 k=>
    cases k with
    | false=>with_unfolding_all exact h2
    | true=>
     have h2:Po (b E1) (λE2=>∃m,m<n/\I m E2) (λE2=>∃m,m<n/\I m E2) R X:=by with_unfolding_all exact h2
     dsimp only;cases hb:b E1 with
     |none=>rw[hb]at h2;with_unfolding_all exact(show False from h2).elim
     |some r=>
      rw[hb]at h2;cases r with
      |nx E2=>exact(show ∃m,m<n/\I m E2 by with_unfolding_all exact h2).elim λm hh=>ih m hh.1 E2 hh.2
      |ct E2=>exact(show ∃m,m<n/\I m E2 by with_unfolding_all exact h2).elim λm hh=>ih m hh.1 E2 hh.2
      |rt E2 x=>with_unfolding_all exact h2
      |xc E2 c=>with_unfolding_all exact h2
      |bk E2=>with_unfolding_all exact(show False from h2).elim
theorem qwr{tg:Tg}{t:Ts}{c:Ex}{P:En->List Sd->Prop}(J:En->List D->List Sd->Prop)(hs:∀B d ds ac,J B (d::ds) ac->Vo (tg.put d B) λB1=>Eo (t B1) (λB2 k=>if k=true then Eo (c B2) (λB3 y=>J B3 ds (ac++[y])) X else J B2 ds ac) X)(h1:∀B ac,J B [] ac->P B ac):∀ds B ac,J B ds ac->Eo (lcL tg t c ds B ac) P X
 | [],B,ac,h=>by with_unfolding_all exact h1 B ac h
 | d::ds,B,ac,h=>by
  have h2:=hs B d ds ac h;unfold lcL;cases hp:tg.put d B with
  | none=>rw[hp]at h2;with_unfolding_all exact(show False from h2).elim
  | some B1=>
   rw[hp]at h2;have h2:Eo (t B1) (λB2 k=>if k=true then Eo (c B2) (λB3 y=>J B3 ds (ac++[y])) X else J B2 ds ac) X:=by with_unfolding_all exact h2
   dsimp only;rw[kJ];refine h2.mono λB2 k h3=>?_
   cases k with
   |false=>with_unfolding_all exact qwr J hs h1 ds B2 ac h3
   |true=>
    show Eo (bnd (c B2) _) P X;rw[kJ]
    with_unfolding_all exact Eo.mono (P:=λB3 y=>J B3 ds (ac++[y])) h3 λB3 y h4=>qwr J hs h1 ds B3 _ h4
theorem YK{o:Own}{k:Nat}{r:List Nat}{it:Ev (List D)}{tg:Tg}{t:Ts}{c:Ex}{P:En->Sd->Prop}(J:En->En->List D->List Sd->Prop)(h0:Eo (it E) (λE1 ds=>J E1 (Wq k r E1) ds []) X)
  (hs:∀E1 B d ds ac,J E1 B (d::ds) ac->Vo (tg.put d B) λB1=>Eo (t B1) (λB2 k=>if k=true then Eo (c B2) (λB3 y=>J E1 B3 ds (ac++[y])) X else J E1 B2 ds ac) X) (h1:∀E1 B ac,J E1 B [] ac->Eo (mkL o (J8 k r B E1) ac) P X):Eo (cLC o k r it tg t c E) P X:=by
 unfold cLC;rw[kJ];refine h0.mono λE1 ds hJ=>?_
 have:=qwr (P:=λB ac=>Eo (mkL o (J8 k r B E1) ac) P X) (J E1) (hs E1) (h1 E1) ds _ _ hJ;cases hl:lcL tg t c ds (Wq k r E1) []with
 |none=>rw[hl]at this;with_unfolding_all exact(show False from this).elim
 |some q=>rw[hl]at this;cases q<;>with_unfolding_all exact this
end
theorem mulT_i{o1:Own}{a:Int}{y:Sd}:jY (o1,.int a) y=zV (o1,.int a) y:=by
 unfold jY;with_unfolding_all rfl
theorem mulT_l{o1:Own}{a:List D}{y:Sd}:jY (o1,.lst a) y=zV (o1,.lst a) y:=by
 unfold jY;with_unfolding_all rfl
def sl(q:Option (Option Sd)):Option Sd:=match q with
 |some (some x)=>some x
 |_=>none
theorem sl_some{x:Sd}:sl (some (some x))=some x:=nd (by with_unfolding_all rfl)
def wv4(d:D)(a b:Prop):Prop:=match d with
 |.bl k=>if k=true then a else b
 |_=>False
theorem andP_bl{k:Bool}{a b:Prop}:wv4 (.bl k) a b=if k=true then a else b:=nd (by with_unfolding_all rfl)
def Wo{α:Type}(m:Option α)(E:En)(P:En->α->Prop):Prop:=Vo m (P E)
theorem wo_some{α:Type}{a:α}{E:En}{P:En->α->Prop}:Wo (some a) E P=P E a:=by unfold Wo;exact vo_some
theorem wo_map{α β:Type}{x:Option β}{f:β->α}{E:En}{P:En->α->Prop}:Wo (x.map f) E P=Wo x E (λE a=>P E (f a)):=by unfold Wo;exact vo_map
def Oe(f:Fn)(xs:List Sd)(E:En)(P:En->Sd->Prop)(X:XP):Prop:=Oo f xs (P E) X
def intP(d:D)(P:Int->Prop):Prop:=match d with
 |.int i=>P i
 |_=>False
def Ie(d:D)(E:En)(P:En->Int->Prop):Prop:=intP d (P E)
theorem ie_i{i:Int}{E:En}{P:En->Int->Prop}:Ie (.int i) E P=P E i:=nd (by with_unfolding_all rfl)
section
variable {P:En->Sd->Prop}{T:En->Bool->Prop}{X:XP}{N C:En->Prop}{R:Sd->Prop}{E:En}{e:Option Sd}{a b c:Ex}{t u:Ts}{i:Nat}
theorem w_seq{a b:Sm}:Po (j4 a b (e::E)) N C R X=Po (a (e::E)) (λE=>Po (b E) N C R X) C R X:=vjs
theorem w_asg:Po (j6 i c (e::E)) N C R X=Eo (c (e::E)) (λE x=>N (E.set i (some x))) X:=by unfold j6;rw[QX];with_unfolding_all rfl
theorem w_ret:Po (jv c (e::E)) N C R X=Eo (c (e::E)) (λ_ x=>R x) X:=by unfold jv;rw[QX];with_unfolding_all rfl
theorem w_pass:Po (k7 (e::E)) N C R X=N (e::E):=nd (by with_unfolding_all rfl)
theorem w_cont:Po (vq5 (e::E)) N C R X=C (e::E):=nd (by with_unfolding_all rfl)
theorem w_if{a b:Sm}:Po (sIf t a b (e::E)) N C R X=Eo (t (e::E)) (λE k=>if k=true then Po (a E) N C R X else Po (b E) N C R X) X:=by
 unfold sIf;rw[QX];congr 1;funext E k;cases k<;>with_unfolding_all rfl
theorem w_tup{is:List Nat}:Po (Yx is c (e::E)) N C R X=Eo (c (e::E)) (λE x=>Vo (Tg.put (.t is) x.2 E) N) X:=by
 unfold Yx;rw[QX];congr 1;funext E x;rw[vz9];with_unfolding_all rfl
theorem w_vV:Eo (vV i (e::E)) P X=Wo (sl (e::E)[i]?) (e::E) P:=by
 unfold vV Wo;cases(e::E)[i]? with
 |none=>with_unfolding_all rfl
 |some q=>cases q<;>with_unfolding_all rfl
theorem w_cV:Eo (cV i (e::E)) P X=Wo (sl (e::E)[i]?) (e::E) (λE x=>P (E.set i (some (.no,x.2))) (.no,x.2)):=by
 unfold cV Wo;cases(e::E)[i]? with
 |none=>with_unfolding_all rfl
 |some q=>cases q<;>with_unfolding_all rfl
theorem w_cMv:Eo (cMv i (e::E)) P X=Wo (sl (e::E)[i]?) (e::E) (λE x=>P (E.set i none) x):=by
 unfold cMv Wo;cases(e::E)[i]? with
 |none=>with_unfolding_all rfl
 |some q=>cases q<;>with_unfolding_all rfl
theorem w_cC{d:D}:Eo (cC d (e::E)) P X=P (e::E) (.dp,d):=nd (by with_unfolding_all rfl)
theorem w_vE:Eo (vE c (e::E)) P X=Eo (c (e::E)) (λE x=>P E (.no,x.2)) X:=by unfold vE;rw[kJ];with_unfolding_all rfl
theorem w_cH:Eo (cH c (e::E)) P X=Eo (c (e::E)) (λE x=>if x.1=.no then P E (.no,x.2)else if x.2.pure=true then P E (.dp,x.2)else False) X:=by
 unfold cH;rw[kJ]
 congr 1
 funext E x
 by_cases h:x.1=.no
 ·rw[Xb h,Xb h];with_unfolding_all rfl
 ·rw[Xe h,Xe h]
  by_cases h2:x.2.pure=true
  ·rw[Xb h2,Xb h2];with_unfolding_all rfl
  ·rw[Xe h2,Xe h2];with_unfolding_all rfl
theorem w_f1{f:Sd->Option Sd}:Eo (cF1 f a (e::E)) P X=Eo (a (e::E)) (λE x=>Wo (f x) E P) X:=by
 unfold cF1;rw[kJ];congr 1;funext E x;exact KQ
theorem w_f2{f:Sd->Sd->Option Sd}:Eo (cF2 f a b (e::E)) P X=Eo (a (e::E)) (λE x=>Eo (b E) (λE y=>Wo (f x y) E P) X) X:=by
 unfold cF2;rw[kJ];congr 1;funext E x;rw[kJ];congr 1;funext E y;exact KQ
theorem w_ix:Eo (j3 a b (e::E)) P X=Eo (a (e::E)) (λE x=>Eo (b E) (λE y=>Wo (k6 x.2 y.2) E (λE d=>P E (sub x.1,d))) X) X:=by
 unfold j3;rw[kJ];congr 1;funext E x;rw[kJ];congr 1;funext E y;rw[KQ];exact vo_map
theorem w_tE:Eo (tE c (e::E)) T X=Eo (c (e::E)) (λE x=>Wo (truth x.2) E T) X:=by
 unfold tE;rw[kJ];congr 1;funext E x;exact KQ
theorem w_tEQ:Eo (tEQ c (e::E)) T X=Eo (c (e::E)) (λE x=>Wo (truthQ x.2) E T) X:=by
 unfold tEQ;rw[kJ];congr 1;funext E x;exact KQ
theorem w_tNot:Eo (tNot t (e::E)) T X=Eo (t (e::E)) (λE k=>T E (!k)) X:=by unfold tNot;rw[kJ];with_unfolding_all rfl
theorem w_tAnd:Eo (tAnd t u (e::E)) T X=Eo (t (e::E)) (λE k=>if k=true then Eo (u E) T X else T E false) X:=by
 unfold tAnd;rw[kJ];congr 1;funext E k;cases k<;>with_unfolding_all rfl
theorem w_tOr:Eo (tOr t u (e::E)) T X=Eo (t (e::E)) (λE k=>if k=true then T E true else Eo (u E) T X) X:=by
 unfold tOr;rw[kJ];congr 1;funext E k;cases k<;>with_unfolding_all rfl
theorem w_tYes:Eo (tYes (e::E)) T X=T (e::E) true:=nd (by with_unfolding_all rfl)
theorem w_cIf:Eo (cIf t a b (e::E)) P X=Eo (t (e::E)) (λE k=>if k=true then Eo (a E) P X else Eo (b E) P X) X:=by
 unfold cIf;rw[kJ];congr 1;funext E k;cases k<;>with_unfolding_all rfl
theorem w_cAnd:Eo (V0 a b (e::E)) P X=Eo (a (e::E)) (λE x=>wv4 x.2 (Eo (b E) P X) (P E (.dp,.bl false))) X:=by
 rw[vw9,kJ];congr 1;funext E x;cases x.2 with
 |bl k=>cases k<;>with_unfolding_all rfl
 |_=>with_unfolding_all rfl
theorem w_cOr:Eo (cOr a b (e::E)) P X=Eo (a (e::E)) (λE x=>wv4 x.2 (P E (.dp,.bl true)) (Eo (b E) P X)) X:=by
 rw[wju,kJ];congr 1;funext E x;cases x.2 with
 |bl k=>cases k<;>with_unfolding_all rfl
 |_=>with_unfolding_all rfl
theorem w_call{f:Fn}{cs:List Ex}:Eo (jK f cs (e::E)) P X=Eo (qJ cs (e::E)) (λE xs=>Oe f (letAll xs) E P X) X:=by with_unfolding_all exact vw0
theorem w_callB{f:Fn}{cs:List Ex}:Eo (kwz f cs (e::E)) P X=Eo (qJ cs (e::E)) (λE xs=>Oe f (letAll xs) E (λE y=>y.2.pure=true/\P E (.dp,y.2)) X) X:=by with_unfolding_all exact vj6
theorem w_partN{P:En->Option Int->Prop}:Eo (V2 none (e::E)) P X=P (e::E) none:=nd (by with_unfolding_all rfl)
theorem w_partS{P:En->Option Int->Prop}:Eo (V2 (some c) (e::E)) P X=Eo (c (e::E)) (λE x=>Ie x.2 E (λE i=>P E (some i))) X:=by
 show Eo (bnd (c (e::E)) _) P X=_;rw[kJ];congr 1;funext E x;unfold Ie;cases x.2<;>with_unfolding_all rfl
theorem w_sl{lo hi:Option Ex}:Eo (cSl a lo hi (e::E)) P X=Eo (a (e::E)) (λE x=>Eo (V2 lo E) (λE l=>Eo (V2 hi E) (λE h=>Wo (fSl x l h) E P) X) X) X:=by
 unfold cSl;rw[kJ];congr 1;funext E x;rw[kJ];congr 1;funext E l;rw[kJ];congr 1;funext E h;exact KQ
theorem w_idx:Eo (Vv a b (e::E)) P X=Eo (a (e::E)) (λE x=>if isSq x.2=true then Eo (b E) (λE y=>Wo (V7 x.2 y.2) E (λE d=>P E (.dp,d))) X else False) X:=by
 unfold Vv;rw[kJ];congr 1;funext E x;cases isSq x.2 with
 |false=>with_unfolding_all rfl
 |true=>
  show Eo (bnd (b E) _) P X=_;rw[kJ];rw[Xb rfl]
  congr 1;funext E y;rw[KQ];unfold pu2;exact vo_map
theorem w_itS{P:En->List D->Prop}:Eo (itS c (e::E)) P X=Eo (c (e::E)) (λE x=>Wo (seqOf x.2) E P) X:=by
 unfold itS;rw[kJ]
 congr 1
 funext E x;exact KQ
theorem w_itEn{P:En->List D->Prop}:Eo (Vz c (e::E)) P X=Eo (c (e::E)) (λE x=>Wo (lstOf x.2) E (λE ds=>P E (xw 0 ds))) X:=by
 unfold Vz;rw[kJ]
 congr 1
 funext E x;rw[KQ];exact vo_map
end
theorem args_nil{e:Option Sd}{E:En}{P:En->List Sd->Prop}{X:XP}:Eo (qJ [] (e::E)) P X=P (e::E) []:=nd (by with_unfolding_all rfl)
theorem args_cons{e:Option Sd}{E:En}{c:Ex}{cs:List Ex}{P:En->List Sd->Prop}{X:XP}:Eo (qJ (c::cs) (e::E)) P X=Eo (c (e::E)) (λE x=>Eo (qJ cs E) (λE xs=>P E (x::xs)) X) X:=by
 show Eo (bnd (c (e::E)) λE x=>bnd (qJ cs E) λE xs=>some (.ok E (x::xs))) P X=_;rw[kJ]
 congr 1
 funext E x;rw[kJ]
 with_unfolding_all rfl
theorem eo_tup{e:Option Sd}{E:En}{cs:List Ex}{P:En->Sd->Prop}{X:XP}:Eo (kw .no cs (e::E)) P X=Eo (qJ cs (e::E)) (λE xs=>P E (.no,.tup (xs.map (·.2)))) X:=by
 unfold kw;rw[kJ]
 with_unfolding_all rfl
theorem eo_lst{e:Option Sd}{E:En}{cs:List Ex}{P:En->Sd->Prop}{X:XP}:Eo (jZ .rt cs (e::E)) P X=Eo (qJ cs (e::E)) (λE xs=>P E (.rt,.lst (xs.map (·.2)))) X:=by
 unfold jZ;rw[kJ]
 with_unfolding_all rfl
theorem V8{c:Ex}{E:En}{P:En->List D->Prop}{X:XP}(h:Eo (c E) (λE x=>∃n:Int,x.2=.int n/\n<=1000/\-1000<=n/\P E (jQ 0 n)) X):Eo (vk c E) P X:=by
 unfold vk;rw[kJ];refine h.mono ?_;rintro E ⟨o,d⟩ ⟨n,rfl,h1,h2,h3⟩;have:xV n=true:=by unfold xV;rw[Xd (by omega),Xd (by omega)];with_unfolding_all rfl
 show Eo (if xV n=true/\n.toNat<=big then _ else _) P X;rw[Xb ⟨this,by unfold big;omega⟩]
 with_unfolding_all exact h3
theorem qxc{i:Nat}{c:Ex}{E:En}{o:Own}{xs:List D}{N C:En->Prop}{R:Sd->Prop}{X:XP}(h0:E[i]?=some (some (o,.lst xs)))
  (h:Eo (c E) (λE1 x=>∃o ys,E1[i]?=some (some (o,.lst ys))/\o≠.no/\ys.length<10000/\N (E1.set i (some (if o=.dp/\vJ x then .dp else .rt,.lst (ys++[x.2]))))) X):Po (k9 kj i c E) N C R X:=by
 unfold k9;rw[h0,Xb (show qzu (some (some (o,.lst xs)))=true from rfl),QX];refine h.mono ?_;rintro E1 x ⟨o,ys,h1,h2,h3,h4⟩;rw[h1];dsimp only;have hg:kj ys x.2=some (ys++[x.2]):=by unfold kj;rw[Xb (by unfold big;omega)]
 rw[Xe h2,hg]
 with_unfolding_all exact h4
theorem x9{i:Nat}{c:Ex}{E:En}{xs:List D}{N C:En->Prop}{R:Sd->Prop}{X:XP}(h0:E[i]?=some (some (.rt,.lst xs)))
  (h:Eo (c E) (λE1 x=>∃ys,E1[i]?=some (some (.rt,.lst ys))/\ys.length<10000/\N (E1.set i (some (.rt,.lst (ys++[x.2]))))) X):Po (k9 kj i c E) N C R X:=
 qxc h0 (h.mono λE1 x ⟨ys,h1,h2,h3⟩=>⟨.rt,ys,h1,by decide,h2,by rw[Xe (by rintro ⟨z,_⟩;cases z)];with_unfolding_all exact h3⟩)
theorem rng_ok{n:Int}(h1:-1000<=n)(h2:n<=1000):(xV n=true/\n.toNat<=big)=True:=by
 have:xV n=true:=by unfold xV;rw[Xd (by omega),Xd (by omega)];with_unfolding_all rfl
 with_unfolding_all exact eq_true ⟨this,by unfold big;omega⟩
theorem Zz{α:Type}{p:Prop}[Decidable p]{a:Option (Res α)}{P:En->α->Prop}{X:XP}:Eo (if p then a else none) P X=(p/\Eo a P X):=by
 by_cases h:p
 ·rw[Xb h];with_unfolding_all exact propext ⟨λz=>⟨h,z⟩,λz=>z.2⟩
 ·rw[Xe h];with_unfolding_all exact propext ⟨λz=>z.elim,λz=>h z.1⟩
theorem w_R1{c:Ex}{e:Option Sd}{E:En}{P:En->List D->Prop}{X:XP}:Eo (vk c (e::E)) P X=Eo (c (e::E)) (λE x=>Ie x.2 E λE n=>(xV n=true/\n.toNat<=big)/\P E (jQ 0 n)) X:=by
 unfold vk;rw[kJ];congr 1;funext E x;cases x.2 with
 |int n=>with_unfolding_all exact Zz
 |_=>with_unfolding_all rfl
theorem w_LR1{c:Ex}{e:Option Sd}{E:En}{P:En->Sd->Prop}{X:XP}:Eo (Q8 c (e::E)) P X=Eo (c (e::E)) (λE x=>Ie x.2 E λE n=>(xV n=true/\n.toNat<=big)/\P E (.rt,.lst (jQ 0 n))) X:=by
 unfold Q8;rw[kJ];congr 1;funext E x;cases x.2 with
 |int n=>with_unfolding_all exact Zz
 |_=>with_unfolding_all rfl
theorem lst_dp0{e:Option Sd}{E:En}{P:En->Sd->Prop}{X:XP}:Eo (jZ .dp [] (e::E)) P X=P (e::E) (.dp,.lst []):=nd (by with_unfolding_all rfl)
theorem vzz{E:En}{ys:List Sd}{P:En->Sd->Prop}{X:XP}(h:ys.all vJ=true):Eo (mkL .dp E ys) P X=P E (.dp,.lst (ys.map (·.2))):=by
 unfold mkL;rw[Xb rfl,Xb h];with_unfolding_all rfl
theorem vxe{o:Own}{xs:List D}{lo hi:Option Int}(h:o≠.dp):fSl (o,.lst xs) lo hi=some (.rt,.lst (Jx xs lo hi)):=by
 show(if qW (o,.lst xs)then _ else _)=_;rw[Xb (by cases o<;>simp_all [qW])]
theorem sub_no:sub .no=.no:=nd (by with_unfolding_all rfl)
theorem sub_rt:sub .rt=.no:=nd (by with_unfolding_all rfl)
theorem Oo.use{ι:Sort _}{f:Fn}{xs:List Sd}{g:ι->Sd}{S:ι->Prop}{E:En}{P:En->Sd->Prop}{X:XP}(h:Oo f xs (λy=>∃i,y=g i/\S i) X)(k:∀i,S i->P E (g i)):Oe f xs E P X:=h.mono λy ⟨i,e,s⟩=>e▸k i s
theorem Oo.use2{ι κ:Sort _}{f:Fn}{xs:List Sd}{g:ι->κ->Sd}{S:ι->κ->Prop}{E:En}{P:En->Sd->Prop}{X:XP}(h:Oo f xs (λy=>∃i j,y=g i j/\S i j) X)(k:∀i j,S i j->P E (g i j)):Oe f xs E P X:=h.mono λy ⟨i,j,e,s⟩=>e▸k i j s
theorem Oo.via{f:Fn}{xs:List Sd}{S:Sd->Prop}{E:En}{P:En->Sd->Prop}{X:XP}(h:Oo f xs S X)(k:∀y,S y->P E y):Oe f xs E P X:=h.mono k
theorem KW{E:En}{ys:List Sd}{P:En->Sd->Prop}{X:XP}:Eo (mkL .rt E ys) P X=P E (.rt,.lst (ys.map (·.2))):=nd (by with_unfolding_all rfl)
def Ox(f:Fn)(xs:List Sd)(E:En)(P:En->Sd->Prop)(Y:En->Str->Prop):Prop:=Oo f xs (P E) (Y E)
theorem Oo.ox{f:Fn}{xs:List Sd}{S:Sd->Prop}{W:XP}{E:En}{P:En->Sd->Prop}{Y:En->Str->Prop}(h:Oo f xs S W)(k:∀y,S y->P E y)(l:∀c,W c->Y E c):Ox f xs E P Y:=by
 unfold Ox Oo at *;cases hf:f xs with
 |none=>rw[hf]at h;with_unfolding_all exact h
 |some r=>rw[hf]at h;cases r with
  |ok E a=>with_unfolding_all exact k a h
  |exc E c=>with_unfolding_all exact l c h
theorem Oo.any{f:Fn}{xs:List Sd}{P:Sd->Prop}{X:XP}(h:Oo f xs P noX):Oo f xs P X:=by
 unfold Oo at *;cases hf:f xs with
 |none=>rw[hf]at h;with_unfolding_all exact h
 |some r=>rw[hf]at h;cases r with
  |ok E a=>with_unfolding_all exact h
  |exc E c=>with_unfolding_all exact(show False from h).elim
section
variable {c kc vc:Ex}{e:Option Sd}{E:En}{X:XP}{N C:En->Prop}{R:Sd->Prop}
theorem vww{P:En->Sd->Prop}:Eo (qx5 kc vc (e::E)) P X=Eo (kc (e::E)) (λE k=>Eo (vc E) (λE v=>xY k.2=true/\P E (.rt,.dct [(k.2,v.2)])) X) X:=by
 unfold qx5;rw[kJ];congr 1;funext E k;rw[kJ];congr 1;funext E v;rw[Zz,Jj]
end
theorem wj3{o:Own}{kvs:List (D×D)}(h:kvs.length<=10000)(hu:unm kvs=true):JW (o,.dct kvs)=some (.rt,.lst (kvs.map (·.1))):=by
 unfold JW;dsimp only;rw[Xb ⟨by unfold big;omega,hu⟩]
section
variable {a b c:Ex}{cs:List Ex}{e:Option Sd}{E:En}{X:XP}{N C:En->Prop}{R:Sd->Prop}{P:En->Sd->Prop}{i r:Nat}{p:List Nat}{d:D}{ds:List D}
theorem qxl:Eo (Q4 c (e::E)) P X=Eo (c (e::E)) (λE x=>WK x=true/\P E (.dp,x.2)) X:=by
 unfold Q4;rw[kJ];congr 1;funext E x;rw[Zz,Jj]
theorem qq4:Eo (kw .dp cs (e::E)) P X=Eo (qJ cs (e::E)) (λE xs=>xs.all vJ=true/\P E (.dp,.tup (xs.map (·.2)))) X:=by
 unfold kw;rw[kJ];congr 1;funext E x;rw[Xb rfl,Zz,Jj]
theorem vzk(h0:E[i]?=some (some (.dp,d)))(dl:D.at p d=some (.lst ds))(hl:ds.length<10000)(h:Eo (c (E.set i none)) (λE1 x=>x.2.pure=true/\N (E1.set i (some (.dp,D.put (.lst (ds++[x.2])) p d)))) X):Po (sPA i p c E) N C R X:=by
 unfold sPA;rw[h0];dsimp only;rw[dl];dsimp only;rw[Xb (by unfold big;omega),QX];refine h.mono ?_;rintro E1 x ⟨hp,hn⟩;rw[Xb hp,YV];exact hn
theorem wq9(h0:E[i]?=some (some (.dp,d)))(dl:D.at p d=some (.lst ds))(h:N (E.set i (some (.dp,D.put (.lst []) p d)))):Po (sPC i p E) N C R X:=by
 unfold sPC;rw[h0];dsimp only;rw[dl];dsimp only;rw[YV];exact h
end
section
variable {a b c kc vc:Ex}{cs:List Ex}{e:Option Sd}{E:En}{X:XP}{N C:En->Prop}{R:Sd->Prop}{P:En->Sd->Prop}{i r n:Nat}{t:Ts}
theorem qvu{kvs:List (D×D)}(h:unm kvs=true):Qw (.dct kvs)=some (.int kvs.length):=Xb h
theorem vq3(h0:wkb E[i]?=true)(h:Eo (kc E) (λE1 k=>Eo (vc E1) (λE2 v=>∃kvs,E2[i]?=some (some (.rt,.dct kvs))/\(xY k.2=true/\kvs.length<10000/\unm kvs=true/\v.2.pure=true/\D.pures (kvs.map (·.2))=true) /\
  (∀d,x6 kvs k.2=some d->P E2 (.dp,d))/\(x6 kvs k.2=none->P (E2.set i (some (.rt,.dct (kvs++[(k.2,v.2)])))) (.dp,v.2))) X) X):Eo (YW i kc vc E) P X:=by
 unfold YW;rw[Xb h0,kJ];refine h.mono ?_;intro E1 k h1;rw[kJ];refine h1.mono ?_;rintro E2 v ⟨kvs,e2,hc,h3,h4⟩;rw[e2];dsimp only;rw[Xb ⟨hc.1,by unfold big;omega,hc.2.2⟩];cases hg:x6 kvs k.2 with
 |none=>dsimp only;rw[Jj];exact h4 hg
 |some d=>dsimp only;rw[Jj];exact h3 d hg
def Z1(s:Option (Option Sd))(Q:Sd->Prop):Prop:=match s with
 |some (some x)=>Q x
 |_=>False
def Om(m:Option Fl)(n:Nat)(N:En->Prop)(P:Sd->Sd->Prop)(X:XP):Prop:=match m with
 |some (.nx E)=>N E
 |some (.rt E x)=>Z1 E[n]? (P x)
 |some (.xc _ c)=>X c
 |_=>False
def Oom(f:Fn)(xs:List Sd)(n:Nat)(P:Sd->Sd->Prop)(X:XP):Prop:=match f xs with
 |some (.ok E y)=>Z1 E[n]? (P y)
 |some (.exc _ c)=>X c
 |none=>False
theorem qvf{nn:Nat}{b:Sm}{xs:List Sd}{P:Sd->Sd->Prop}(h:Om (b (xs.map some++List.replicate (nn - xs.length) none)) n (λE=>Z1 E[n]? (P (.dp,.non))) P X):Oom (fn nn b) xs n P X:=by
 unfold Oom fn;cases hb:b (xs.map some++List.replicate (nn - xs.length) none)with
 |none=>rw[hb]at h;exact h.elim
 |some f=>
  rw[hb]at h;cases f with
  |nx E=>exact h
  |rt E x=>exact h
  |xc E c=>exact h
  |ct E=>exact h.elim
  |bk E=>exact h.elim
theorem ZZ{a b:Sm}{P:Sd->Sd->Prop}(h:Om (a E) n (λE=>Om (b E) n N P X) P X):Om (j4 a b E) n N P X:=by
 unfold j4;cases ha:a E with
 |none=>rw[ha]at h;exact h.elim
 |some f=>
  rw[ha]at h;cases f with
  |nx E=>exact h
  |rt E x=>exact h
  |xc E c=>exact h
  |ct E=>exact h.elim
  |bk E=>exact h.elim
theorem qvg{P:Sd->Sd->Prop}(h:Eo (c E) (λE x=>Z1 E[n]? (P x)) X):Om (jv c E) n N P X:=by
 unfold jv;cases hc:c E with
 |none=>rw[hc,qwq]at h;exact h.elim
 |some f=>
  rw[hc]at h;cases f with
  |ok E x=>rw[Jj]at h;exact h
  |exc E c=>rw[qws]at h;exact h
theorem vzr{a b:Sm}{P:Sd->Sd->Prop}(h:Eo (t E) (λE k=>if k=true then Om (a E) n N P X else Om (b E) n N P X) X):Om (sIf t a b E) n N P X:=by
 unfold sIf;cases hc:t E with
 | none=>rw[hc,qwq]at h;exact h.elim
 | some f=>
  rw[hc]at h;cases f with
  |ok E k=>
   rw[Jj]at h;cases k with
   |true=>rw[Xb rfl]at h;exact h
   |false=>rw[Xe (by decide)]at h;exact h
  |exc E c=>rw[qws]at h;exact h
theorem qzj{m:Option Fl}{P:Sd->Sd->Prop}(h:Po m N (λ_=>False) (λ_=>False) X):Om m n N P X:=by
 cases m with
 |none=>with_unfolding_all exact h
 |some f=>
  cases f with
  |nx E=>rw[YV]at h;exact h
  |rt E x=>rw[wq5]at h;exact h.elim
  |xc E c=>with_unfolding_all exact h
  |ct E=>with_unfolding_all exact h
  |bk E=>with_unfolding_all exact h
theorem qjv{f:Fn}(h:Eo (qJ cs E) (λE1 xs=>∃x,E1[i]?=some (some x)/\Oom f (letAll xs++[x]) xs.length (λy x'=>P (E1.set i (some x')) y) X) X):Eo (V5 f i cs E) P X:=by
 unfold V5;rw [kJ];refine h.mono ?_;rintro E1 xs ⟨x,e1,h1⟩;rw [e1];dsimp only;unfold Oom at h1;cases hf:f (letAll xs++[x])with
 | none=>rw[hf]at h1;exact h1.elim
 | some rr=>
  rw[hf]at h1;cases rr with
  | exc E' c=>dsimp only;rw[qws];exact h1
  | ok E' y=>
   dsimp only at h1 ⊢;unfold Z1 at h1;cases hs:E'[xs.length]? with
   |none=>rw[hs]at h1;exact h1.elim
   |some s=>
    rw[hs]at h1;cases s with
    |none=>exact h1.elim
    |some x'=>dsimp only at h1 ⊢;rw[Jj];exact h1
theorem Oom.mono{f:Fn}{xs:List Sd}{P Q:Sd->Sd->Prop}{X Y:XP}(h:Oom f xs n P X)(hp:∀y x,P y x->Q y x)(hx:∀c,X c->Y c):Oom f xs n Q Y:=by
 unfold Oom at h ⊢;cases hf:f xs with
 | none=>rw[hf]at h;exact h.elim
 | some rr=>
  rw[hf]at h;cases rr with
  | exc E' c=>exact hx c h
  | ok E' y=>
   dsimp only at h ⊢;unfold Z1 at h ⊢;cases hs:E'[n]? with
   |none=>rw[hs]at h;exact h.elim
   |some s=>
    rw[hs]at h;cases s with
    |none=>exact h.elim
    |some x'=>exact hp _ _ h
theorem vxh{ds:List D}(h0:E[i]?=some (some (.rt,.lst ds)))(h:N (E.set i (some (.rt,.lst ds.reverse)))):Po (QY i E) N C R X:=by
 unfold QY;rw[h0];dsimp only;rw[YV];exact h
theorem vwv{cs:List Str}{f:Fn}{as:List Ex}{h:Sm}:Po (Kv cs (qxz (Wx f as)) h (e::E)) N C R X =
  Eo (qJ as (e::E)) (λE xs=>Ox f (letAll xs) E (λE _=>N E) (λE c=>c∈cs/\Po (h E) N C R noX)) noX:=by
 unfold Kv qxz Wx;cases qJ as (e::E)with
 | none=>with_unfolding_all rfl
 | some r=>
  cases r with
  | exc E1 c=>with_unfolding_all rfl
  | ok E1 xs=>
   rw [Jj];unfold Ox Oo;dsimp only;cases f (letAll xs)with
   | none=>with_unfolding_all rfl
   | some r=>
    cases r with
    | ok E2 y=>with_unfolding_all rfl
    | exc E2 c=>
     dsimp only[ofE]
     by_cases hc:c∈cs
     ·rw[Xb hc];cases h E1 with
      |none=>with_unfolding_all exact propext ⟨λz=>⟨hc,z⟩,λz=>z.2⟩
      |some r=>cases r<;>with_unfolding_all exact propext ⟨λz=>⟨hc,z⟩,λz=>z.2⟩
     ·rw[Xe hc]
      with_unfolding_all exact propext ⟨λz=>(show False from z).elim,λz=>absurd z.1 hc⟩
end
end Q
namespace C
open PySem Q
def V3:Fn:=fn 4
  (j4 (j6 3 (cH (j3 (vV 0) (C9 1))))
  (j4 (sIf (tE (cF2 (pu2 fEq) (vV 3) (vE (cC (.str "any"))))) (jv (cC (.bl true))) k7)
  (j4 (sIf (tE (cF2 (pu2 fEq) (vV 3) (vE (cC (.str "fresh"))))) (jv (cF2 (pu2 vQ) (vV 2) (vV 1))) k7)
  (jv (cF2 (pu2 fEq) (j3 (vV 1) (vV 3)) (vV 2))))))
def V1:Fn:=fn 3
  (j4 (sIf (tE (cF2 (f2First fIsNon) (vV 0) (vE (cC .non)))) (jv (cC .non)) k7)
  (jv (cIf (tE (cF2 (pu2 fEq) (vV 0) (vE (cC (.str "new"))))) (cV 2) (cH (j3 (vV 1) (vV 0))))))
def VX:Fn:=fn 3
  (jv (cF1 x3 (vE (cLC .rt 1 [1,2] (itS (cH (j3 (vV 0) (C9 3)))) (.n 0) tYes (jK V1 [(cV 0),(cV 1),(cV 2)])))))
def m_first_standing:Fn:=fn 1
  (jv (kw .no [(cC (.int 0)),(cF2 jY (vE (kw .no [(cC .non)])) (j3 (j3 (j3 (vV 0) (C9 1)) (C9 0)) (C9 0)))]))
def JZ:Fn:=fn 2
  (jv (cH (j3 (j3 (j3 (vV 0) (C9 1)) (j3 (vV 1) (C9 0))) (C9 2))))
def m_fitting:Fn:=fn 6
  (j4 (j6 4 (cH (j3 (vV 1) (C9 1))))
  (j4 (j6 5 (jK JZ [(cV 0),(cV 1)]))
  (jv (cLC .rt 2 [2,4,3] (Vz (cV 5)) (.t [0,1]) (tAnd (tE (cF2 (pu2 fEq) (j3 (vV 1) (C9 0)) (vV 2))) (tEQ (vE (jK V3 [(cV 1),(cV 3),(cV 4)])))) (cV 0)))))
def m_behind:Fn:=fn 5
  (j4 (j6 4 (cH (j3 (vE (jK JZ [(cV 0),(cV 1)])) (vV 2))))
  (jv (kw .no [(cH (j3 (vV 4) (C9 2))),(jK VX [(cV 4),(cH (j3 (vV 1) (C9 1))),(cV 3)])])))
def m__law_draw:Fn:=fn 4
  (j4 (j6 2 (cF2 jY (C9 1000) (vE (cF2 (pu2 WY) (C9 10) (C9 64)))))
  (j4 (j6 3 (cF2 jq (vE (cF2 jY (vE (cF2 jY (vV 1) (vV 1))) (vV 1))) (C9 7)))
  (j4 (sIf (tE (cF2 (pu2 fLt) (vV 1) (vE (cF1 (pu1 kX) (vV 0))))) (j6 3 (cH (j3 (vV 0) (vV 1)))) (sIf (tE (cF2 (pu2 fGt) (vE (cF1 (pu1 kX) (vV 0))) (C9 0))) (j6 3 (cF2 jY (vE (cF2 jq (vE (cF2 (pu2 kW) (j3 (vV 0) (vE (cF2 (pu2 kW) (vV 1) (vE (cF1 (pu1 kX) (vV 0)))))) (C9 1000003))) (C9 1))) (vV 3))) k7))
  (jv (cF2 (pu2 kW) (vE (cF2 jY (vE (cF2 (pu2 kW) (vV 3) (vV 2))) (vE (cF2 (pu2 WY) (C9 7919) (C9 15))))) (vV 2))))))
def m__law_digits:Fn:=fn 4
  (j4 (j6 2 (jZ .rt []))
  (j4 (qQ (itS (cV 1)) (.n 3) (j4 (k9 kj 2 (cF2 (pu2 kW) (vV 0) (vV 3)))
  (j6 0 (cF2 (pu2 z6) (vV 0) (vV 3)))))
  (jv (cMv 2))))
def m__law_signs:Fn:=fn 11
  (j4 (j6 2 (cC (.str "abcdefghijklmnopqrstuvwxyz")))
  (j4 (Yx [3,4,5] (jK m__law_digits [(cV 0),(jZ .rt [(cC (.int 8)),(cC (.int 840)),(cC (.int 8))])]))
  (j4 (j6 4 (cF2 (pu2 kW) (vV 4) (vE (cF2 jq (vV 3) (C9 1)))))
  (j4 (j6 6 (jZ .rt []))
  (j4 (qQ (vk (vV 1)) (.n 7) (j4 (j6 8 (cC (.str "")))
  (j4 (qQ (vk (vE (cF2 jq (vV 3) (C9 1)))) (.n 9) (j4 (j6 10 (cF2 jq (vE (cF2 (pu2 z6) (vV 0) (vE (cF2 jq (C9 53761) (vE (cF2 jY (vE (cF2 jY (C9 26) (vV 9))) (vV 9))))))) (vE (cF2 jY (vE (cF2 jY (vV 7) (vE (cF2 jq (vV 5) (C9 1))))) (vE (cF1 (pu1 zj) (vE (cF2 (pu2 fEq) (vV 9) (vV 4)))))))))
  (j6 8 (cF2 jq (vV 8) (j3 (vV 2) (vE (cF2 (pu2 kW) (vV 10) (C9 26))))))))
  (k9 kj 6 (cV 8)))))
  (jv (cF1 Z8 (vV 6))))))))
def m__law_copy:Fn:=fn 1
  (jv (kw .no [(cF1 zK (j3 (vV 0) (C9 0))),(cLC .rt 1 [] (itS (cH (j3 (vV 0) (C9 1)))) (.n 0) tYes (kw .no [(cH (j3 (vV 0) (C9 0))),(cH (j3 (vV 0) (C9 1))),(cF1 zK (j3 (vV 0) (C9 2)))]))]))
def W7:Fn:=fn 3
  (j4 (sIf (tE (cF2 (pu2 fEq) (j3 (vV 0) (C9 1)) (vE (cC (.str "fresh"))))) (jv (cF2 (pu2 vQ) (vV 2) (vV 1))) k7)
  (jv (cOr (vE (cF2 (pu2 fEq) (j3 (vV 0) (C9 1)) (vE (cC (.str "any"))))) (cF2 (pu2 fEq) (j3 (vV 1) (j3 (vV 0) (C9 1))) (vV 2)))))
def VQ:Fn:=fn 5
  (j4 (j6 3 (jZ .rt []))
  (j4 (qQ (itS (cH (j3 (vV 0) (C9 3)))) (.n 4) (sIf (tOr (tE (cF2 (f2First fIsNon) (vV 4) (vE (cC .non)))) (tE (cF2 (pu2 fEq) (vV 4) (vE (cC (.str "new")))))) (k9 kj 3 (cH (j3 (vE (jZ .rt [(cV 2),(cC .non)])) (vE (cF1 (pu1 zj) (vE (cF2 (f2First fIsNon) (vV 4) (vE (cC .non))))))))) (k9 kj 3 (cH (j3 (vV 1) (vV 4))))))
  (jv (cF1 x3 (vV 3)))))
def m__law_fitting:Fn:=fn 5
  (j4 (j6 4 (cH (j3 (j3 (j3 (vV 0) (C9 1)) (j3 (vV 1) (C9 0))) (C9 2))))
  (jv (cLC .rt 1 [4,2,1,3] (vk (vE (cF1 (pu1 kX) (vV 4)))) (.n 0) (tAnd (tE (cF2 (pu2 fEq) (j3 (j3 (vV 1) (vV 0)) (C9 0)) (vV 2))) (tEQ (vE (jK W7 [(cH (j3 (vV 1) (vV 0))),(cH (j3 (vV 3) (C9 1))),(cV 4)])))) (cV 0))))
def m__law_behind:Fn:=fn 5
  (j4 (j6 4 (cH (j3 (j3 (j3 (j3 (vV 0) (C9 1)) (j3 (vV 1) (C9 0))) (C9 2)) (vV 2))))
  (jv (kw .no [(cH (j3 (vV 4) (C9 2))),(jK VQ [(cV 4),(cH (j3 (vV 1) (C9 1))),(cV 3)])])))
end C
local macro_rules
 | `(tactic| simp![$ts,*])=>`(tactic| simp(config:={ maxSteps:=1000000,failIfUnchanged:=false,implicitDefEqProofs:=true }) (disch:=omega) only[↓Q.w_seq,↓Q.w_asg,↓Q.w_ret,↓Q.w_pass,↓Q.w_cont,↓Q.w_if,↓Q.w_tup,↓Q.w_vV,↓Q.w_cV,↓Q.w_cMv,↓Q.w_cC,↓Q.w_vE,↓Q.w_cH,↓Q.w_f1,↓Q.w_f2,↓Q.w_ix,↓Q.w_tE,↓Q.w_tEQ,↓Q.w_tNot,↓Q.w_tAnd,↓Q.w_tOr,↓Q.w_tYes,↓Q.w_cIf,↓Q.w_cAnd,↓Q.w_cOr,↓Q.w_call,↓Q.w_callB,↓Q.w_partN,↓Q.w_partS,↓Q.w_sl,↓Q.w_idx,↓Q.w_itS,↓Q.w_itEn,↓Q.w_R1,↓Q.w_LR1,Q.rng_ok,true_and,Q.lst_dp0,↓Q.ie_i,Q.isSq,Q.sl_some,↓Q.andP_bl,↓Q.vo_some,↓Q.vo_map,↓Q.wo_some,↓Q.wo_map,↓Q.args_nil,↓Q.args_cons,↓Q.eo_tup,↓Q.eo_lst,Q.letAll,Q.pu2,Q.pu1,Q.f2First,Q.fIsNon,Q.fNotNon,Q.isNon,List.map_cons,List.map_nil,List.cons_append,List.nil_append,Xl,List.length_nil,X3,Nat.reduceAdd,Nat.reduceSub,List.replicate,List.set_cons_zero,List.set_cons_succ,List.getElem?_cons_zero,List.getElem?_cons_succ,Q.len_l,Q.len_t,Q.lt_ii,Q.gt_ii,Q.le_ii,Q.ge_ii,Q.add_i,Q.sub_i,Q.div_i,Q.mod_i,Q.pow_i,Q.mulT_i,Q.mulT_l,Q.mul_l,Option.map_some,Q.truth,Q.truthQ,Q.D.pure,↓reduceIte,if_true,if_false,ite_true,ite_false,Q.sub_no,Q.sub_rt,Bool.false_eq_true,reduceCtorEq,Bool.not_true,Bool.not_false,Q.Tg.put,Q.setAll,Q.seqOf,Q.lstOf,$ts,*])
namespace C
open Q PySem
abbrev most:Int:=1000*10 ^ 64
abbrev iL(ns:List Int):D:=.lst (ns.map D.int)
def Dr(dr:Fn):Prop:=∀(ns:List Int) (k:Int),0<=k->k<=1000->Oo dr [(.no,iL ns),(.no,.int k)] (λy=>∃i,y=(.dp,.int i)/\0<=i/\i<most) noX
theorem kza(ns:List Int)(k:Int)(h0:0<=k)(h1:k<=1000):Oo m__law_draw [(.no,iL ns),(.no,.int k)] (λy=>∃i,y=(.dp,.int i)/\0<=i/\i<most) noX:=by
 have hkk:k*k<=1000*1000:=Int.mul_le_mul h1 h1 h0 (by decide);have hkk0:0<=k*k:=Int.mul_nonneg h0 h0;have hc:k*k*k<=1000*1000*1000:=Int.mul_le_mul hkk h1 h0 (by decide);have hc0:0<=k*k*k:=Int.mul_nonneg hkk0 h0;have hp:((7919:Int) ^ (Int.toNat 15))=7919 ^ 15:=rfl;have hm:(1000*(10:Int) ^ (Int.toNat 64))=most:=rfl;have o7:(0:Int)<most:=by decide
 have hb:∀x:Int,zV (.no,.int (x % most)) (.no,.int (7919 ^ 15))=some (.dp,.int (x % most*7919 ^ 15)):=λx=>by
  have:=Y4 x (show most≠0 by decide);have:=Xu x o7;unfold most at *;exact wqg (by omega) (by omega) (by decide) (by decide)
 have fin:∀x:Int,∃i,((Own.dp,D.int (x % most)):Sd)=(.dp,.int i)/\0<=i/\i<most:=λx=>⟨_,rfl,Y4 _ (by decide),Xu _ o7⟩
 unfold m__law_draw;refine v8 ?_
 by_cases c1:k<ns.length
 ·have hi:=qw6 ns k h0 c1;simp![Xd c1,hi,hm,hp,mod_i o7,hb];exact fin _
 ·by_cases c2:(0:Int)<ns.length
  ·have hq0:=Y4 k (show(ns.length:Int)≠0 by omega);have hq1:=Xu k c2;have hi:=qw6 ns (k % ns.length) hq0 hq1;simp![Xa c1,Xd c2,hi,hm,hp,mod_i o7,mod_i c2,hb];exact fin _
  ·simp![Xa c1,Xa c2,hm,hp,mod_i o7,hb];exact fin _
def Digs:List Int->List Int->Prop
 |[],[]=>True
 |b::bs,d::ds=>0<=d/\d<b/\Digs bs ds
 |_,_=>False
theorem kjz(x:Int):∀(bs:List Int) (hb:∀b∈bs,0<b/\b<1000000000000) (hl:bs.length<1000),Oo m__law_digits [(.no,.int x),(.no,iL bs)] (λy=>∃ds,y=(.rt,iL ds)/\Digs bs ds) noX:=by
 intro bs hb hl;unfold m__law_digits;refine v8 ?_;simp![];refine zQ (λE rest=>∃x o ys l d0 bs1 bs2,E=[some (o,.int x),some (.no,d0),some (.rt,iL ys),l]/\rest=bs2.map D.int/\bs=bs1++bs2/\Digs bs1 ys/\ys.length=bs1.length) ?_ ?_ ?_
 ·simp![];exact⟨x,.no,[],none,_,[],bs,rfl,rfl,rfl,trivial,rfl⟩
 ·rintro E d ds ⟨x,o,ys,l,d0,bs1,bs2,rfl,hr,he,hd,hy⟩;cases bs2 with
  | nil=>cases hr
  | cons b bs2=>
   rw[List.map_cons]at hr;injection hr with e1 e2;subst e1 e2;have pj:=hb b (by rw[he];simp);simp![];refine qxc rfl ?_;simp![mod_i pj.1];refine⟨.rt,_,rfl,by decide,?_,?_⟩
   ·rw[X3];have:=congrArg List.length he;rw[Xn]at this;omega
   ·simp![div_i pj.1];refine⟨_,_,ys++[x % b],_,_,bs1++[b],bs2,by simp[iL,vJ];exact⟨⟨rfl,rfl⟩,rfl,rfl⟩,rfl,by rw[he];simp,?_,by simp[hy]⟩;have h1:=Y4 x (show b≠0 by omega);have h2:=Xu x pj.1;clear he hb
    induction bs1 generalizing ys with
    |nil=>cases ys with
     |nil=>exact⟨h1,h2,trivial⟩
     |cons y ys=>exact hd.elim
    |cons c bs1 ih=>cases ys with
     |nil=>exact hd.elim
     |cons y ys=>exact⟨hd.1,hd.2.1,ih ys hd.2.2 (by simpa using hy)⟩
 ·rintro E ⟨x,o,ys,l,d0,bs1,bs2,rfl,hr,he,hd,hy⟩;cases bs2 with
  |cons b bs2=>cases hr
  |nil=>
   rw[Xp]at he;subst he;simp![];exact⟨ys,rfl,hd⟩
def Each(G:D->Sd->Prop):List D->List Sd->Prop
 |[],[]=>True
 |d::ds,y::ys=>G d y/\Each G ds ys
 |_,_=>False
theorem Each.snoc{G:D->Sd->Prop}{d:D}{y:Sd}(h:G d y):∀{ds:List D} {ys:List Sd},Each G ds ys->Each G (ds++[d]) (ys++[y])
 |[],[],_=>⟨h,trivial⟩
 |_::_,_::_,r=>⟨r.1,Each.snoc h r.2⟩
theorem kjx{X:XP}{E:En}{o:Own}{r:List Nat}{it:Ev (List D)}{c:Ex}{P:En->Sd->Prop}(rest:En)(G:D->Sd->Prop)(h0:Eo (it E) (λE1 ds=>r.map (at' E1)=rest/\(∀d∈ds,Eo (c (some (.no,d)::rest)) (λB y=>(∃q,B=q::rest)/\G d y) X)/\∀ys,Each G ds ys->Eo (mkL o (back r rest (clr r E1)) ys) P X) X):Eo (cLC o 1 r it (.n 0) tYes c E) P X:=by
 refine YK (λE1 B nr ac=>∃ds gm q,ds=gm++nr/\B=q::rest/\Each G gm ac/\(∀d∈ds,Eo (c (some (.no,d)::rest)) (λB y=>(∃q,B=q::rest)/\G d y) X)/\∀ys,Each G ds ys->Eo (mkL o (back r rest (clr r E1)) ys) P X) ?_ ?_ ?_
 ·refine h0.mono λE1 ds ⟨h1,h2,h3⟩=>⟨ds,[],none,rfl,by rw[<-h1];rfl,trivial,h2,h3⟩
 ·rintro E1 B d nr ac ⟨ds,gm,q,e,rfl,hE,h2,h3⟩;have hp:(Tg.n 0).put d (q::rest)=some (some (.no,d)::rest):=rfl;rw[hp,vo_some,show tYes (some (Own.no,d)::rest)=some (.ok (some (Own.no,d)::rest) true)from rfl,Jj,Xb rfl];refine(h2 d (by rw[e];simp)).mono ?_;rintro B y ⟨⟨q',rfl⟩,hG⟩;exact⟨ds,gm++[d],q',by rw[e];simp,rfl,hE.snoc hG,h2,h3⟩
 ·rintro E1 B ac ⟨ds,gm,q,e,rfl,hE,h2,h3⟩;rw[Xp]at e;subst e;exact h3 ac hE
theorem kwr{G:D->Sd->Prop}{S:Int->Prop}(hG:∀d y,G d y->∃i,y.2=.int i/\S i):∀{ds:List D} {ys:List Sd},Each G ds ys->∃ps:List Int,ys.map (·.2)=ps.map D.int/\ps.length=ds.length/\∀p∈ps,S p
 |[],[],_=>⟨[],rfl,rfl,λ_ h=>nomatch h⟩
 |d::ds,y::ys,r=>by
  obtain⟨i,e,s⟩:=hG d y r.1;obtain⟨ps,h1,h2,h3⟩:=kwr hG r.2;exact⟨i::ps,by simp[e,h1],by simp[h2],λp hp=>(List.mem_cons.mp hp).elim (λz=>z▸s) (h3 p)⟩
theorem qql{n:Int}:jQ n n=[]:=by unfold jQ;rw[Int.sub_self];rfl
theorem kkw{k n:Int}(h:k<n):jQ k n=.int k::jQ (k+1) n:=by
 unfold jQ;have:(n - k).toNat=(n - (k+1)).toNat+1:=by omega
 rw[this,List.range_succ_eq_map,List.map_cons,Yf]
 congr 1
 ·simp
 ·apply List.map_congr_left;intro i _;simp only[Function.comp]
  congr 1
  omega
theorem Z4{k n:Int}{d:D}{ds:List D}(hk:k<=n)(h:d::ds=jQ k n):k<n/\d=.int k/\ds=jQ (k+1) n:=by
 by_cases hl:k<n
 ·rw[kkw hl]at h;injection h with h1 h2;exact⟨hl,h1,h2⟩
 ·have:k=n:=by omega
  subst this;rw[qql]at h;cases h
theorem jw4{k n:Int}(hk:k<=n)(h:[]=jQ k n):k=n:=by
 by_cases hl:k<n
 ·rw[kkw hl]at h;cases h
 ·omega
theorem kv0{k n:Int}{d:D}(h:d∈jQ k n):∃i:Int,k<=i/\i<n/\d=.int i:=by
 unfold jQ at h;obtain⟨j,hj,rfl⟩:=List.mem_map.mp h;have:=List.mem_range.mp hj;exact⟨k+j,by omega,by omega,rfl⟩
theorem qvs{k n:Int}(h:k<=n):((jQ k n).length:Int)=n - k:=by
 unfold jQ;rw[X3,Yg];omega
theorem wjw{o1 o2:Own}{a b:Str}(h:a.cps.size+b.cps.size<=10000):jq (o1,.str a) (o2,.str b)=some (.dp,.str (a++b)):=by
 show(if a.cps.size+b.cps.size<=big then _ else _)=_;rw[Xb (by unfold big;omega)]
theorem qxy(a b:Str):(a++b).cps.size=a.cps.size+b.cps.size:=by
 show(a.cps++b.cps).size=_;exact Array.size_append
theorem qqb:∀(ss:List Str),Jw (ss.map D.str)=some ss
 |[]=>rfl
 |s::ss=>by rw[List.map_cons,Jw,qqb ss];rfl
theorem qxs{o:Own}{ss:List Str}(h:ss.length<64):Z8 (o,.lst (ss.map D.str))=some (.rt,.lst ((J0 ss).map D.str)):=by
 unfold Z8;dsimp only;rw[qqb];dsimp only;rw[Xb h]
theorem qjj(a:Str):∀r,(Kj a r).length=r.length+1
 |[]=>rfl
 |b::r=>by unfold Kj;split<;>simp[qjj a r]
theorem kvr:∀r,(J0 r).length=r.length
 |[]=>rfl
 |a::r=>by rw[J0,qjj,kvr r];rfl
theorem wqw{a b c:Int}{ds:List Int}(h:Digs [a,b,c] ds):∃x y z,ds=[x,y,z]/\0<=x/\x<a/\0<=y/\y<b/\0<=z/\z<c:=by
 match ds,h with
 |[x,y,z],⟨h1,h2,h3,h4,h5,h6,_⟩=>exact⟨x,y,z,rfl,h1,h2,h3,h4,h5,h6⟩
theorem Digs.get:∀{bs ds:List Int} (h:Digs bs ds) (i:Nat) (b:Int),bs[i]?=some b->∃d,ds[i]?=some d/\0<=d/\d<b
 |b::bs,d::ds,h,0,c,e=>by
  have e:b=c:=by simpa using e
  subst e;exact⟨d,rfl,h.1,h.2.1⟩
 |b::bs,d::ds,h,i+1,c,e=>by
  obtain⟨x,h1,h2⟩:=Digs.get h.2.2 i c (by simpa using e);exact⟨x,by simpa using h1,h2⟩
 |[],_,_,i,c,e=>by simp at e
theorem Digs.len:∀{bs ds:List Int} (h:Digs bs ds),ds.length=bs.length
 |[],[],_=>rfl
 |b::bs,d::ds,h=>by rw[Xl,Xl,Digs.len h.2.2]
abbrev sL(ss:List Str):D:=.lst (ss.map D.str)
theorem dg{bs hs:List Int}(h:Digs bs hs)(i:Int)(h0:0<=i)(h1:i<bs.length):∃v,k6 (iL hs) (.int i)=some (.int v)/\0<=v/\v<bs.getD i.toNat 0:=by
 have hl:i.toNat<bs.length:=by omega
 obtain⟨d,e,d0,d1⟩:=h.get i.toNat bs[i.toNat] (X1 hl);refine⟨d,wY h0 (by rw[Y2,e];rfl),d0,?_⟩;rw[X5,X1 hl];exact d1
theorem ixI(ks:List Int)(S:Int->Prop)(hS:∀k∈ks,S k)(i:Int)(h0:0<=i)(h1:i<ks.length):∃v,k6 (iL ks) (.int i)=some (.int v)/\S v/\ks[i.toNat]?=some v:=by
 have hl:i.toNat<ks.length:=by omega
 refine⟨ks[i.toNat],wY h0 (by rw[Y2,X1 hl];rfl),hS _ (Xi hl),X1 hl⟩
theorem fint(b:Bool):∃w:Int,zj (.bl b)=some (.int w)/\0<=w/\w<=1:=by
 cases b
 ·exact⟨0,rfl,by decide,by decide⟩
 ·exact⟨1,rfl,by decide,by decide⟩
def Gd(n:Int)(g:D):Prop:=g=.str "fresh"\/g=.str "any"\/∃i:Int,0<=i/\i<n/\g=.int i
def Fd(n:Int)(g:D):Prop:=g=.str "new"\/g=.non\/∃i:Int,0<=i/\i<n/\g=.int i
def St(own:Int)(d:D):Prop:=∃(z:Str) (g:D) (to:Int) (fs:List D),d=.tup [.str z,g,.int to,.tup fs]/\Gd own g/\(∀f∈fs,Fd own f)/\fs.length<=3
def Rm(d:D):Prop:=∃(kp:Int) (gd:Bool) (ss:List D),d=.tup [.int kp,.bl gd,.lst ss]/\0<=kp/\kp<=3/\(∀s∈ss,St kp s)/\ss.length<=14
def Rms(rs:List D):Prop:=1<=rs.length/\rs.length<=4/\∀r∈rs,Rm r
def Rmw(rs:List D):Prop:=1<=rs.length/\rs.length<=12/\∀r∈rs,Rm r
instance {rs:List D}:Coe (Rms rs) (Rmw rs):=⟨λh=>⟨h.1,by have:=h.2.1;omega,h.2.2⟩⟩
def Sx(ja:List Str)(kps:List Int)(d:D):Prop:=∃(z:Str) (g:D) (to:Int) (fs:List D),d=.tup [.str z,g,.int to,.tup fs]/\z∈ja/\0<=to/\to<kps.length/\(fs.length:Int)=kps.getD to.toNat 0
def Rx(ja:List Str)(kps:List Int)(rs:List D):Prop:=rs.length=kps.length/\∀i:Nat,i<kps.length->∃(gd:Bool) (ss:List D),rs[i]?=some (.tup [.int (kps.getD i 0),.bl gd,.lst ss])/\∀s∈ss,Sx ja kps s
def At(d:D):Prop:=d=.non\/∃i,d=.int i
theorem At.flat{d:D}{n:Nat}(h:At d):d.flat n=true:=by
 rcases h with rfl|⟨i,rfl⟩<;>cases n<;>simp[D.flat]
theorem xZ{n:Nat}:∀{ks:List D},(∀k∈ks,k.flat n=true)->D.flats n ks=true
 |[],_=>by cases n<;>simp[D.flats]
 |k::ks,h=>by rw[D.flats,h k X2,xZ λe he=>h e (lc9 _ he)];rfl
theorem At.flats{n:Nat}{ks:List D}(h:∀k∈ks,At k):D.flats n ks=true:=xZ λk hk=>(h k hk).flat
mutual
theorem Yv:∀{n:Nat} (d:D),d.flat n=true->peq d d=true
 |n,.non,_=>by simp[peq]
 |n,.bl b,_=>by simp[peq]
 |n,.int b,_=>by simp[peq]
 |n,.str b,_=>by simp[peq]
 |0,.tup xs,h=>by simp[D.flat]at h
 |0,.lst xs,h=>by simp[D.flat]at h
 |n+1,.tup xs,h=>by rw[peq];exact peqs_refl xs (by simpa [D.flat]using h)
 |n+1,.lst xs,h=>by rw[peq];exact peqs_refl xs (by simpa [D.flat]using h)
 |n,.dct _,h=>by cases n<;>simp[D.flat]at h
 |n,.obj _ _,h=>by cases n<;>simp[D.flat]at h
theorem peqs_refl:∀{n:Nat} (ds:List D),D.flats n ds=true->peqs ds ds=true
 |_,[],_=>by simp[peqs]
 |n,d::ds,h=>by
  rw[D.flats,Bool.and_eq_true]at h;rw[peqs,Yv d h.1,peqs_refl ds h.2];rfl
end
theorem eq_self{d:D}(h:d.flat 40=true):fEq d d=some (.bl true):=by unfold fEq;rw[h,Yv d h];rfl
theorem vve{d:D}(h:d.flat 40=true):fNe d d=some (.bl false):=by unfold fNe;rw[h,Yv d h];rfl
theorem vj5{a b:D}(ha:At a)(hb:At b):fEq a b=some (.bl (peq a b)):=by
 unfold fEq;rw[ha.flat,hb.flat];rfl
theorem vk2{a:D}{ks:List D}(ha:At a)(hb:∀k∈ks,At k):vQ a (.tup ks)=some (.bl (!ks.any λz=>peq z a)):=by
 show kwn a (.tup ks)=_;unfold kwn;have:fIn a (.tup ks)=some (.bl (ks.any λz=>peq z a)):=by
  show(if a.flat 30&&D.flats 30 ks then _ else _)=_;rw[ha.flat,At.flats hb];rfl
 rw[this];rfl
def vW(ks:List D)(d g:D):Bool:=match g with
 |.int i=>peq (ks.getD i.toNat .non) d
 |.str s=>if s="fresh" then !ks.any λz=>peq z d else true
 |_=>true
theorem s1:((Str.ofString "fresh")==(Str.ofString "any"))=false:=by decide
theorem s3(a:Str):(a==a)=true:=by simp
theorem s4:¬(Str.ofString "any")=(Str.ofString "fresh"):=by decide
theorem ix0(c g r f:D):k6 (.tup [c,g,r,f]) (.int 0)=some c:=rfl
theorem ix1(c g r f:D):k6 (.tup [c,g,r,f]) (.int 1)=some g:=rfl
theorem ix2(c g r f:D):k6 (.tup [c,g,r,f]) (.int 2)=some r:=rfl
theorem ix3(c g r f:D):k6 (.tup [c,g,r,f]) (.int 3)=some f:=rfl
theorem p0(a b:D):k6 (.tup [a,b]) (.int 0)=some a:=rfl
theorem p1(a b:D):k6 (.tup [a,b]) (.int 1)=some b:=rfl
theorem t0(a b c:D):k6 (.tup [a,b,c]) (.int 0)=some a:=rfl
theorem t1(a b c:D):k6 (.tup [a,b,c]) (.int 1)=some b:=rfl
theorem t2(a b c:D):k6 (.tup [a,b,c]) (.int 2)=some c:=rfl
theorem wkc(i:Int)(z:Str):fEq (.int i) (.str z)=some (.bl false):=by simp[fEq,D.flat,peq]
theorem vvz{ks:List D}{d g c r f:D}(hk:∀k∈ks,At k)(hd:At d)(hg:Gd ks.length g):Oo V3 [(.no,.tup [c,g,r,f]),(.no,.tup ks),(.no,d)] (λy=>∃_:Unit,y=(.dp,.bl (vW ks d g))/\True) noX:=by
 have hn:=vk2 hd hk;unfold V3;refine v8 ?_;rcases hg with rfl|rfl|⟨i,h0,h1,rfl⟩
 ·simp![ix1,K4,s1,s3,hn];exact⟨(),by simp[vW],trivial⟩
 ·simp![ix1,K4,s3,s4,hn];exact⟨(),by simp[vW,s4],trivial⟩
 ·simp![ix1,wkc,qzt ks i h0 h1,vj5 (hk _ (JX ks i h0 h1)) hd]
  first|trivial|exact⟨(),trivial⟩|exact⟨(),rfl,trivial⟩
theorem qzq{ks:List D}{d g c r f:D}(hk:∀k∈ks,At k)(hd:At d)(hg:Gd ks.length g):Oo W7 [(.no,.tup [c,g,r,f]),(.no,.tup ks),(.no,d)] (λy=>∃_:Unit,y=(.dp,.bl (vW ks d g))/\True) noX:=by
 have hn:=vk2 hd hk;unfold W7;refine v8 ?_;rcases hg with rfl|rfl|⟨i,h0,h1,rfl⟩
 ·simp![ix1,K4,s1,s3,hn];exact⟨(),by simp[vW],trivial⟩
 ·simp![ix1,K4,s3,s4,hn];exact⟨(),by simp[vW,s4],trivial⟩
 ·simp![ix1,wkc,qzt ks i h0 h1,vj5 (hk _ (JX ks i h0 h1)) hd]
  first|trivial|exact⟨(),trivial⟩|exact⟨(),rfl,trivial⟩
def ww(ks:List D)(d f:D):D:=match f with
 |.int i=>ks.getD i.toNat .non
 |.str _=>d
 |_=>.non
theorem vj0{ks:List D}{d f:D}(hk:∀k∈ks,At k)(hd:At d)(hf:Fd ks.length f):At (ww ks d f):=by
 rcases hf with rfl|rfl|⟨i,h0,h1,rfl⟩
 ·exact hd
 ·exact .inl rfl
 ·exact hk _ (JX ks i h0 h1)
theorem vvx{ks:List D}{d f:D}(hf:Fd ks.length f):Oo V1 [(.no,f),(.no,.tup ks),(.no,d)] (λy=>y.2=ww ks d f) noX:=by
 unfold V1;refine v8 ?_;rcases hf with rfl|rfl|⟨i,h0,h1,rfl⟩
 ·simp![K4,s3];rfl
 ·simp![];rfl
 ·simp![wkc,qzt ks i h0 h1];rfl
theorem jxj{G:D->Sd->Prop}{h:D->D}(hG:∀d y,G d y->y.2=h d):∀{ds:List D} {ys:List Sd},Each G ds ys->ys.map (·.2)=ds.map h
 |[],[],_=>rfl
 |d::ds,y::ys,r=>by rw[List.map_cons,List.map_cons,hG d y r.1,jxj hG r.2]
theorem qwm{ks:List D}{d c g r:D}{fs:List D}(hf:∀f∈fs,Fd ks.length f):Oo VX [(.no,.tup [c,g,r,.tup fs]),(.no,.tup ks),(.no,d)] (λy=>∃_:Unit,y=(.no,.tup (fs.map (ww ks d)))/\True) noX:=by
 unfold VX;refine v8 ?_;simp![];refine kjx [some (.no,.tup ks),some (.no,d)] (λf y=>y.2=ww ks d f) ?_;simp![ix3];refine⟨rfl,λf h=>?_,λys hy=>?_⟩
 ·simp![];exact(vvx (hf f h)).via λy hy=>⟨⟨_,rfl⟩,hy⟩
 ·rw[KW,jxj (h:=ww ks d) (λd y h=>h) hy];simp only[back,clr,at',List.map_cons,List.map_nil,List.set_cons_zero,List.set_cons_succ];simp![K9 (o:=.no) (xs:=fs.map (ww ks d)) (by decide)]
  first|trivial|exact⟨(),trivial⟩|exact⟨(),rfl,trivial⟩
theorem qkk{ks:List D}{d c g r:D}{fs:List D}(hf:∀f∈fs,Fd ks.length f)(hl:fs.length<=1000):Oo VQ [(.no,.tup [c,g,r,.tup fs]),(.no,.tup ks),(.no,d)] (λy=>∃_:Unit,y=(.no,.tup (fs.map (ww ks d)))/\True) noX:=by
 unfold VQ;refine v8 ?_;simp![];refine zQ (λE rest=>∃fs1 l,E=[some (.no,.tup [c,g,r,.tup fs]),some (.no,.tup ks),some (.no,d),some (.rt,.lst (fs1.map (ww ks d))),l]/\fs=fs1++rest) ?_ ?_ ?_
 ·simp![ix3];exact⟨[],_,rfl,rfl⟩
 ·rintro E f ds ⟨fs1,l,rfl,he⟩;have ae:fs1.length<1000:=by have:=congrArg List.length he;simp at this;omega
  have fin:∀z:D,z=ww ks d f->fs1.map (ww ks d)++[z]=(fs1++[f]).map (ww ks d):=λz e=>by rw[e];simp
  have done:fs=(fs1++[f])++ds:=by rw[he];simp
  rcases hf f (by rw[he];simp)with rfl|rfl|⟨i,h0,h1,rfl⟩
  ·simp![K4,s3];refine x9 rfl ?_;have hi:zj (.bl false)=some (.int 0):=rfl;have hx:k6 (.lst [d,.non]) (.int 0)=some d:=rfl;simp![hi,hx];refine⟨_,rfl,by rw[X3];omega,fs1++[.str "new"],_,by rw[fin d rfl],done⟩
  ·simp![K4,s3];refine x9 rfl ?_;have hi:zj (.bl true)=some (.int 1):=rfl;have hx:k6 (.lst [d,.non]) (.int 1)=some .non:=rfl;simp![hi,hx];refine⟨_,rfl,by rw[X3];omega,fs1++[.non],_,by rw[fin .non rfl],done⟩
  ·simp![wkc];refine x9 rfl ?_;simp![qzt ks i h0 h1];refine⟨_,rfl,by rw[X3];omega,fs1++[.int i],_,by rw[fin (ks.getD i.toNat .non) rfl],done⟩
 ·rintro E ⟨fs1,l,rfl,he⟩;rw[Xp]at he;subst he;simp![K9 (o:=.rt) (xs:=fs.map (ww ks d)) (by decide)]
  first|trivial|exact⟨(),trivial⟩|exact⟨(),rfl,trivial⟩
abbrev qk(ss:List Str)(rs:List D):D:=.tup [sL ss,.lst rs]
def wj(z:Str)(ks:List D)(d s:D):Bool:=match s with
 |.tup [.str w,g,_,_]=>(w==z)&&vW ks d g
 |_=>false
def q9(p:D->Bool):Nat->List D->List D
 |_,[]=>[]
 |k,s::r=>if p s=true then .int k::q9 p (k+1) r else q9 p (k+1) r
theorem kzs{ss:List Str}{rs ks st:List D}{kp:D}{gd:D}{room:Int}(h0:0<=room)(hr:rs[room.toNat]?=some (.tup [kp,gd,.lst st])):Oo JZ [(.no,qk ss rs),(.no,.tup [.int room,.tup ks])] (λy=>∃_:Unit,y=(.no,.lst st)/\True) noX:=by
 have hi:k6 (.lst rs) (.int room)=some (.tup [kp,gd,.lst st]):=wY h0 hr;unfold JZ;refine v8 ?_;simp![p0,p1,t2,hi]
 first|trivial|exact⟨(),trivial⟩|exact⟨(),rfl,trivial⟩
theorem qko{ss:List Str}{rs ks st:List D}{gd d:D}{room:Int}{z:Str}(h0:0<=room)(hr:rs[room.toNat]?=some (.tup [.int ks.length,gd,.lst st]))(b7:∀s∈st,St ks.length s)(hk:∀k∈ks,At k)(hd:At d):
  Oo m_fitting [(.no,qk ss rs),(.no,.tup [.int room,.tup ks]),(.no,.str z),(.no,d)] (λy=>∃_:Unit,y=(.rt,.lst (q9 (wj z ks d) 0 st))/\True) noX:=by
 unfold m_fitting;refine v8 ?_;simp![p1];refine(kzs h0 hr).use ?_;intro _ _;simp![];refine YK (λE1 B ds ac=>∃k q0 q1,B=q0::q1::[some (.no,.str z),some (.no,.tup ks),some (.no,d)]/\ds=xw k (st.drop k)/\ac.map (·.2)++q9 (wj z ks d) k (st.drop k)=q9 (wj z ks d) 0 st) ?_ ?_ ?_
 ·simp![];exact⟨0,none,none,rfl,rfl,rfl⟩
 ·rintro E1 B e ds ac ⟨k,q0,q1,rfl,cp,ax⟩;cases hs:st.drop k with
  | nil=>rw[hs]at cp;cases cp
  | cons s r=>
   have lv:st.drop (k+1)=r:=by rw[<-List.drop_drop,hs];rfl
   rw[hs,xw]at cp;injection cp with e1 e2;subst e1 e2;rw[hs,q9]at ax;obtain⟨w,g,to,fs,rfl,hg,hf,hl⟩:=b7 s (List.mem_of_mem_drop (by rw[hs];exact X2));have hc:wj z ks d (.tup [.str w,g,.int to,.tup fs])=((w==z)&&vW ks d g):=rfl;simp![ix0,K4];cases hw:(w==z)with
   | false=>
    rw[hc,hw,Bool.false_and,Xe (by decide)]at ax;simp![];exact⟨k+1,_,_,rfl,by rw[lv],by rw[lv];exact ax⟩
   | true=>
    simp![];refine(vvz hk hd hg).use ?_;intro _ _;simp![];rw[hc,hw,Bool.true_and]at ax;cases hb:vW ks d g with
    |false=>
     rw[hb,Xe (by decide)]at ax;simp![];exact⟨k+1,_,_,rfl,by rw[lv],by rw[lv];exact ax⟩
    |true=>
     rw[hb,Xb rfl]at ax;simp![];refine⟨k+1,_,_,rfl,by rw[lv],?_⟩;rw[lv,Xx,Xq];exact ax
 ·rintro E1 B ac ⟨k,q0,q1,rfl,cp,ax⟩;cases hs:st.drop k with
  |cons s r=>rw[hs]at cp;cases cp
  |nil=>
   rw[hs,q9,Xp]at ax;rw[KW,ax]
   first|trivial|exact⟨(),trivial⟩|exact⟨(),rfl,trivial⟩
theorem kxx{ss:List Str}{rs ks st:List D}{gd d:D}{room:Int}{z:Str}(h0:0<=room)(hr:rs[room.toNat]?=some (.tup [.int ks.length,gd,.lst st]))(b7:∀s∈st,St ks.length s)(hl:st.length<=1000)(hk:∀k∈ks,At k)(hd:At d):
  Oo m__law_fitting [(.no,qk ss rs),(.no,.tup [.int room,.tup ks]),(.no,.str z),(.no,d)] (λy=>∃_:Unit,y=(.rt,.lst (q9 (wj z ks d) 0 st))/\True) noX:=by
 have hi:k6 (.lst rs) (.int room)=some (.tup [.int ks.length,gd,.lst st]):=wY h0 hr;unfold m__law_fitting;refine v8 ?_;simp![p0,p1,t2,hi];refine YK (λE1 B ds ac=>∃k:Nat,∃q0,B=q0::[some (.no,.lst st),some (.no,.str z),some (.no,.tup [.int room,.tup ks]),some (.no,d)]/\k<=st.length/\ds=jQ k st.length/\ac.map (·.2)++q9 (wj z ks d) k (st.drop k)=q9 (wj z ks d) 0 st) ?_ ?_ ?_
 ·simp![];exact⟨0,none,rfl,Xv _,rfl,rfl⟩
 ·rintro E1 B e ds ac ⟨k,q0,rfl,nl,cp,ax⟩;obtain⟨az,rfl,rfl⟩:=Z4 (by omega) cp;have az:k<st.length:=by omega
  have hs:st.drop k=st[k]::st.drop (k+1):=Yi az;rw[hs,q9]at ax;obtain⟨w,g,to,fs,es,hg,hf,hl⟩:=b7 st[k] (Xi az);have dj:k6 (.lst st) (.int k)=some (.tup [.str w,g,.int to,.tup fs]):=wY (by omega) (by rw[Ya,X1 az,es]);have hc:wj z ks d st[k]=((w==z)&&vW ks d g):=by rw[es];rfl
  have hk1:((k:Int)+1)=((k+1:Nat):Int):=by omega
  simp![dj,ix0,K4];cases hw:(w==z)with
  | false=>
   rw[hc,hw,Bool.false_and,Xe (by decide)]at ax;simp![];exact⟨k+1,_,rfl,az,by rw[hk1],ax⟩
  | true=>
   simp![dj,p1];refine(qzq hk hd hg).use ?_;intro _ _;simp![];rw[hc,hw,Bool.true_and]at ax;cases hb:vW ks d g with
   |false=>
    rw[hb,Xe (by decide)]at ax;simp![];exact⟨k+1,_,rfl,az,by rw[hk1],ax⟩
   |true=>
    rw[hb,Xb rfl]at ax;simp![];refine⟨k+1,_,rfl,az,by rw[hk1],?_⟩;rw[Xx,Xq];exact ax
 ·rintro E1 B ac ⟨k,q0,rfl,nl,cp,ax⟩;have:=jw4 (by omega) cp;have:k=st.length:=by omega
  subst this;rw[List.drop_length,q9,Xp]at ax;rw[KW,ax]
  first|trivial|exact⟨(),trivial⟩|exact⟨(),rfl,trivial⟩
def QJ(ks:List D)(d s:D):D:=match s with
 |.tup [_,_,to,.tup fs]=>.tup [to,.tup (fs.map (ww ks d))]
 |_=>.non
theorem qxa{ss:List Str}{rs ks st:List D}{kp gd d:D}{room:Int}{k:Nat}(h0:0<=room)(hr:rs[room.toNat]?=some (.tup [kp,gd,.lst st]))(b7:∀s∈st,St ks.length s)(hk:k<st.length):
  Oo m_behind [(.no,qk ss rs),(.no,.tup [.int room,.tup ks]),(.no,.int k),(.no,d)] (λy=>∃_:Unit,y=(.no,QJ ks d st[k])/\True) noX:=by
 obtain⟨w,g,to,fs,es,hg,hf,hl⟩:=b7 st[k] (Xi hk);have dj:k6 (.lst st) (.int k)=some (.tup [.str w,g,.int to,.tup fs]):=wY (by omega) (by rw[Ya,X1 hk,es]);unfold m_behind;refine v8 ?_;simp![];refine(kzs h0 hr).use ?_;intro _ _;simp![dj,ix2,p1];refine(qwm hf).use ?_;intro _ _;simp![];rw[es]
 first|trivial|exact⟨(),trivial⟩|exact⟨(),rfl,trivial⟩
theorem qkl{ss:List Str}{rs ks st:List D}{kp gd d:D}{room:Int}{k:Nat}(h0:0<=room)(hr:rs[room.toNat]?=some (.tup [kp,gd,.lst st]))(b7:∀s∈st,St ks.length s)(hk:k<st.length):
  Oo m__law_behind [(.no,qk ss rs),(.no,.tup [.int room,.tup ks]),(.no,.int k),(.no,d)] (λy=>∃_:Unit,y=(.no,QJ ks d st[k])/\True) noX:=by
 obtain⟨w,g,to,fs,es,hg,hf,hl⟩:=b7 st[k] (Xi hk);have dj:k6 (.lst st) (.int k)=some (.tup [.str w,g,.int to,.tup fs]):=wY (by omega) (by rw[Ya,X1 hk,es]);have hi:k6 (.lst rs) (.int room)=some (.tup [kp,gd,.lst st]):=wY h0 hr;unfold m__law_behind;refine v8 ?_;simp![p0,p1,t2,hi,dj,ix2];refine(qkk hf (by omega)).use ?_;intro _ _;simp![];rw[es]
 first|trivial|exact⟨(),trivial⟩|exact⟨(),rfl,trivial⟩
theorem kqw{α:Type}[DecidableEq α]:∀{l m:List α},l.Nodup->(∀x∈l,x∈m)->l.length<=m.length
 |[],_,_,_=>Xv _
 |a::l,m,nd,h=>by
  rw[List.nodup_cons]at nd;have ha:=h a X2;have:=kqw (l:=l) (m:=m.erase a) nd.2 λx hx=>(List.mem_erase_of_ne (by rintro rfl;exact nd.1 hx)).mpr (h x (lc9 _ hx))
  have hl:=List.length_erase_of_mem ha;have:0<m.length:=List.length_pos_of_mem ha;simp only[Xl];omega
theorem vw1{G:D->Sd->Prop}(hG:∀d y,G d y->y.2=d){ds:List D}{ys:List Sd}(h:Each G ds ys):ys.map (·.2)=ds:=by
 rw[jxj (h:=id) hG h,List.map_id]
theorem Zx{o:Own}{xs:List D}(h:o≠.dp):zK (o,.lst xs)=some (.rt,.lst xs):=by
 show(if qW (o,.lst xs)then _ else _)=_;rw[Xb (by cases o<;>simp_all [qW])]
theorem vw5{ss:List Str}{rs:List D}(hr:∀r∈rs,Rm r):Oo m__law_copy [(.no,qk ss rs)] (λy=>∃_:Unit,y=(.no,qk ss rs)/\True) noX:=by
 unfold m__law_copy;refine v8 ?_;simp![p0,p1,Zx (o:=.no) (xs:=ss.map D.str) (by decide)];refine kjx [] (λd y=>y.2=d) ?_;simp![p1];refine⟨λd hd=>?_,λys hy=>?_⟩
 ·obtain⟨kp,gd,st,rfl,_⟩:=hr d hd;simp![t0,t1,t2,Zx (o:=.no) (xs:=st) (by decide)];exact⟨⟨_,rfl⟩,trivial⟩
 ·rw[KW,vw1 (λd y h=>h) hy];simp only[back,clr];simp![]
  first|trivial|exact⟨(),trivial⟩|exact⟨(),rfl,trivial⟩
theorem vk3{o1 o2:Own}{a:D}{k:Int}(h1:o1≠.dp)(h0:0<=k)(hk:k<=1000):jY (o1,.tup [a]) (o2,.int k)=some (.no,.tup (List.replicate k.toNat a)):=by
 show(if -(2 ^ 63)<=k/\k<2 ^ 63/\[a].length*k.toNat<=big/\qW (o1,.tup [a])then _ else _)=_;rw[Xb ⟨by omega,by omega,by unfold big;simp;omega,by cases o1<;>simp_all [qW]⟩]
 congr 3
 induction k.toNat with
 |zero=>rfl
 |succ n ih=>rw[List.replicate_succ,Yl,ih,List.replicate_succ];rfl
theorem vj3{ss:List Str}{rs:List D}{kp:Int}{gd:D}{st:D}(hr:rs[0]?=some (.tup [.int kp,gd,st]))(h0:0<=kp)(h1:kp<=1000):Oo m_first_standing [(.no,qk ss rs)] (λy=>∃_:Unit,y=(.no,.tup [.int 0,.tup (List.replicate kp.toNat .non)])/\True) noX:=by
 have hi:k6 (.lst rs) (.int 0)=some (.tup [.int kp,gd,st]):=wY (by decide) hr;unfold m_first_standing;refine v8 ?_;simp![p1,hi,t0,vk3 (o1:=.no) (o2:=.no) (a:=.non) (k:=kp) (by decide) h0 h1]
 first|trivial|exact⟨(),trivial⟩|exact⟨(),rfl,trivial⟩
def wr(x:Int):Int:=if x<=0 then x else x - 10 ^ 60
theorem in_i{p:Int}{ks:List Int}:zw (.int p) (iL ks)=some (.bl (ks.any λw=>w==p)):=by
 show(if(D.int p).flat 30&&D.flats 30 (ks.map D.int)then some (D.bl ((ks.map D.int).any λw=>peq w (.int p)))else none)=_;rw[show(D.int p).flat 30=true from rfl,xZ (ks:=ks.map D.int) (λk hk=>by obtain⟨w,_,rfl⟩:=List.mem_map.mp hk;rfl),List.any_map];rfl
theorem kvf{p:Int}{ks:List Int}:(ks.any λw=>w==p)=decide (p∈ks):=by
 rw[Bool.eq_iff_iff];simp
def bnd1(own k:Int):Int:=own+(if k=own then 1 else 0)
def Cs(kps:List Int)(b:Int)(c:D):Prop:=c=.non\/∃(to:Int) (fs:List Int),c=.tup [.int to,.tup (fs.map D.int)]/\0<=to/\to<kps.length/\(∀f∈fs,0<=f/\f<b)/\fs.Nodup/\(fs.length:Int)=kps.getD to.toNat 0
theorem qwn{α:Type}{p:α->Bool}:∀{l:List α},l.any p=true->l.findIdx? p=some (l.findIdx p)
 | [],h=>by cases h
 | a::l,h=>by
  rw[List.findIdx?_cons,List.findIdx_cons];cases hp:p a with
  |true=>simp
  |false=>
   rw[List.any_cons,hp,Bool.false_or]at h;rw[qwn h];simp
theorem wqs{α:Type}{p:α->Bool}{l:List α}(h:l.any p=true):l.findIdx p<l.length:=by
 obtain⟨x,hx,hp⟩:=List.any_eq_true.mp h;exact List.findIdx_lt_length_of_exists ⟨x,hx,hp⟩
abbrev iT(ks:List Int):D:=.tup (ks.map D.int)
def vzx(ks:List Int)(p:Int)(f:Int):Int:=(ks++[p]).getD f.toNat 0
def wqz(ks:List Int)(p:Int)(c:D):D:=match c with
 |.tup [to,.tup fs]=>.tup [to,.tup (fs.map λf=>match f with|.int i=>.int (vzx ks p i)|_=>.non)]
 |_=>.non
def wjt(ss:List Str)(st:List D)(ks:List Int)(z:Str)(p:Int):D:=match st[ss.findIdx λw=>w==z]? with
 |some (.lst cs)=>cs.getD (ks.findIdx λw=>w==p) .non
 |_=>.non
def wkr(ss:List Str)(st:List D)(ks:List Int)(z:Str)(p:Int):D:=if(ss.any λw=>w==z)=true then wqz ks p (wjt ss st ks z p)else .non
def Cas(kps:List Int)(n:Nat)(own:Int)(st:List D):Prop:=st.length=n/\∀c∈st,∃cs:List D,c=.lst cs/\(cs.length:Int)=own+1/\∀k:Nat,k<cs.length->∃z,cs[k]?=some z/\Cs kps (bnd1 own k) z
def Sok(kps:List Int)(s:D):Prop:=∃(room:Int) (ks:List D),s=.tup [.int room,.tup ks]/\0<=room/\room<kps.length/\(ks.length:Int)=kps.getD room.toNat 0/\∀k∈ks,At k
theorem Yz{ja:List Str}{kps:List Int}{rs:List D}{s:D}(hR:Rmw rs)(hx:Rx ja kps rs)(h:Sok kps s):∃(room:Int) (ks st:List D) (gd:D),s=.tup [.int room,.tup ks]/\0<=room/\rs[room.toNat]?=some (.tup [.int ks.length,gd,.lst st])/\(∀s∈st,St ks.length s)/\(∀k∈ks,At k)/\(∀s∈st,Sx ja kps s)/\st.length<=14:=by
 obtain⟨room,ks,rfl,r0,r1,hl,dz⟩:=h;obtain⟨gd,st,e,gv⟩:=hx.2 room.toNat (by omega);obtain⟨kp,nj,df,e',_,_,b7,kt⟩:=hR.2.2 _ (Xh e);injection e' with e';injection e' with a1 a2;injection a1 with a1;injection a2 with b1 b2;injection b2 with c1 c2;injection c1 with c1;subst c1 a1;rw[<-hl]at e b7;exact⟨room,ks,st,.bl gd,rfl,r0,e,b7,dz,gv,kt⟩
theorem qk7{ja:List Str}{kps:List Int}{ks st:List D}{p:Int}{k:Nat}(b7:∀s∈st,St ks.length s)(dz:∀k∈ks,At k)(gv:∀s∈st,Sx ja kps s)(hk:k<st.length):Sok kps (QJ ks (.int p) st[k]):=by
 obtain⟨z,g,to,fs,es,hg,hf,_⟩:=b7 st[k] (Xi hk);obtain⟨z',g',to',fs',es',_,t0,t1,nh⟩:=gv st[k] (Xi hk);rw[es]at es';injection es' with es';injection es' with _ e2;injection e2 with _ e3;injection e3 with e4 e5;injection e5 with e6 _;injection e4 with e4;injection e6 with e6;subst e4 e6;rw[es];refine⟨to,fs.map (ww ks (.int p)),rfl,t0,t1,by rw[X3];exact nh,λd hd=>?_⟩;obtain⟨f,pw,rfl⟩:=List.mem_map.mp hd;exact vj0 dz (.inr ⟨p,rfl⟩) (hf f pw)
theorem Z9{p:D->Bool}:∀{r:List D} {k:Nat} {d:D},d∈q9 p k r->∃j:Nat,d=.int j/\k<=j/\j<k+r.length
 | [],_,_,h=>by unfold q9 at h;cases h
 | s::r,k,d,h=>by
  unfold q9 at h
  split at h
  ·rcases List.mem_cons.mp h with rfl|h
   ·exact⟨k,rfl,X8 _,by simp⟩
   ·obtain⟨j,e,j0,j1⟩:=Z9 h;exact⟨j,e,by omega,by simp;omega⟩
  ·obtain⟨j,e,j0,j1⟩:=Z9 h;exact⟨j,e,by omega,by simp;omega⟩
theorem room_flat{n:Nat}{d:D}(h:Rm d):d.flat (n+4)=true:=by
 obtain⟨kp,gd,st,rfl,_,_,h,_⟩:=h;show D.flats (n+3) [.int kp,.bl gd,.lst st]=true;refine xZ λd hd=>?_
 simp only[Xw,Xm,or_false]at hd;rcases hd with rfl|rfl|rfl
 ·rfl
 ·rfl
 ·show D.flats (n+2) st=true;refine xZ λs hs=>?_
  obtain⟨z,g,to,fs,rfl,hg,hf,_⟩:=h s hs;show D.flats (n+1) [.str z,g,.int to,.tup fs]=true;refine xZ λd hd=>?_
  simp only[Xw,Xm,or_false]at hd;rcases hd with rfl|rfl|rfl|rfl
  ·rfl
  ·rcases hg with rfl|rfl|⟨i,_,_,rfl⟩<;>rfl
  ·rfl
  ·show D.flats n fs=true;exact xZ λf pw=>by rcases hf f pw with rfl|rfl|⟨i,_,_,rfl⟩<;>cases n<;>rfl
theorem wjq{xs:List D}{c:Int}(h0:0<=c)(h1:c<=xs.length):Jx xs none (some c)=xs.take c.toNat:=by
 unfold Jx zY;dsimp only;rw[Xe (by omega),List.drop_zero,show min c.toNat xs.length - 0=c.toNat by omega]
end C
namespace C
open Q PySem
def Rd(kps:List Int)(ss:List Str)(rs:List D)(s:D)(w:Str×Int)(s':D):Prop:=(s=.non/\s'=.non)\/∃(room:Int) (ks:List Int) (st:List D) (kp gd:D),s=.tup [.int room,iT ks]/\0<=room/\rs[room.toNat]?=some (.tup [kp,gd,.lst st])/\Cas kps ss.length ks.length st/\ks.length<=3/\s'=wkr ss st ks w.1 w.2
abbrev st0:D:=.tup [.int 0,iT []]
def qwc(rs:List D)(s:D):Bool:=match s with
 |.tup [.int room,_]=>(match rs[room.toNat]? with
  |some (.tup [_,.bl b,_])=>b
  |_=>false)
 |_=>false
end C
namespace C
open Q PySem
noncomputable section
def vx(K:List D)(d:D):List D:=if d∈K then K else K++[d]
def vZ:D->List D
 |.tup [_,.tup ks]=>ks
 |_=>[]
def wk5(rs:List D):D->List D
 |.tup [.int r,_]=>(match rs.getD r.toNat .non with
  |.tup [_,_,.lst st]=>st
  |_=>[])
 |_=>[]
def bh(ks st:List D)(p:Int):D->D
 |.int k=>QJ ks (.int p) (st.getD k.toNat .non)
 |_=>.non
def K6(rs:List D)(w:Str×Int)(s:D):List D:=(q9 (wj w.1 (vZ s) (.int w.2)) 0 (wk5 rs s)).map (bh (vZ s) (wk5 rs s) w.2)
end
def SokV(kps:List Int)(V:List D)(s:D):Prop:=∃(room:Int) (ks:List D),s=.tup [.int room,.tup ks]/\0<=room/\room<kps.length/\(ks.length:Int)=kps.getD room.toNat 0/\(∀k∈ks,At k)/\∀k∈ks,k∈V
theorem SokV.ok{kps:List Int}{V:List D}{s:D}(h:SokV kps V s):Sok kps s:=by
 obtain⟨room,ks,e,r0,r1,hl,ha,_⟩:=h;exact⟨room,ks,e,r0,r1,hl,ha⟩
def Kin(kps:List Int)(V K:List D):Prop:=K.Nodup/\∀s∈K,SokV kps V s
theorem kz3{kps:List Int}{V K:List D}{d:D}(h:Kin kps V K)(hd:SokV kps V d):Kin kps V (vx K d):=by
 unfold vx
 by_cases z:d∈K
 ·rw[Xb z];exact h
 ·rw[Xe z];refine⟨List.nodup_append.mpr ⟨h.1,List.nodup_cons.mpr ⟨Xm,Xr⟩,λa ha b hb e=>?_⟩,λs hs=>?_⟩
  ·rw[List.mem_singleton.mp hb]at e;exact z (e▸ha)
  ·rcases List.mem_append.mp hs with q|q
   ·exact h.2 s q
   ·rw[List.mem_singleton.mp q];exact hd
def tps(V:List D):Nat->List (List D)
 |0=>[[]]
 |n+1=>V.flatMap λv=>(tps V n).map (v :: ·)
theorem kxc{V:List D}:∀{ks:List D},(∀k∈ks,k∈V)->ks∈tps V ks.length
 |[],_=>List.mem_singleton.mpr rfl
 |k::ks,h=>List.mem_flatMap.mpr ⟨k,h k X2,List.mem_map.mpr ⟨ks,kxc λe he=>h e (lc9 _ he),rfl⟩⟩
theorem kv6{α β:Type}{f:α->List β}{c:Nat}:∀{l:List α},(∀a∈l,(f a).length<=c)->(l.flatMap f).length<=l.length*c
 |[],_=>Xv _
 |a::l,h=>by
  rw[Ys,Xn,Xl,Nat.succ_mul];have:=kv6 (l:=l) λb hb=>h b (lc9 _ hb)
  have:=h a X2;omega
theorem Q0{V:List D}(hV:V.length<=6):∀n,(tps V n).length<=6 ^ n
 |0=>X8 _
 |n+1=>by
  have h1:=kv6 (l:=V) (f:=λv=>(tps V n).map (v :: ·)) (c:=6 ^ n) λa _=>by rw[X3];exact Q0 hV n
  have h2:=Nat.mul_le_mul_right (6 ^ n) hV;have h3:6 ^ (n+1)=6*6 ^ n:=by rw[Nat.pow_succ,Nat.mul_comm]
  show(V.flatMap λv=>(tps V n).map (v :: ·)).length<=_;omega
theorem WJ{kps:List Int}{V K:List D}(h:Kin kps V K)(hk:kps.length<=4)(fw:∀k∈kps,k<=3)(hV:V.length<=6):K.length<=1036:=by
 have h1:=kqw (l:=K) (m:=(List.range 4).flatMap λ(r:Nat)=>(tps V 0++(tps V 1++(tps V 2++tps V 3))).map λks=>D.tup [.int (r:Int),.tup ks]) h.1 λs hs=>by
  obtain⟨room,ks,e,r0,r1,hl,ha,hv⟩:=h.2 s hs;have h3:ks.length<=3:=by
   have:=fw (kps.getD room.toNat 0) (by rw[X5,X1 (by omega)];exact Xi _);omega
  have hm:=kxc hv;refine List.mem_flatMap.mpr ⟨room.toNat,List.mem_range.mpr (by omega),List.mem_map.mpr ⟨ks,?_,by rw[e,Int.toNat_of_nonneg r0]⟩⟩;rw[List.mem_append,List.mem_append,List.mem_append];have:ks.length=0\/ks.length=1\/ks.length=2\/ks.length=3:=by omega
  rcases this with z|z|z|z<;>rw[z]at hm
  ·exact .inl hm
  ·exact .inr (.inl hm)
  ·exact .inr (.inr (.inl hm))
  ·exact .inr (.inr (.inr hm))
 have h2:=kv6 (l:=List.range 4) (f:=λ(r:Nat)=>(tps V 0++(tps V 1++(tps V 2++tps V 3))).map λks=>D.tup [.int (r:Int),.tup ks]) (c:=259) λa _=>by
  rw[X3,Xn,Xn,Xn];have a0:=Q0 hV 0;have a1:=Q0 hV 1;have a2:=Q0 hV 2;have a3:=Q0 hV 3;have:(6:Nat) ^ 0=1/\(6:Nat) ^ 1=6/\(6:Nat) ^ 2=36/\(6:Nat) ^ 3=216:=⟨rfl,rfl,rfl,rfl⟩;omega
 rw[Yg]at h2;exact Y0 h1 h2
theorem kz0{kps:List Int}{V K:List D}(h:Kin kps V K)(hk:kps.length<=12)(fw:∀k∈kps,k<=3)(hV:V.length<=6):K.length<=3108:=by
 have h1:=kqw (l:=K) (m:=(List.range 12).flatMap λ(r:Nat)=>(tps V 0++(tps V 1++(tps V 2++tps V 3))).map λks=>D.tup [.int (r:Int),.tup ks]) h.1 λs hs=>by
  obtain⟨room,ks,e,r0,r1,hl,ha,hv⟩:=h.2 s hs;have h3:ks.length<=3:=by
   have:=fw (kps.getD room.toNat 0) (by rw[X5,X1 (by omega)];exact Xi _);omega
  have hm:=kxc hv;refine List.mem_flatMap.mpr ⟨room.toNat,List.mem_range.mpr (by omega),List.mem_map.mpr ⟨ks,?_,by rw[e,Int.toNat_of_nonneg r0]⟩⟩;rw[List.mem_append,List.mem_append,List.mem_append];have:ks.length=0\/ks.length=1\/ks.length=2\/ks.length=3:=by omega
  rcases this with z|z|z|z<;>rw[z]at hm
  ·exact .inl hm
  ·exact .inr (.inl hm)
  ·exact .inr (.inr (.inl hm))
  ·exact .inr (.inr (.inr hm))
 have h2:=kv6 (l:=List.range 12) (f:=λ(r:Nat)=>(tps V 0++(tps V 1++(tps V 2++tps V 3))).map λks=>D.tup [.int (r:Int),.tup ks]) (c:=259) λa _=>by
  rw[X3,Xn,Xn,Xn];have a0:=Q0 hV 0;have a1:=Q0 hV 1;have a2:=Q0 hV 2;have a3:=Q0 hV 3;have:(6:Nat) ^ 0=1/\(6:Nat) ^ 1=6/\(6:Nat) ^ 2=36/\(6:Nat) ^ 3=216:=⟨rfl,rfl,rfl,rfl⟩;omega
 rw[Yg]at h2;exact Y0 h1 h2
theorem qxr{rs ks st:List D}{room:Int}{kp gd:D}(hr:rs[room.toNat]?=some (.tup [kp,gd,.lst st])):wk5 rs (.tup [.int room,.tup ks])=st:=by
 unfold wk5;dsimp only;rw[X5,hr];rfl
theorem Jz{room:D}{ks:List D}:vZ (.tup [room,.tup ks])=ks:=rfl
theorem vjc{ks st:List D}{p:Int}{k:Nat}(h:k<st.length):bh ks st p (.int k)=QJ ks (.int p) st[k]:=by
 unfold bh;dsimp only;rw[Ya,X5,X1 h];rfl
theorem vvy{ks V:List D}{d f:D}(hk:∀k∈ks,k∈V)(hd:d∈V)(hn:D.non∈V)(hf:Fd ks.length f):ww ks d f∈V:=by
 rcases hf with rfl|rfl|⟨i,h0,h1,rfl⟩
 ·exact hd
 ·exact hn
 ·exact hk _ (JX ks i h0 h1)
theorem jwm{ja:List Str}{kps:List Int}{ks st V:List D}{p:Int}{k:Nat}(b7:∀s∈st,St ks.length s)(dz:∀k∈ks,At k)(hV:∀k∈ks,k∈V)(hn:D.non∈V)(hp:D.int p∈V)(gv:∀s∈st,Sx ja kps s)(hk:k<st.length):SokV kps V (QJ ks (.int p) st[k]):=by
 obtain⟨room,c9,e,r0,r1,hl,ha⟩:=qk7 (p:=p) b7 dz gv hk;refine⟨room,c9,e,r0,r1,hl,ha,λd hd=>?_⟩;obtain⟨z,g,to,fs,es,hg,hf,_⟩:=b7 st[k] (Xi hk);rw[es]at e;have e:D.tup [.int to,.tup (fs.map (ww ks (.int p)))]=.tup [.int room,.tup c9]:=e;injection e with e;injection e with _ e;injection e with e _;injection e with e;subst e;obtain⟨f,pw,rfl⟩:=List.mem_map.mp hd;exact vvy hV hp hn (hf f pw)
theorem qzm{ja:List Str}{kps:List Int}{rs V:List D}{w:Str×Int}{s:D}(hR:Rmw rs)(hx:Rx ja kps rs)(hn:D.non∈V)(hp:D.int w.2∈V)(h:SokV kps V s):∀d∈K6 rs w s,SokV kps V d:=by
 intro d hd;obtain⟨b8,c9,e',_,_,_,_,hV⟩:=id h;obtain⟨room,ks,st,gd,rfl,r0,er,b7,dz,gv,kt⟩:=Yz hR hx h.ok;injection e' with e';injection e' with _ e';injection e' with e' _;injection e' with e';subst e';unfold K6 at hd;rw[qxr er,Jz]at hd;obtain⟨c,hc,rfl⟩:=List.mem_map.mp hd;obtain⟨j,rfl,_,hj⟩:=Z9 hc;rw[vjc (by omega)];exact jwm b7 dz hV hn hp gv (by omega)
theorem qw4{kps:List Int}{s:D}(h:Sok kps s):xY s=true:=by
 obtain⟨room,ks,rfl,_,_,_,ha⟩:=h;have:∀{l:List D},(∀k∈l,At k)->keyDs 4 l=true:=by
  intro l
  induction l with
  |nil=>intro _;rfl
  |cons a l ih=>
   intro h;have h1:jX 4 a=true:=by rcases h a X2 with rfl|⟨i,rfl⟩<;>rfl
   show(jX 4 a&&keyDs 4 l)=true;rw[h1,ih λk hk=>h k (lc9 _ hk)];rfl
 show((true&&(keyDs 4 ks&&true))&&true)=true;rw[this ha];rfl
theorem vvm{kps : List Int}{V : List D}: ∀{kvs : List (D × D)}, Kin kps V (kvs.map (·.1)) -> unm kvs = true
  | [], _=>rfl
  | (k, _)::r, h=>by
    obtain⟨_, _, e, _⟩:= h.2 k (by simp);subst e;rfl
theorem kv7{ss:List Str}{kps:List Int}{rs V:List D}{kp:Int}{gd st0:D}(hR:Rmw rs)(hx:Rx ss kps rs)(hn:D.non∈V)(fm:rs[0]?=some (.tup [.int kp,gd,st0]))(ko:0<=kp):Kin kps V [.tup [.int 0,.tup (List.replicate kp.toNat .non)]]:=by
 have h1:=hR.1;have h2:=hx.1;obtain⟨nj,df,e,_⟩:=hx.2 0 (by omega);rw[fm]at e;injection e with e;injection e with e;injection e with e _;injection e with e;refine⟨List.nodup_cons.mpr ⟨Xm,Xr⟩,λs hs=>?_⟩;rw[List.mem_singleton.mp hs];refine⟨0,_,rfl,by decide,by omega,?_,λk hk=>.inl (List.eq_of_mem_replicate hk),λk hk=>by rw[List.eq_of_mem_replicate hk];exact hn⟩;rw[Yb,show(0:Int).toNat=0 from rfl,<-e];omega
noncomputable section
end
end C
namespace B
open Q PySem C
abbrev Sn:=Option (Int×List Int)
def nms:Sn->List Int
 |none=>[]
 |some p=>p.2
end B
namespace B
open PySem Q
def kv1:Fn:=fn 5
  (j4 (j6 2 (jZ .rt []))
  (j4 (sIf (tE (cF2 (pu2 fEq) (vE (cF2 (pu2 kW) (vV 0) (C9 2))) (C9 1))) (j4 (j6 0 (cF2 (pu2 z6) (vV 0) (C9 2)))
  (j4 (qQ (vk (vV 1)) (.n 3) (j4 (k9 kj 2 (cF2 (pu2 kW) (vV 0) (C9 2147483647)))
  (j6 0 (cF2 (pu2 z6) (vV 0) (C9 2147483647)))))
  (jv (cMv 2)))) k7)
  (j4 (j6 4 (cF2 jq (vE (cF2 (pu2 kW) (vE (cF2 (pu2 z6) (vV 0) (C9 2))) (C9 2147483647))) (C9 48271)))
  (j4 (qQ (vk (vE (cF2 jq (vV 1) (C9 1)))) (.n 3) (j4 (j6 4 (cF2 (pu2 kW) (vE (cF2 jq (vE (cF2 jq (vE (cF2 jY (vV 4) (vV 4))) (vE (cF2 jY (C9 48271) (vV 4))))) (vV 3))) (C9 2147483647)))
  (k9 kj 2 (cF2 (pu2 kW) (vE (cF2 jq (vE (cF2 jY (vV 4) (C9 40692))) (vE (cF2 jY (C9 7) (vV 3))))) (C9 2147483399)))))
  (jv (cSl (vV 2) (some (C9 1)) none))))))
def m__law_signs:Fn:=fn 7
  (j4 (j6 1 (cC (.str "abcdefghijklmnopqrstuvwxyz")))
  (j4 (j6 2 (jK kv1 [(cV 0),(cC (.int 9))]))
  (j4 (j6 3 (wv0 "" (vE (cLC .rt 1 [1] (itS (cSl (vV 2) none (some (vE (cF2 jq (C9 1) (vE (cF2 (pu2 kW) (vV 0) (C9 8)))))))) (.n 0) tYes (cH (j3 (vV 1) (vE (cF2 (pu2 kW) (vV 0) (C9 26)))))))))
  (j4 (j6 4 (cF2 (pu2 kW) (vE (cF2 (pu2 z6) (vV 0) (C9 8))) (vE (cF1 (pu1 kX) (vV 3)))))
  (j4 (j6 5 (jZ .rt []))
  (j4 (qQ (vk (j3 (vE (jZ .rt [(cC (.int 1)),(cC (.int 2)),(cC (.int 1)),(cC (.int 2)),(cC (.int 2)),(cC (.int 1)),(cC (.int 2)),(cC (.int 3))])) (vE (cF2 (pu2 kW) (vE (cF2 (pu2 z6) (vV 0) (C9 64))) (C9 8))))) (.n 6) (k9 kj 5 (cF2 jq (vE (cF2 jq (vE (cSl (vV 3) none (some (vV 4)))) (j3 (vV 1) (vE (cF2 jq (vE (cF2 (pu2 kW) (j3 (vV 2) (C9 8)) (C9 24))) (vV 6)))))) (vE (cSl (vV 3) (some (vE (cF2 jq (vV 4) (C9 1)))) none)))))
  (jv (cMv 5))))))))
def Q9:Fn:=fn 6
  (j4 (j6 3 (Q8 (vV 2)))
  (j4 (j6 4 (jZ .rt []))
  (j4 (qQ (vk (vV 1)) (.n 5) (j4 (k9 kj 4 (cPop 3 (vE (cF2 (pu2 kW) (vV 0) (vE (cF1 (pu1 kX) (vV 3)))))))
  (j6 0 (cF2 jq (vE (cF2 (pu2 z6) (vV 0) (C9 7))) (vE (cF2 jY (C9 5) (vV 5)))))))
  (jv (cF1 x3 (vV 4))))))
end B
namespace B
open Q PySem C
def St(n:Int)(xs:List Int):Prop:=(xs.length:Int)=n/\∀x∈xs,0<=x/\x<2147483647
def ww(S:Sn)(c:Int):D:=if c∈nms S then .int ((nms S).findIdx λw=>w==c:Nat)else .non
end B
namespace A
open Q PySem C B
def Sh(c:Int):Prop:=c.natAbs.log2<1100000
end A
namespace F
open Q PySem C
def m_names_held:Fn:=fn 3
  (j4 (j6 1 (jZ .rt []))
  (j4 (qQ (itS (cV 0)) (.n 2) (sIf (tAnd (tE (cF2 (f2First fNotNon) (vV 2) (vE (cC .non)))) (tE (cF2 (pu2 vQ) (vV 2) (vV 1)))) (k9 kj 1 (cV 2)) k7))
  (jv (cMv 1))))
def VW:Fn:=fn 2
  (jv (cF1 x3 (vE (cLC .rt 1 [0] (itS (cV 1)) (.n 0) tYes (cIf (tE (cF2 (f2First fIsNon) (vV 0) (vE (cC .non)))) (cC .non) (Vv (vV 1) (vV 0)))))))
def JJ:Fn:=fn 4
  (j4 (sIf (tE (cF2 (f2First fIsNon) (vV 0) (vE (cC .non)))) (jv (cC .non)) k7)
  (j4 (j6 2 (jK m_names_held [(cH (j3 (vV 0) (C9 1)))]))
  (j4 (j6 3 (kw .no [(cH (j3 (vV 0) (C9 0))),(jK VW [(cV 2),(cH (j3 (vV 0) (C9 1)))])]))
  (jv (kw .no [(YW 1 (vV 3) (vE (cF1 (pu1 Qw) (vV 1)))),(cF1 x3 (vV 2))])))))
def V9(rz:Sm):Fn:=fn 5
  (j4 (j6 4 (jK C.m_fitting [(cV 0),(cV 1),(cV 2),(cV 3)]))
  (j4 (sIf (tE (cF2 (pu2 fGt) (vE (cF1 (pu1 kX) (vV 4))) (C9 1))) rz k7)
  (jv (cIf (tEQ (vV 4)) (jK C.m_behind [(cV 0),(cV 1),(cH (j3 (vV 4) (C9 0))),(cV 3)]) (cC .non)))))
def m_plain_cases(rz:Sm):Fn:=fn 5
  (j4 (j6 4 (Q8 (vE (cF2 jq (vE (cF1 (pu1 kX) (vE (jK m_names_held [(cH (j3 (vV 1) (C9 1)))])))) (C9 1)))))
  (jv (cLC .rt 1 [0,1,2,3] (itS (cV 4)) (.n 0) tYes (V5 JJ 4 [(jK (V9 rz) [(cV 1),(cV 2),(cV 3),(cV 0)])]))))
def Kw(rz:Sm):Fn:=fn 5
  (j4 (j6 1 (qx5 (jK C.m_first_standing [(cV 0)]) (cC (.int 0))))
  (j4 (j6 2 (jZ .rt []))
  (j4 (sWhile (tE (cF2 (pu2 fLt) (vE (cF1 (pu1 kX) (vV 2))) (vE (cF1 (pu1 Qw) (vV 1))))) (j4 (j6 3 (cH (j3 (vE (cF1 JW (vV 1))) (vE (cF1 (pu1 kX) (vV 2))))))
  (j4 (j6 4 (cLC .rt 1 [0,3,1] (itS (cH (j3 (vV 0) (C9 0)))) (.n 0) tYes (V5 (m_plain_cases rz) 3 [(cV 1),(cV 2),(cV 0)])))
  (k9 kj 2 (kw .no [(cF1 (pu1 kX) (vE (jK m_names_held [(cH (j3 (vV 3) (C9 1)))]))),(cH (j3 (j3 (j3 (vV 0) (C9 1)) (j3 (vV 3) (C9 0))) (C9 1))),(cV 4)])))))
  (jv (kw .no [(kw .no [(cF1 zK (j3 (vV 0) (C9 0))),(cV 2)]),(cF1 JW (vV 1))])))))
def vK(ac:List Int):D->List Int
 |.int i=>if i∈ac then ac else ac++[i]
 |_=>ac
def jx(ks:List D):List Int:=ks.foldl vK []
theorem vvt(ac:List Int)(d:D):(vK ac d).length<=ac.length+1:=by
 unfold vK
 split
 ·split<;>simp
 ·omega
theorem qjn:∀(ks:List D) (ac:List Int),(ks.foldl vK ac).length<=ac.length+ks.length
 |[],_=>by simp
 |k::ks,ac=>by
  rw[List.foldl_cons,Xl];have:=qjn ks (vK ac k);have:=vvt ac k;omega
theorem Kq(ks:List D):(jx ks).length<=ks.length:=by
 have:=qjn ks [];rw[List.length_nil,Nat.zero_add]at this;exact this
theorem vvs{ac:List Int}{d:D}{i:Int}(h:i∈ac):i∈vK ac d:=by
 unfold vK
 split
 ·split
  ·exact h
  ·exact ll9 _ h
 ·exact h
theorem qjl:∀{ks:List D} {ac:List Int} {i:Int},i∈ac->i∈ks.foldl vK ac
 |[],_,_,h=>h
 |k::ks,ac,i,h=>qjl (ks:=ks) (vvs h)
theorem qwi:∀{ks:List D} {ac:List Int} {i:Int},D.int i∈ks->i∈ks.foldl vK ac
 | k::ks,ac,i,h=>by
  rw[List.foldl_cons];rcases List.mem_cons.mp h with rfl|h
  ·refine qjl ?_;unfold vK;dsimp only
   split
   ·assumption
   ·simp
  ·exact qwi h
theorem qjc{ks:List D}{i:Int}(h:D.int i∈ks):i∈jx ks:=qwi h
theorem vk1{p:Int}{ks:List Int}:vQ (.int p) (iL ks)=some (.bl (!decide (p∈ks))):=by
 have h:=in_i (p:=p) (ks:=ks);rw[kvf]at h;have h:fIn (.int p) (iL ks)=some (.bl (decide (p∈ks))):=h;show(fIn (.int p) (iL ks)).bind _=_;rw[h];rfl
theorem YX{ks:List D}(hk:∀k∈ks,At k)(hl:ks.length<=100):Oo m_names_held [(.no,.tup ks)] (λy=>∃_:Unit,y=(.rt,iL (jx ks))/\True) noX:=by
 unfold m_names_held;refine v8 ?_;simp![];refine zQ (λE rest=>∃(k1:List D) (l2:Option Sd),E=[some (.no,.tup ks),some (.rt,iL (jx k1)),l2]/\ks=k1++rest) ?_ ?_ ?_
 ·simp![];exact⟨[],_,rfl,rfl⟩
 ·rintro E d ds ⟨k1,l2,rfl,he⟩;have ae:=congrArg List.length he;rw [Xn,Xl]at ae;have hb:=Kq k1;have hsn:jx (k1++[d])=vK (jx k1) d:=by unfold jx;rw[List.foldl_append];rfl
  rcases hk d (by rw[he];simp)with rfl|⟨i,rfl⟩
  ·simp![];exact⟨k1++[.non],_,by rw[hsn];rfl,by rw[he];simp⟩
  ·by_cases hm:i∈jx k1
   ·have hq:=vk1 (p:=i) (ks:=jx k1);rw[Xd hm]at hq;simp![hq];exact⟨k1++[.int i],_,by rw[hsn];unfold vK;dsimp only;rw[Xb hm],by rw[he];simp⟩
   ·have hq:=vk1 (p:=i) (ks:=jx k1);rw[Xa hm]at hq;simp![hq];refine x9 rfl ?_;simp![];have e4:(jx k1).map D.int++[D.int i]=(jx (k1++[.int i])).map D.int:=by
     rw[hsn,show vK (jx k1) (.int i)=jx k1++[i]from Xe hm,Xx];rfl
    exact⟨_,rfl,by simp;omega,k1++[.int i],_,by rw[e4],by rw[he];simp⟩
 ·rintro E ⟨k1,l2,rfl,he⟩;rw[Xp]at he;subst he;simp![]
  first|trivial|exact⟨(),trivial⟩|exact⟨(),rfl,trivial⟩
def plc(ns:List Int):D->D
 |.int i=>.int (ns.findIdx λw=>w==i:Nat)
 |d=>d
def pr(ks:List D):List D:=ks.map (plc (jx ks))
theorem vka{p:Int}{ks:List Int}(h:(ks.any λw=>w==p)=true):V7 (iL ks) (.int p)=some (.int (ks.findIdx λw=>w==p:Nat)):=by
 show(if(D.int p).flat 30&&D.flats 30 (ks.map D.int)then((ks.map D.int).findIdx? λw=>peq w (.int p)).map λ(j:Nat)=>D.int (j:Int)else none)=_;rw[show(D.int p).flat 30=true from rfl,xZ (ks:=ks.map D.int) (λk hk=>by obtain⟨w,_,rfl⟩:=List.mem_map.mp hk;rfl),List.findIdx?_map];have:ks.findIdx? ((λw=>peq w (.int p))∘D.int)=ks.findIdx? λw=>w==p:=rfl
 rw[this,qwn h];rfl
theorem qv3{ks:List D}(hk:∀k∈ks,At k):Oo VW [(.no,iL (jx ks)),(.no,.tup ks)] (λy=>∃_:Unit,y=(.no,.tup (pr ks))/\True) noX:=by
 unfold VW;refine v8 ?_;simp![];refine kjx [some (.no,iL (jx ks))] (λd y=>y.2=plc (jx ks) d) ?_;simp![];refine⟨rfl,λd hd=>?_,λys hy=>?_⟩
 ·rcases hk d hd with rfl|⟨i,rfl⟩
  ·simp![];exact⟨⟨_,rfl⟩,rfl⟩
  ·have hm:((jx ks).any λw=>w==i)=true:=by rw[kvf];exact Xd (qjc hd)
   simp![vka hm];exact⟨⟨_,rfl⟩,rfl⟩
 ·rw[KW,jxj (h:=plc (jx ks)) (λd y h=>h) hy];simp only[back,clr,at',List.map_cons,List.map_nil,List.set_cons_zero,List.set_cons_succ];simp![K9 (o:=.no) (xs:=ks.map (plc (jx ks))) (by decide)]
  first|trivial|exact⟨(),trivial⟩|exact⟨(),rfl,trivial⟩
def vX:Nat->List D->List (D×D)
 |_,[]=>[]
 |n,d::K=>(d,.int n)::vX (n+1) K
def v6(K:List D):List (D×D):=vX 0 K
theorem qq2:∀(a b:List D) (n:Nat),vX n (a++b)=vX n a++vX (n+a.length) b
 |[],b,n=>by simp[vX]
 |d::a,b,n=>by
  rw[List.cons_append,vX,vX,qq2 a b (n+1),List.cons_append,Xl]
  congr 3
  omega
theorem kxb:∀(K:List D) (n:Nat),(vX n K).length=K.length
 |[],_=>rfl
 |d::K,n=>by rw[vX,Xl,kxb K,Xl]
theorem kqf:∀(K:List D) (n:Nat),(vX n K).map (·.1)=K
 |[],_=>rfl
 |d::K,n=>by rw[vX,List.map_cons,kqf K]
theorem kzj:∀(K:List D) (n:Nat),D.pures ((vX n K).map (·.2))=true
 |[],_=>rfl
 |d::K,n=>by
  rw[vX,List.map_cons];show(D.pure (.int n)&&D.pures ((vX (n+1) K).map (·.2)))=true;rw[kzj K];rfl
theorem qq1:∀(K:List D) (n:Nat) (p:D),x6 (vX n K) p=if p∈K then some (.int (n+K.idxOf p:Nat))else none
 | [],_,p=>by simp[vX,x6]
 | d::K,n,p=>by
  by_cases h:d=p
  ·subst h;unfold x6;rw[vX,List.find?_cons_of_pos (by simp),Xb X2];simp
  ·have ih:=qq1 K (n+1) p;have e:x6 (vX n (d::K)) p=x6 (vX (n+1) K) p:=by
    unfold x6;rw[vX,List.find?_cons_of_neg (by simpa using h)]
   rw[e,ih]
   by_cases hm:p∈K
   ·rw[Xb hm,Xb (lc9 _ hm),List.idxOf_cons,show(d==p)=false by simpa using h]
    congr 2
    simp;omega
   ·rw[Xe hm,Xe (λz=>by rcases List.mem_cons.mp z with z|z;exact h z.symm;exact hm z)]
theorem qq3(K:List D)(p:D):v6 (K++[p])=v6 K++[(p,.int K.length)]:=by
 unfold v6;rw[qq2,Nat.zero_add];rfl
theorem vvw(K:List D)(p:D):((vx K p).idxOf p:Int)=if p∈K then(K.idxOf p:Int)else K.length:=by
 unfold vx
 by_cases h:p∈K
 ·rw[Xb h,Xb h]
 ·rw[Xe h,Xe h,List.idxOf_append,Xe h];simp
def wK(K:List D)(s:D):List D×D:=match s with
 |.tup [room,.tup ks]=>(vx K (.tup [room,.tup (pr ks)]),.tup [.int ((vx K (.tup [room,.tup (pr ks)])).idxOf (.tup [room,.tup (pr ks)]):Nat),iT (jx ks)])
 |_=>(K,.non)
theorem vw6{ks K:List D}{room:Int}(hk:∀k∈ks,At k)(hl:ks.length<=6)(hK:K.length<9000)(dk:xY (.tup [.int room,.tup (pr ks)])=true)(hu:unm (v6 K)=true):
  Oom JJ [(.no,.tup [.int room,.tup ks]),(.rt,.dct (v6 K))] 1 (λy x'=>y=(.no,(wK K (.tup [.int room,.tup ks])).2)/\x'=(.rt,.dct (v6 (wK K (.tup [.int room,.tup ks])).1))) noX:=by
 unfold JJ;refine qvf ?_;refine ZZ (vzr ?_);simp![];refine qzj ?_;simp![];refine ZZ (qzj ?_);simp![p1];refine(YX hk (by omega)).use ?_;intro _ _;simp![];refine ZZ (qzj ?_);simp![p0,p1];refine(qv3 hk).use ?_;intro _ _;simp![];refine qvg ?_;simp![];refine vq3 hu ?_;simp![qvu hu];have hz:=qq1 K 0 (.tup [.int room,.tup (pr ks)]);have jl:(v6 K).length=K.length:=kxb K 0;refine⟨v6 K,rfl,⟨dk,by rw[jl];omega,hu,kzj _ _⟩,λd hd=>?_,λhn=>?_⟩
 ·have hm:(D.tup [.int room,.tup (pr ks)])∈K:=by
   by_cases hm:(D.tup [.int room,.tup (pr ks)])∈K
   ·exact hm
   ·rw[Xe hm]at hz;unfold v6 at hd;rw[hz]at hd;cases hd
  rw[Xb hm,Nat.zero_add]at hz;unfold v6 at hd;rw[hz]at hd;cases oq9 hd;have e1:vx K (.tup [.int room,.tup (pr ks)])=K:=by unfold vx;rw[Xb hm]
  simp![K9 (o:=.no) (xs:=(jx ks).map D.int) (by decide)];show _/\_;unfold wK;dsimp only;rw[e1];exact⟨rfl,rfl⟩
 ·have hm:(D.tup [.int room,.tup (pr ks)])∉K:=λhm=>by
   rw[Xb hm]at hz;unfold v6 at hn;rw[hz]at hn;cases hn
  have e1:vx K (.tup [.int room,.tup (pr ks)])=K++[.tup [.int room,.tup (pr ks)]]:=by unfold vx;rw[Xe hm]
  have e2:=vvw K (.tup [.int room,.tup (pr ks)]);rw[Xe hm]at e2;simp![K9 (o:=.no) (xs:=(jx ks).map D.int) (by decide),jl];show _/\_;unfold wK;dsimp only;rw[e2,e1,qq3];exact⟨rfl,rfl⟩
theorem qwy{K:List D}:Oom JJ [(.no,.non),(.rt,.dct (v6 K))] 1 (λy x'=>y.2=.non/\x'=(.rt,.dct (v6 K))) noX:=by
 unfold JJ;refine qvf ?_;refine ZZ (vzr ?_);simp![];refine qvg ?_;simp![]
 first|rfl|exact⟨rfl,rfl⟩
end F
namespace F
open Q PySem C
def obD(rs:List D)(s:D)(z:Str)(p:Int):Option D:=match K6 rs (z,p) s with
 |[]=>some .non
 |[d]=>some d
 |_=>none
def ww4(rz:Sm):Prop:=∀(e:Option Sd) (E:En) (N C:En->Prop) (R:Sd->Prop) (X:XP),X "NotSingle"->Po (rz (e::E)) N C R X
theorem vva{rz:Sm}{ss:List Str}{rs V:List D}{kps:List Int}{s:D}{z:Str}{p:Int}{X:XP}(hR:Rmw rs)(hx:Rx ss kps rs)(hs:SokV kps V s)(hz:obD rs s z p=none->ww4 rz/\X "NotSingle"):
  Oo (V9 rz) [(.no,qk ss rs),(.no,s),(.no,.str z),(.no,.int p)] (λy=>obD rs s z p=some y.2) X:=by
 obtain⟨room,ks,st,gd,rfl,r0,er,b7,dz,gv,kt⟩:=Yz hR hx hs.ok;have dl:At (.int p):=.inr ⟨p,rfl⟩;have n6:K6 rs (z,p) (.tup [.int room,.tup ks])=(q9 (wj z ks (.int p)) 0 st).map (bh ks st p):=by unfold K6;rw[qxr er,Jz]
 unfold V9;refine v8 ?_;simp![];refine(qko r0 er b7 dz dl).any.use ?_;intro _ _;unfold obD at hz ⊢;rw [n6]at hz ⊢;cases hf:q9 (wj z ks (.int p)) 0 st with
 | nil=>
  have ql:fGt (.int (([]:List D).length:Nat)) (.int 1)=some (.bl false):=rfl;simp![ql]
  first|rfl|trivial
 | cons c r=>
  rw[hf]at hz;obtain⟨j,rfl,_,hj⟩:=Z9 (show c∈q9 (wj z ks (.int p)) 0 st by rw[hf];exact X2);have hj:j<st.length:=by omega
  cases r with
  | nil=>
   have p9:k6 (.lst [.int j]) (.int 0)=some (.int j):=rfl;have ql:fGt (.int (([.int j]:List D).length:Nat)) (.int 1)=some (.bl false):=rfl;simp![ql,p9];rw[Xe (by decide),Xb (by rfl)];refine(qxa r0 er b7 hj).any.use ?_;intro _ _;rw[vjc hj]
  | cons c2 r2=>
   have ql:fGt (.int ((.int j::c2::r2:List D).length:Nat)) (.int 1)=some (.bl true):=by
    show some (D.bl (decide ((1:Int)<((.int j::c2::r2:List D).length:Nat))))=_;rw[Xd (by simp;omega)]
   simp![ql];rw[Xb (Xd (by omega))];obtain⟨h1,h2⟩:=hz rfl;exact h1 _ _ _ _ _ _ h2
def V4:List D:=[.non,.int 0,.int 1,.int 2,.int 3]
theorem vzv{ss:List Str}{rs:List D}{kps:List Int}{s d:D}{z:Str}{p:Int}(hR:Rmw rs)(hx:Rx ss kps rs)(hs:SokV kps V4 s)(hp:D.int p∈V4)(h:obD rs s z p=some d):d=.non\/SokV kps V4 d:=by
 have hn:=qzm (w:=(z,p)) hR hx (by simp[V4]) hp hs;unfold obD at h
 split at h
 ·cases h;exact .inl rfl
 ·rename_i d' e;cases h;exact .inr (hn d (by rw[e];exact List.mem_singleton.mpr rfl))
 ·cases h
theorem kz7{ns:List Int}{i:Int}(h:i∈ns):(ns.findIdx λw=>w==i)<ns.length:=wqs (by rw[kvf];exact Xd h)
theorem wq4{ks:List D}(hk:∀k∈ks,At k)(hl:ks.length<=3):(∀d∈pr ks,At d)/\∀d∈pr ks,d∈V4:=by
 have key:∀d∈pr ks,d=.non\/∃i:Nat,d=.int i/\i<3:=λd hd=>by
  unfold pr at hd;obtain⟨k,hk',rfl⟩:=List.mem_map.mp hd;rcases hk k hk' with rfl|⟨i,rfl⟩
  ·exact .inl rfl
  ·have:=kz7 (qjc hk');have:=Kq ks;exact .inr ⟨_,rfl,by omega⟩
 refine⟨λd hd=>?_,λd hd=>?_⟩
 ·rcases key d hd with rfl|⟨i,rfl,_⟩
  ·exact .inl rfl
  ·exact .inr ⟨_,rfl⟩
 ·rcases key d hd with rfl|⟨i,rfl,hi⟩
  ·simp[V4]
  ·have:i=0\/i=1\/i=2:=by omega
   rcases this with rfl|rfl|rfl<;>simp[V4]
theorem wqi{kps:List Int}{room:Int}(h3:∀k∈kps,k<=3)(r0:0<=room)(r1:room<kps.length):kps.getD room.toNat 0<=3:=by
 have:room.toNat<kps.length:=by omega
 refine h3 _ ?_;rw[X5,X1 this];exact Xi _
theorem z7{kps:List Int}{room:Int}{ks:List D}(h3:∀k∈kps,k<=3)(h:SokV kps V4 (.tup [.int room,.tup ks])):SokV kps V4 (.tup [.int room,.tup (pr ks)])/\ks.length<=3:=by
 obtain⟨b8,c9,e,r0,r1,hl,ha,hV⟩:=h;injection e with e;injection e with e1 e;injection e with e2 _;injection e1 with e1;injection e2 with e2;subst e1 e2;have:=wqi h3 r0 r1;have ij:ks.length<=3:=by omega
 obtain⟨q1,q2⟩:=wq4 ha ij;exact⟨⟨room,pr ks,rfl,r0,r1,by unfold pr;rw[X3];exact hl,q1,q2⟩,ij⟩
theorem kvb{kps:List Int}{K:List D}{d:D}(h3:∀k∈kps,k<=3)(hK:Kin kps V4 K)(hd:d=.non\/SokV kps V4 d):Kin kps V4 (wK K d).1:=by
 rcases hd with rfl|hd
 ·exact hK
 ·obtain⟨room,ks,rfl,_⟩:=id hd;exact kz3 hK (z7 h3 hd).1
theorem qjg{kps:List Int}{K:List D}(hK:Kin kps V4 K):unm (v6 K)=true:=vvm (kps:=kps) (V:=V4) (by unfold v6;rw[kqf];exact hK)
def v9(rs:List D)(s:D)(z:Str):List D->List D->Option (List D×List D)
 |[],K=>some (K,[])
 |.int p::ps,K=>match obD rs s z p with
  |none=>none
  |some d=>(v9 rs s z ps (wK K d).1).map λr=>(r.1,(wK K d).2::r.2)
 |_::_,_=>none
theorem kqp{kps:List Int}{K:List D}{d:D}(dv:kps.length<=12)(h3:∀k∈kps,k<=3)(hK:Kin kps V4 K)(hd:d=.non\/SokV kps V4 d):
  Oom JJ [(.no,d),(.rt,.dct (v6 K))] 1 (λy x'=>y.2=(wK K d).2/\x'=(.rt,.dct (v6 (wK K d).1))) noX:=by
 rcases hd with rfl|hd
 ·exact qwy
 ·obtain⟨room,ks,rfl,r0,r1,hl,ha,hV⟩:=id hd;obtain⟨q1,q2⟩:=z7 h3 hd;have:=kz0 hK dv h3 (by decide);exact(vw6 ha (by omega) (by omega) (qw4 q1.ok) (qjg hK)).mono (λy x h=>⟨by rw[h.1],h.2⟩) λc h=>h.elim
theorem vja{rz:Sm}{ss:List Str}{rs K:List D}{kps:List Int}{s:D}{z:Str}{X:XP}(hR:Rmw rs)(hx:Rx ss kps rs)(h3:∀k∈kps,k<=3)(hs:SokV kps V4 s)(hK:Kin kps V4 K)
  (hz:v9 rs s z (jQ 0 ((jx (vZ s)).length+1)) K=none->ww4 rz/\X "NotSingle"):
  Oom (m_plain_cases rz) [(.no,qk ss rs),(.no,s),(.no,.str z),(.rt,.dct (v6 K))] 3 (λy x'=>∃K' cs,v9 rs s z (jQ 0 ((jx (vZ s)).length+1)) K=some (K',cs)/\y=(.rt,.lst cs)/\x'=(.rt,.dct (v6 K'))/\Kin kps V4 K') X:=by
 have dv:kps.length<=12:=by have:=hx.1;have:=hR.2.1;omega
 obtain⟨room,ks,rfl,r0,r1,hl,ha,hV⟩:=id hs;have ij:=(z7 h3 hs).2;rw[Jz]at hz ⊢;have rk:=Kq ks;have jf:∀d∈jQ 0 (((jx ks).length:Int)+1),∃p:Int,d=.int p/\d∈V4:=λd hd=>by
  unfold jQ at hd;obtain⟨i,hi,rfl⟩:=List.mem_map.mp hd;have hi:=List.mem_range.mp hi;refine⟨_,rfl,?_⟩;have:i=0\/i=1\/i=2\/i=3:=by omega
  rcases this with rfl|rfl|rfl|rfl<;>simp[V4]
 generalize hps:jQ 0 (((jx ks).length:Int)+1)=ps at hz jf;unfold m_plain_cases;refine qvf ?_;refine ZZ (qzj ?_);simp![p1];refine(YX ha (by omega)).any.use ?_;intro _ _;simp![];refine qvg ?_;rw[hps];refine YK (λE1 B ds ac=>E1=[some (.no,qk ss rs),some (.no,.tup [.int room,.tup ks]),some (.no,.str z),some (.rt,.dct (v6 K)),some (.no,.lst ps)]/\∃q K1,B=[q,some (.no,qk ss rs),some (.no,.tup [.int room,.tup ks]),some (.no,.str z),some (.rt,.dct (v6 K1))]/\Kin kps V4 K1/\(∀d∈ds,∃p:Int,d=.int p/\d∈V4)/\v9 rs (.tup [.int room,.tup ks]) z ps K=(v9 rs (.tup [.int room,.tup ks]) z ds K1).map λr=>(r.1,ac.map (·.2)++r.2)) ?_ ?_ ?_
 ·simp![];exact⟨none,K,rfl,hK,jf,by simp⟩
 ·rintro E1 B d ds ac ⟨rfl,q,K1,rfl,hK1,cp,hc⟩;obtain⟨p,rfl,r9⟩:=cp d X2;simp![];refine qjv ?_;simp![];refine(vva hR hx hs (λhn=>hz (by rw[hc,v9,hn];rfl))).via ?_;intro y hy;simp![];have hd:=vzv hR hx hs r9 hy;refine⟨_,rfl,(kqp dv h3 hK1 hd).mono (λy' x' h=>?_) λc h=>h.elim⟩;obtain⟨h1,rfl⟩:=h;refine⟨_,(wK K1 y.2).1,rfl,kvb h3 hK1 hd,λd hd=>cp d (lc9 _ hd),?_⟩;rw[hc,v9,hy];simp[Option.map_map,Function.comp_def,h1]
 ·rintro E1 B ac ⟨rfl,q,K1,rfl,hK1,_,hc⟩;rw[KW];simp only[J8,back,clr,at',List.drop,List.map_cons,List.map_nil,List.set_cons_zero,List.set_cons_succ];exact⟨K1,ac.map (·.2),by rw[hc];simp[v9],rfl,rfl,hK1⟩
end F
namespace F
open Q PySem C
def QZ(rs:List D)(s:D)(z:Str)(K:List D):Option (List D×List D):=v9 rs s z (jQ 0 ((jx (vZ s)).length+1)) K
def vz(rs:List D)(s:D):List Str->List D->Option (List D×List D)
 |[],K=>some (K,[])
 |z::zs,K=>match QZ rs s z K with
  |none=>none
  |some r=>(vz rs s zs r.1).map λq=>(q.1,.lst r.2::q.2)
def qwc(rs:List D)(s:D):D:=match s with
 |.tup [.int room,_]=>(match rs[room.toNat]? with
  |some (.tup [_,g,_])=>g
  |_=>.non)
 |_=>.non
def Q6(rs:List D)(s:D)(st:List D):D:=.tup [.int (jx (vZ s)).length,qwc rs s,.lst st]
def W1(ss:List Str)(rs K a8:List D):Option (List D×List D):=(vz rs (K.getD a8.length .non) ss K).map λr=>(r.1,a8++[Q6 rs (K.getD a8.length .non) r.2])
inductive Run (ss:List Str)(rs:List D):List D->List D->Option (List D×List D)->Prop
 |stop {K a8:List D}:¬a8.length<K.length->Run ss rs K a8 (some (K,a8))
 |fail {K a8:List D}:a8.length<K.length->W1 ss rs K a8=none->Run ss rs K a8 none
 |go {K a8 K' fc:List D} {r:Option (List D×List D)}:a8.length<K.length->W1 ss rs K a8=some (K',fc)->Run ss rs K' fc r->Run ss rs K a8 r
theorem Run.det{ss:List Str}{rs K a8:List D}{r r':Option (List D×List D)}(h:Run ss rs K a8 r):Run ss rs K a8 r'->r=r':=by
 induction h with
 | stop h=>
  intro h';cases h' with
  |stop=>rfl
  |fail h1=>exact absurd h1 h
  |go h1=>exact absurd h1 h
 | fail h e=>
  intro h';cases h' with
  |stop h1=>exact absurd h h1
  |fail=>rfl
  |go _ e'=>rw[e]at e';cases e'
 | go h e _ ih=>
  intro h';cases h' with
  |stop h1=>exact absurd h h1
  |fail _ e'=>rw[e]at e';cases e'
  |go _ e' h2=>
   rw[e]at e';cases e';exact ih h2
theorem qku{K:List D}{d:D}:K.length<=(wK K d).1.length:=by
 unfold wK
 split
 ·unfold vx;split<;>simp
 ·exact X8 _
theorem jww{rs:List D}{s:D}{z:Str}:∀{ps K:List D} {r:List D×List D},v9 rs s z ps K=some r->K.length<=r.1.length
 | [],K,r,h=>by rw[v9]at h;cases h;exact X8 _
 | .int p::ps,K,r,h=>by
  rw[v9]at h
  split at h
  ·cases h
  ·rename_i d _;obtain⟨q,hq,rfl⟩:=Option.map_eq_some_iff.mp h;have h1:=jww hq;have:=qku (K:=K) (d:=d);exact Y0 this h1
 |.non::_,_,_,h=>by cases h
 |.bl _::_,_,_,h=>by cases h
 |.str _::_,_,_,h=>by cases h
 |.tup _::_,_,_,h=>by cases h
 |.lst _::_,_,_,h=>by cases h
 |.dct _::_,_,_,h=>by cases h
 |.obj _ _::_,_,_,h=>by cases h
theorem kj3{rs:List D}{s:D}:∀{zs:List Str} {K:List D} {r:List D×List D},vz rs s zs K=some r->K.length<=r.1.length
 | [],K,r,h=>by rw[vz]at h;cases h;exact X8 _
 | z::zs,K,r,h=>by
  rw[vz]at h
  split at h
  ·cases h
  ·rename_i q hq;obtain⟨q2,hq2,rfl⟩:=Option.map_eq_some_iff.mp h;have h1:=jww hq;have h2:=kj3 hq2;exact Y0 h1 h2
theorem kz4{rs ks st:List D}{room:Int}{kp gd:D}(hr:rs[room.toNat]?=some (.tup [kp,gd,.lst st])):qwc rs (.tup [.int room,.tup ks])=gd:=by
 unfold qwc;dsimp only;rw[hr]
end F
namespace F
open Q PySem C
theorem kxo{a b:D}(ha:At a)(hb:At b):peq a b=decide (a=b):=by
 rcases ha with rfl|⟨i,rfl⟩<;>rcases hb with rfl|⟨j,rfl⟩
 ·simp[peq]
 ·simp[peq]
 ·simp[peq]
 ·show(i==j)=_
  by_cases h:i=j
  ·subst h;simp
  ·rw[Xa (λz=>h (by injection z))];simpa using h
theorem vqw{as:List D}:∀{bs:List D},(∀k∈as,At k)->(∀k∈bs,At k)->peqs as bs=decide (as=bs):=by
 induction as with
 | nil=>intro bs _ _;cases bs<;>simp[peqs]
 | cons a as ih=>
  intro bs ha hb;cases bs with
  |nil=>simp[peqs]
  |cons b bs=>
   show(peq a b&&peqs as bs)=_;rw[kxo (ha a X2) (hb b X2),ih (λk hk=>ha k (lc9 _ hk)) (λk hk=>hb k (lc9 _ hk))]
   by_cases h1:a=b<;>by_cases h2:as=bs<;>simp[h1,h2]
theorem qj7{kps:List Int}{V:List D}{a b:D}(ha:SokV kps V a)(hb:SokV kps V b):peq a b=decide (a=b):=by
 obtain⟨r,ks,rfl,_,_,_,h1,_⟩:=ha;obtain⟨r',c9,rfl,_,_,_,h2,_⟩:=hb;show((r==r')&&(peqs ks c9&&true))=_;rw[vqw h1 h2]
 by_cases e1:r=r'<;>by_cases e2:ks=c9<;>simp[e1,e2]
theorem kjt{kps:List Int}{V:List D}{a:D}{n:Nat}(ha:SokV kps V a):a.flat (n+2)=true:=by
 obtain⟨r,ks,rfl,_,_,_,h1,_⟩:=ha;show(true&&(D.flats n ks&&true))=true;rw[At.flats h1];rfl
theorem kjs{kps:List Int}{K:List D}{n:Nat}(hK:∀s∈K,SokV kps V4 s):D.flats (n+2) K=true:=xZ λk hk=>kjt (hK k hk)
theorem qjy{kps:List Int}{x:D}(hx:SokV kps V4 x):∀{K:List D},(∀s∈K,SokV kps V4 s)->(K.any λz=>peq z x)=decide (x∈K)
 | [],_=>by simp
 | k::K,h=>by
  rw[List.any_cons,qj7 (h k X2) hx,qjy hx (λs hs=>h s (lc9 _ hs))]
  by_cases e1:k=x
  ·simp[e1]
  ·have e3:¬x=k:=λz=>e1 z.symm
   by_cases e2:x∈K<;>simp[e1,e2,e3]
theorem qzl{kps:List Int}{x:D}{K:List D}(hx:SokV kps V4 x)(hK:∀s∈K,SokV kps V4 s):vQ x (.lst K)=some (.bl (!decide (x∈K))):=by
 have h:fIn x (.lst K)=some (.bl (decide (x∈K))):=by
  show(if x.flat 30&&D.flats 30 K then some (D.bl (K.any λz=>peq z x))else none)=_;rw[kjt hx,kjs hK,qjy hx hK];rfl
 show(fIn x (.lst K)).bind _=_;rw[h];rfl
theorem kwm{kps:List Int}{x:D}(hx:SokV kps V4 x):∀{K:List D},(∀s∈K,SokV kps V4 s)->x∈K->(K.findIdx? λz=>peq z x)=some (K.idxOf x)
 | [],_,h=>by cases h
 | k::K,hK,h=>by
  rw[List.findIdx?_cons,qj7 (hK k X2) hx,List.idxOf_cons]
  by_cases e:k=x
  ·simp[e]
  ·have hm:x∈K:=by
    rcases List.mem_cons.mp h with z|z
    ·exact absurd z.symm e
    ·exact z
   rw[kwm hx (λs hs=>hK s (lc9 _ hs)) hm,show(k==x)=false by simpa using e];simp[e]
theorem qzw{kps:List Int}{x:D}{K:List D}(hx:SokV kps V4 x)(hK:∀s∈K,SokV kps V4 s)(hm:x∈K):V7 (.lst K) x=some (.int (K.idxOf x:Nat)):=by
 show(if x.flat 30&&D.flats 30 K then(K.findIdx? λw=>peq w x).map λ(j:Nat)=>D.int (j:Int)else none)=_;rw[kjt hx,kjs hK,kwm hx hK hm];rfl
theorem qvl{K:List D}{p:D}:p∈vx K p:=by
 unfold vx
 split
 ·assumption
 ·simp
end F
namespace F
open Q PySem C
structure Tx (n m:Nat)(d:D):Prop where
 fl:d.flat m=true
 sh:(D.dat d).showable=true
 ln:(D.dat d).shown.length<=n
theorem Tx.mono{n n' m:Nat}{d:D}(h:Tx n m d)(hn:n<=n'):Tx n' m d:=⟨h.fl,h.sh,by have:=h.ln;omega⟩
theorem txs{n m:Nat}:∀{ds:List D},(∀d∈ds,Tx n m d)->D.flats m ds=true/\PyData.showableAll (D.dats ds)=true/\piled (PyData.shownAll (D.dats ds))<=ds.length*(n+2)/\(PyData.shownAll (D.dats ds)).length=ds.length
 | [],_=>⟨rfl,rfl,by simp[D.dats,PyData.shownAll,piled],rfl⟩
 | d::ds,h=>by
  obtain⟨h1,h2,h3,h4⟩:=txs (ds:=ds) λd hd=>h d (lc9 _ hd)
  have hd:=h d X2;refine⟨?_,?_,?_,?_⟩
  ·show(D.flat m d&&D.flats m ds)=true;rw[hd.fl,h1];rfl
  ·show((D.dat d).showable&&PyData.showableAll (D.dats ds))=true;rw[hd.sh,h2];rfl
  ·show piled ((D.dat d).shown::PyData.shownAll (D.dats ds))<=_;rw[piled_cons,Xl,Nat.succ_mul];have:=hd.ln;omega
  ·show((D.dat d).shown::PyData.shownAll (D.dats ds)).length=_;rw[Xl,h4,Xl]
theorem qwg:∀(ts:List Str) (k:Nat) (ac:Str),(textFrom k ac ts).length<=ac.length+piled ts
 |[],_,ac=>by show ac.length<=ac.length+0;omega
 |t::ts,k,ac=>by
  have h:=qwg ts (k+1) (ac++(if k>0 then ", " else "":String)++t);rw[Str.length_append,Str.length_append]at h;have e:(((if k>0 then ", " else "":String):Str)).length<=2:=by split<;>decide +kernel
  rw[piled_cons];show(textFrom (k+1) (ac++(if k>0 then ", " else "":String)++t) ts).length<=_;omega
theorem kvo{n m c:Nat}{ds:List D}(h:∀d∈ds,Tx n m d)(hc:ds.length<=c):Tx (2+c*(n+2)) (m+1) (.lst ds):=by
 obtain⟨h1,h2,h3,h4⟩:=txs h;refine⟨h1,h2,?_⟩;show(textFrom 0 "[" (PyData.shownAll (D.dats ds))++("]":Str)).length<=_;rw[Str.length_append];have:=qwg (PyData.shownAll (D.dats ds)) 0 "[";have e1:("[":Str).length=1:=by decide +kernel
 have e2:("]":Str).length=1:=by decide +kernel
 have:ds.length*(n+2)<=c*(n+2):=Nat.mul_le_mul_right _ hc;omega
theorem W5{n m c:Nat}{ds:List D}(h:∀d∈ds,Tx n m d)(hc:ds.length<=c):Tx (3+c*(n+2)) (m+1) (.tup ds):=by
 obtain⟨h1,h2,h3,h4⟩:=txs h;refine⟨h1,h2,?_⟩;generalize hts:PyData.shownAll (D.dats ds)=ts at h3 h4;show(tupleText (PyData.shownAll (D.dats ds))).length<=_;rw[hts];unfold tupleText;rw[Str.length_append,Str.length_append];have e1:("(":Str).length=1:=by decide +kernel
 have e2:(((if ts.length==1 then ",)" else ")":String):Str)).length<=2:=by split<;>decide +kernel
 have e3:(Str.join ", " ts).length<=piled ts:=by
  cases ts with
  |nil=>exact Nat.le_of_eq rfl
  |cons a r=>
   have:=join_length_add (a::r) (by simp);omega
 have:ds.length*(n+2)<=c*(n+2):=Nat.mul_le_mul_right _ hc;omega
theorem kvp{i:Int}{m:Nat}(h0:0<=i)(h1:i<2048):Tx 10 m (.int i):=by
 obtain⟨n,rfl⟩:=Int.eq_ofNat_of_zero_le h0;have hn:n<2048:=by omega
 have key:∀k:Fin 2048,(PyData.int (k.val:Int)).showable=true/\(PyData.int (k.val:Int)).shown.length<=10:=by decide +kernel
 have:=key ⟨n,hn⟩;exact⟨by cases m<;>rfl,this.1,this.2⟩
theorem tx_bl{b:Bool}{m:Nat}:Tx 10 m (.bl b):=⟨by cases m<;>rfl,rfl,by cases b<;>decide +kernel⟩
def ltr:List Nat:=("abcdefghijklmnopqrstuvwxyz":Str).cps.toList
def Sg(z:Str):Prop:=z.cps.size<=8/\∀c∈z.cps.toList,c∈ltr
theorem vvf:∀c∈ltr,(Builtin.Str.reprChar 39 c).length=1/\(Builtin.Str.reprChar 34 c).length=1:=by decide +kernel
theorem qjm{q:Nat}:∀{l:List Nat} {n:Nat},(∀c∈l,(Builtin.Str.reprChar q c).length=1)->l.foldl (λn c=>n+(Builtin.Str.reprChar q c).length) n=n+l.length
 |[],n,_=>rfl
 |c::l,n,h=>by
  rw[List.foldl_cons,qjm λc hc=>h c (lc9 _ hc),h c X2,Xl];omega
theorem vwx{z:Str}{m:Nat}(h:Sg z):Tx 10 m (.str z):=by
 refine⟨by cases m<;>rfl,rfl,?_⟩;show(reprText z).length<=10;rw[<-reprLen_eq,<-Array.foldl_toList];have hq:∀c∈z.cps.toList,(Builtin.Str.reprChar (reprQuote z) c).length=1:=λc hc=>by
  have:=vvf c (h.2 c hc);unfold reprQuote
  split
  ·exact this.2
  ·exact this.1
 rw[qjm hq];have:=h.1;rw[Y6];omega
theorem qq6{i:Int}(h:D.int i∈V4):0<=i/\i<2048:=by
 simp[V4]at h;omega
theorem qwh:∀{ks:List D} {ac:List Int} {i:Int},i∈ks.foldl vK ac->i∈ac\/D.int i∈ks
 | [],_,_,h=>.inl h
 | k :: ks,ac,i,h=>by
  rw [List.foldl_cons]at h;rcases qwh h with z|z
  ·unfold vK at z
   split at z
   ·split at z
    ·exact .inl z
    ·rcases List.mem_append.mp z with y|y
     ·exact .inl y
     ·rw[List.mem_singleton.mp y];exact .inr X2
   ·exact .inl z
  ·exact .inr (lc9 _ z)
theorem vzw{ks:List D}{i:Int}(h:i∈jx ks):D.int i∈ks:=by
 rcases qwh h with z|z
 ·cases z
 ·exact z
theorem wkg{ns:List Int}{m:Nat}(h:∀i∈ns,0<=i/\i<2048)(hl:ns.length<=3):Tx 39 (m+1) (iT ns):=W5 (n:=10) (c:=3) (λd hd=>by
 obtain⟨i,hi,rfl⟩:=List.mem_map.mp hd;exact kvp (h i hi).1 (h i hi).2) (by simpa using hl)
theorem vkv{kps:List Int}{K:List D}{d:D}{m:Nat}(dv:kps.length<=4)(h3:∀k∈kps,k<=3)(hK:Kin kps V4 K)(hd:d=.non\/SokV kps V4 d):Tx 85 (m+2) (wK K d).2:=by
 rcases hd with rfl|hd
 ·refine⟨rfl,rfl,?_⟩;show(PyData.none).shown.length<=85;decide +kernel
 ·have kg:=kvb h3 hK (.inr hd);obtain⟨room,ks,rfl,r0,r1,hl,ha,hV⟩:=id hd;have ij:=(z7 h3 hd).2;have ae:=WJ kg dv h3 (by decide);have dj:(vx K (.tup [.int room,.tup (pr ks)])).idxOf (.tup [.int room,.tup (pr ks)])<(vx K (.tup [.int room,.tup (pr ks)])).length:=List.idxOf_lt_length_of_mem qvl;have ae:(vx K (.tup [.int room,.tup (pr ks)])).length<=1036:=ae;have rk:=Kq ks;show Tx 85 (m+2) (.tup [.int _,iT (jx ks)]);refine W5 (n:=39) (c:=2) (λd hd=>?_) (by simp);simp only[Xw,Xm,or_false]at hd;rcases hd with rfl|rfl
  ·exact(kvp (by omega) (by omega)).mono (by omega)
  ·exact wkg (λi hi=>qq6 (hV _ (vzw hi))) (by omega)
theorem kzn{ss:List Str}{rs:List D}{kps:List Int}{s:D}{z:Str}{m:Nat}(hR:Rms rs)(hx:Rx ss kps rs)(dv:kps.length<=4)(h3:∀k∈kps,k<=3)(hs:SokV kps V4 s):∀{ps K:List D} {r:List D×List D},(∀d∈ps,d∈V4)->Kin kps V4 K->v9 rs s z ps K=some r->Kin kps V4 r.1/\r.2.length=ps.length/\∀c∈r.2,Tx 85 (m+2) c
 | [],K,r,_,hK,h=>by rw[v9]at h;cases h;exact⟨hK,rfl,λc hc=>nomatch hc⟩
 | .int p::ps,K,r,hp,hK,h=>by
  rw[v9]at h
  split at h
  ·cases h
  ·rename_i d gq;obtain⟨q,hq,rfl⟩:=Option.map_eq_some_iff.mp h;have hd:=vzv hR hx hs (hp _ X2) gq;obtain⟨a1,a2,a3⟩:=kzn (m:=m) hR hx dv h3 hs (λd hd=>hp d (lc9 _ hd)) (kvb h3 hK hd) hq;refine⟨a1,by simp[a2],λc hc=>?_⟩;rcases List.mem_cons.mp hc with rfl|hc
   ·exact vkv dv h3 hK hd
   ·exact a3 c hc
 |.non::_,_,_,_,_,h=>by cases h
 |.bl _::_,_,_,_,_,h=>by cases h
 |.str _::_,_,_,_,_,h=>by cases h
 |.tup _::_,_,_,_,_,h=>by cases h
 |.lst _::_,_,_,_,_,h=>by cases h
 |.dct _::_,_,_,_,_,h=>by cases h
 |.obj _ _::_,_,_,_,_,h=>by cases h
theorem kzm{ss:List Str}{rs:List D}{kps:List Int}{s:D}{m:Nat}(hR:Rms rs)(hx:Rx ss kps rs)(dv:kps.length<=4)(h3:∀k∈kps,k<=3)(hs:SokV kps V4 s):∀{zs:List Str} {K:List D} {r:List D×List D},Kin kps V4 K->vz rs s zs K=some r->Kin kps V4 r.1/\r.2.length=zs.length/\∀c∈r.2,Tx 350 (m+3) c
 | [],K,r,hK,h=>by rw[vz]at h;cases h;exact⟨hK,rfl,λc hc=>nomatch hc⟩
 | z::zs,K,r,hK,h=>by
  rw[vz]at h
  split at h
  ·cases h
  ·rename_i q hq;obtain⟨q2,hq2,rfl⟩:=Option.map_eq_some_iff.mp h;have nl:(jx (vZ s)).length<=3:=by
    obtain⟨room,ks,rfl,_⟩:=id hs;have:=(z7 h3 hs).2;have:=Kq ks;rw[Jz];omega
   have jf:∀d∈jQ 0 (((jx (vZ s)).length:Int)+1),d∈V4:=λd hd=>by
    unfold jQ at hd;obtain⟨i,hi,rfl⟩:=List.mem_map.mp hd;have hi:=List.mem_range.mp hi;have:i=0\/i=1\/i=2\/i=3:=by omega
    rcases this with rfl|rfl|rfl|rfl<;>simp[V4]
   obtain⟨a1,a2,a3⟩:=kzn (m:=m) hR hx dv h3 hs jf hK hq;obtain⟨b1,b2,b3⟩:=kzm (m:=m) hR hx dv h3 hs a1 hq2;refine⟨b1,by simp[b2],λc hc=>?_⟩;rcases List.mem_cons.mp hc with rfl|hc
   ·refine kvo (n:=85) (c:=4) a3 ?_;rw[a2];unfold jQ;rw[X3,Yg];omega
   ·exact b3 c hc
theorem vku{ss:List Str}{rs:List D}{kps:List Int}{s:D}{st:List D}{m:Nat}(hx:Rx ss kps rs)(h3:∀k∈kps,k<=3)(hs:SokV kps V4 s)(hl:st.length<=3)(b7:∀c∈st,Tx 350 (m+3) c):Tx 3183 (m+5) (Q6 rs s st):=by
 obtain⟨room,ks,rfl,r0,r1,nl,ha,hV⟩:=id hs;have ij:=(z7 h3 hs).2;have rk:=Kq ks;obtain⟨gd,ss',er,_⟩:=hx.2 room.toNat (by omega);have hg:qwc rs (.tup [.int room,.tup ks])=.bl gd:=kz4 er;unfold Q6;rw[hg,Jz];refine W5 (n:=1058) (c:=3) (λd hd=>?_) (by simp);simp only[Xw,Xm,or_false]at hd;rcases hd with rfl|rfl|rfl
 ·exact(kvp (by omega) (by omega)).mono (by omega)
 ·exact tx_bl.mono (by omega)
 ·exact kvo (n:=350) (c:=3) b7 hl
theorem vwy{ss:List Str}{rs:List D}{kps:List Int}{m:Nat}(n9:ss.length<=3)(hR:Rms rs)(hx:Rx ss kps rs)(dv:kps.length<=4)(h3:∀k∈kps,k<=3){K a8:List D}{r:Option (List D×List D)}(h:Run ss rs K a8 r):
  Kin kps V4 K->a8.length<=K.length->(∀d∈a8,Tx 3183 (m+5) d)->∀q,r=some q->Kin kps V4 q.1/\q.2.length<=q.1.length/\∀d∈q.2,Tx 3183 (m+5) d:=by
 induction h with
 | stop h=>intro hK hl ht q e;cases e;exact⟨hK,hl,ht⟩
 | fail=>intro _ _ _ q e;cases e
 | @go K a8 K' fc r az e _ ih=>
  intro hK hl ht q eq;unfold W1 at e;obtain⟨p,hp,e2⟩:=Option.map_eq_some_iff.mp e;have hs:SokV kps V4 (K.getD a8.length .non):=hK.2 _ (by rw[X5,X1 az];exact Xi _);obtain⟨a1,a2,a3⟩:=kzm (m:=m) hR hx dv h3 hs hK hp;have hg:=kj3 hp;cases e2;refine ih a1 (by simp;omega) (λd hd=>?_) q eq;rcases List.mem_append.mp hd with z|z
  ·exact ht d z
  ·rw[List.mem_singleton.mp z];exact vku hx h3 hs (by omega) a3
theorem qxn{kps:List Int}{K:List D}{m:Nat}(dv:kps.length<=4)(h3:∀k∈kps,k<=3)(hK:Kin kps V4 K):Tx 90134 (m+3) (.lst K):=by
 have ae:=WJ hK dv h3 (by decide);refine kvo (n:=85) (c:=1036) (λd hd=>?_) ae;obtain⟨room,ks,rfl,r0,r1,hl,ha,hV⟩:=id (hK.2 d hd);have ij:=(z7 h3 (hK.2 _ hd)).2;refine W5 (n:=39) (c:=2) (λd hd=>?_) (by simp);simp only[Xw,Xm,or_false]at hd;rcases hd with rfl|rfl
 ·exact(kvp r0 (by omega)).mono (by omega)
 ·refine W5 (n:=10) (c:=3) (λd hd=>?_) ij;rcases ha d hd with rfl|⟨i,rfl⟩
  ·exact⟨by cases m<;>rfl,rfl,by decide +kernel⟩
  ·exact kvp (qq6 (hV _ hd)).1 (qq6 (hV _ hd)).2
end F
namespace F
open Q PySem C
section
variable {rs:List D}{ss:List Str}{I:D->Prop}
def vjf(rs:List D)(ss:List Str)(I:D->Prop):Prop:=∀s,I s->∀z∈ss,∀p:Int,D.int p∈jQ 0 ((jx (vZ s)).length+1)->∃d,obD rs s z p=some d/\(d=.non\/∃room ks,d=.tup [room,.tup ks]/\I (.tup [room,.tup (pr ks)]))
theorem vvv{K:List D}{p:D}(hK:∀k∈K,I k)(hp:I p):∀k∈vx K p,I k:=λk hk=>by
 unfold vx at hk
 split at hk
 ·exact hK k hk
 ·rcases List.mem_append.mp hk with z|z
  ·exact hK k z
  ·rw[List.mem_singleton.mp z];exact hp
theorem kq9(hI:vjf rs ss I){s:D}{z:Str}(hs:I s)(hz:z∈ss):∀{ps K:List D},(∀d∈ps,∃p:Int,d=.int p/\d∈jQ 0 ((jx (vZ s)).length+1))->(∀k∈K,I k)->∃r,v9 rs s z ps K=some r/\∀k∈r.1,I k
 | [],K,_,hK=>⟨(K,[]),rfl,hK⟩
 | d::ps,K,hp,hK=>by
  obtain⟨p,rfl,hpr⟩:=hp d X2;obtain⟨d,hd,ic⟩:=hI s hs z hz p hpr;have iu:∀k∈(wK K d).1,I k:=by
   rcases ic with rfl|⟨room,ks,rfl,hi⟩
   ·exact hK
   ·exact vvv hK hi
  obtain⟨r,hr,hk⟩:=kq9 hI hs hz (λd hd=>hp d (lc9 _ hd)) iu;exact⟨(r.1,(wK K d).2::r.2),by rw[v9,hd];dsimp only;rw[hr];rfl,hk⟩
theorem jxu(hI:vjf rs ss I){s:D}(hs:I s):∀{zs:List Str} {K:List D},(∀z∈zs,z∈ss)->(∀k∈K,I k)->∃r,vz rs s zs K=some r/\∀k∈r.1,I k
 | [],K,_,hK=>⟨(K,[]),rfl,hK⟩
 | z::zs,K,hz,hK=>by
  obtain⟨r,hr,hk⟩:=kq9 hI hs (hz z X2) (ps:=jQ 0 ((jx (vZ s)).length+1)) (λd hd=>by
   obtain⟨i,_,_,rfl⟩:=kv0 hd;exact⟨i,rfl,hd⟩) hK
  obtain⟨q,hq,ov⟩:=jxu hI hs (zs:=zs) (λz h=>hz z (lc9 _ h)) hk;exact⟨(q.1,.lst r.2::q.2),by rw[vz,show QZ rs s z K=some r from hr];dsimp only;rw[hq];rfl,ov⟩
theorem qz0(hI:vjf rs ss I){K a8:List D}{r:Option (List D×List D)}(h:Run ss rs K a8 r):(∀k∈K,I k)->∃q,r=some q/\∀k∈q.1,I k:=by
 induction h with
 |stop h=>intro hK;exact⟨_,rfl,hK⟩
 |@fail K a8 az e=>
  intro hK;have hs:=hK (K.getD a8.length .non) (by rw[X5,X1 az];exact Xi _);obtain⟨r,hr,_⟩:=jxu hI hs (λz h=>h) hK;unfold W1 at e;rw[hr]at e;cases e
 |@go K a8 K' fc r az e _ ih=>
  intro hK;have hs:=hK (K.getD a8.length .non) (by rw[X5,X1 az];exact Xi _);obtain⟨r,hr,hk⟩:=jxu hI hs (λz h=>h) hK;unfold W1 at e;rw[hr]at e;cases e;exact ih hk
end
end F
namespace F
open Q PySem C
theorem kxn{i:Int}{d:D}(h:At d):peq d (.int i)=decide (d=.int i):=kxo h (.inr ⟨i,rfl⟩)
theorem kjq{ks:List D}{p i:Int}(hk:∀k∈ks,At k)(h0:0<=i)(h1:i<ks.length)(hf:vW ks (.int p) (.str "fresh")=true)(hi:vW ks (.int p) (.int i)=true):False:=by
 have hf:(!ks.any λz=>peq z (.int p))=true:=by
  unfold vW at hf;dsimp only at hf
  rwa [Xb rfl]at hf
 have hi:peq (ks.getD i.toNat .non) (.int p)=true:=hi;rw[Bool.not_eq_true']at hf;have hm:=JX ks i h0 h1;rw[List.any_eq_false]at hf;exact hf _ hm hi
theorem qxo{ks:List D}{p i j:Int}(hk:∀k∈ks,At k)(h0:0<=i)(h1:i<ks.length)(h2:0<=j)(h3:j<ks.length)(hi:vW ks (.int p) (.int i)=true)(hj:vW ks (.int p) (.int j)=true):ks.getD i.toNat .non=.int p/\ks.getD j.toNat .non=.int p:=by
 have hi:peq (ks.getD i.toNat .non) (.int p)=true:=hi;have hj:peq (ks.getD j.toNat .non) (.int p)=true:=hj;rw[kxn (hk _ (JX ks i h0 h1))]at hi;rw[kxn (hk _ (JX ks j h2 h3))]at hj;exact⟨of_decide_eq_true hi,of_decide_eq_true hj⟩
def Wk(ks:List D):Prop:=∀i j:Nat,∀p:Int,ks[i]?=some (.int p)->ks[j]?=some (.int p)->i=j
theorem vvb{ks:List D}(h:Wk ks):Wk (pr ks):=λi j p hi hj=>by
 unfold pr at hi hj;rw[Y2]at hi hj;obtain⟨a,ha,ea⟩:=Option.map_eq_some_iff.mp hi;obtain⟨b,hb,eb⟩:=Option.map_eq_some_iff.mp hj;have key:∀{d:D} {q:Int},d∈ks->plc (jx ks) d=.int q->∃x:Int,d=.int x/\x∈jx ks/\((jx ks).findIdx (λw=>w==x):Int)=q:=fun {d q} hd e=>by
  unfold plc at e
  split at e
  ·rename_i x;injection e with e;exact⟨x,rfl,qjc hd,e⟩
  ·rename_i cx;exact absurd e (cx q)
 obtain⟨x,rfl,hx,ex⟩:=key (Xh ha) ea;obtain⟨y,rfl,hy,ey⟩:=key (Xh hb) eb;have e:(jx ks).findIdx (λw=>w==x)=(jx ks).findIdx (λw=>w==y):=by omega
 have gx:=kz7 hx;have gy:=kz7 hy;have h1:(jx ks)[(jx ks).findIdx (λw=>w==x)]'gx=x:=by simpa using List.findIdx_getElem (p:=λw=>w==x) (w:=gx)
 have h2:(jx ks)[(jx ks).findIdx (λw=>w==y)]'gy=y:=by simpa using List.findIdx_getElem (p:=λw=>w==y) (w:=gy)
 have hxy:x=y:=by
  rw[<-h1,<-h2]
  congr 1
 subst hxy;exact h i j x ha hb
def FA(g:D)(fs:List D):Prop:=(∀(i j:Nat) (f:D),f≠.non->fs[i]?=some f->fs[j]?=some f->i=j)/\(D.str "new"∈fs->g≠.str "any"/\g∉fs)
theorem kxs{ks fs:List D}{p:Int}{g:D}(hk:∀k∈ks,At k)(ho:Wk ks)(hg:Gd ks.length g)(i4:vW ks (.int p) g=true)(hf:∀f∈fs,Fd ks.length f)(ha:FA g fs):Wk (fs.map (ww ks (.int p))):=λi j q hi hj=>by
 rw[Y2]at hi hj;obtain⟨a,h1,ea⟩:=Option.map_eq_some_iff.mp hi;obtain⟨b,h2,eb⟩:=Option.map_eq_some_iff.mp hj;have fi:∀{n:Int},0<=n->n<ks.length->∀{x:D},ks.getD n.toNat .non=x->ks[n.toNat]?=some x:=fun {n} n0 n1 {x} e=>by
  have:n.toNat<ks.length:=by omega
  rw[X1 this,<-e,X5,X1 this];rfl
 have mix:∀{n:Int},0<=n->n<ks.length->D.str "new"∈fs->D.int n∈fs->ks.getD n.toNat .non=.int p->False:=fun {n} n0 n1 hn hm e=>by
  obtain⟨c1,c2⟩:=ha.2 hn;rcases hg with rfl|rfl|⟨c,c0,c3,rfl⟩
  ·exact kjq hk n0 n1 i4 (by show peq (ks.getD n.toNat .non) (.int p)=true;rw[e];simp[peq])
  ·exact c1 rfl
  ·have hc:peq (ks.getD c.toNat .non) (.int p)=true:=i4;rw[kxn (hk _ (JX ks c c0 c3))]at hc;have:=ho _ _ p (fi c0 c3 (of_decide_eq_true hc)) (fi n0 n1 e);have:c=n:=by omega
   subst this;exact c2 hm
 have il:=hf a (Xh h1);have hfb:=hf b (Xh h2);rcases il with rfl|rfl|⟨x,x0,x1,rfl⟩
 ·have ea:D.int p=.int q:=ea;injection ea with ea;subst ea;rcases hfb with rfl|rfl|⟨y,y0,y1,rfl⟩
  ·exact ha.1 i j (.str "new") (λz=>nomatch z) h1 h2
  ·cases(show D.non=.int p from eb)
  ·exact(mix y0 y1 (Xh h1) (Xh h2) eb).elim
 ·cases(show D.non=.int q from ea)
 ·rcases hfb with rfl|rfl|⟨y,y0,y1,rfl⟩
  ·have eb:D.int p=.int q:=eb;injection eb with eb;subst eb;exact(mix x0 x1 (Xh h2) (Xh h1) ea).elim
  ·cases(show D.non=.int q from eb)
  ·have:=ho _ _ q (fi x0 x1 ea) (fi y0 y1 eb);have:x=y:=by omega
   subst this;exact ha.1 i j (.int x) (λz=>nomatch z) h1 h2
end F
namespace F
open Q PySem C
theorem qwl{p:D->Bool}:∀{st:List D} {k:Nat} {c:D},c∈q9 p k st->∃(j:Nat) (a:D),st[j]?=some a/\p a=true
 | [],_,_,h=>by cases h
 | d::st,k,c,h=>by
  unfold q9 at h
  split at h
  ·rename_i hp;exact⟨0,d,rfl,hp⟩
  ·obtain⟨j,a,h1,h2⟩:=qwl h;exact⟨j+1,a,by simpa using h1,h2⟩
theorem qwk{p:D->Bool}:∀{st:List D} {k:Nat} {c1 c2:D} {r:List D},q9 p k st=c1::c2::r->∃(i j:Nat) (a b:D),i<j/\st[i]?=some a/\st[j]?=some b/\p a=true/\p b=true
 | [],_,_,_,_,h=>by cases h
 | d::st,k,c1,c2,r,h=>by
  unfold q9 at h
  split at h
  ·rename_i hp;injection h with _ h;obtain⟨j,b,h1,h2⟩:=qwl (show c2∈q9 p (k+1) st by rw[h];exact X2);exact⟨0,j+1,d,b,by omega,rfl,by simpa using h1,hp,h2⟩
  ·obtain⟨i,j,a,b,h1,h2,h3,h4⟩:=qwk h;exact⟨i+1,j+1,a,b,by omega,by simpa using h2,by simpa using h3,h4⟩
theorem vkb{p:D->Bool}:∀{st:List D} {k j:Nat},D.int j∈q9 p k st->k<=j/\∃a,st[j - k]?=some a/\p a=true
 | [],_,_,h=>by cases h
 | d::st,k,j,h=>by
  have rest:D.int j∈q9 p (k+1) st->k<=j/\∃a,(d::st)[j - k]?=some a/\p a=true:=λh=>by
   obtain⟨h1,a,h2,h3⟩:=vkb h;exact⟨by omega,a,by rw[show j - k=(j - (k+1))+1 by omega,List.getElem?_cons_succ];exact h2,h3⟩
  unfold q9 at h
  split at h
  ·rename_i hp;rcases List.mem_cons.mp h with e|h
   ·injection e with e;have:j=k:=by omega
    subst this;exact⟨X8 _,d,by simp,hp⟩
   ·exact rest h
  ·exact rest h
def Cpt(ap:Bool)(g g':D):Prop:=(g=.str "fresh"/\∃i,g'=.int i)\/(g'=.str "fresh"/\∃i,g=.int i)\/(ap=true/\∃i j:Int,g=.int i/\g'=.int j/\i≠j)
def ZY(ap:Bool)(st:List D):Prop:=(∀(i j:Nat) (z:Str) (g g' t t' f f':D),i<j->st[i]?=some (.tup [.str z,g,t,f])->st[j]?=some (.tup [.str z,g',t',f'])->Cpt ap g g')/\(ap=true->∀(z:Str) (g t:D) (fs:List D),D.tup [.str z,g,t,.tup fs]∈st->FA g fs)
def Sgl(ap:Bool)(rs:List D):Prop:=∀(k g:D) (st:List D),D.tup [k,g,.lst st]∈rs->ZY ap st
theorem wjr{ap:Bool}{ks:List D}{p:Int}{g g':D}(hk:∀k∈ks,At k)(ho:ap=true->Wk ks)(hg:Gd ks.length g)(im:Gd ks.length g')(h:Cpt ap g g')(h1:vW ks (.int p) g=true)(h2:vW ks (.int p) g'=true):False:=by
 have rng:∀{i:Int},Gd ks.length (.int i)->0<=i/\i<ks.length:=fun {i} h=>by
  rcases h with h|h|⟨j,a,b,e⟩
  ·cases h
  ·cases h
  ·injection e with e;subst e;exact⟨a,b⟩
 rcases h with⟨rfl,i,rfl⟩|⟨rfl,i,rfl⟩|⟨ha,i,j,rfl,rfl,cx⟩
 ·exact kjq hk (rng im).1 (rng im).2 h1 h2
 ·exact kjq hk (rng hg).1 (rng hg).2 h2 h1
 ·obtain⟨a0,a1⟩:=rng hg;obtain⟨b0,b1⟩:=rng im;obtain⟨e1,e2⟩:=qxo hk a0 a1 b0 b1 h1 h2;have fi:∀{n:Int},0<=n->n<ks.length->∀{x:D},ks.getD n.toNat .non=x->ks[n.toNat]?=some x:=fun {n} n0 n1 {x} e=>by
   have:n.toNat<ks.length:=by omega
   rw[X1 this,<-e,X5,X1 this];rfl
  have:=ho ha _ _ p (fi a0 a1 e1) (fi b0 b1 e2);omega
theorem qzs{ap:Bool}{ss:List Str}{rs:List D}{kps:List Int}(hR:Rms rs)(hx:Rx ss kps rs)(h3:∀k∈kps,k<=3)(hS:Sgl ap rs):vjf rs ss (λs=>SokV kps V4 s/\(ap=true->Wk (vZ s))):=by
 rintro s ⟨hs,ho⟩ z hz p hp;obtain⟨room,ks,st,gd,rfl,r0,er,b7,dz,gv,kt⟩:=Yz hR hx hs.ok;rw [Jz]at ho hp;have ij:=(z7 h3 hs).2;have rk:=Kq ks;have r9:D.int p∈V4:=by
  obtain⟨i,i0,i1,e⟩:=kv0 hp;injection e with e;subst e;have:p=0\/p=1\/p=2\/p=3:=by omega
  rcases this with rfl|rfl|rfl|rfl<;>simp[V4]
 have n6:K6 rs (z,p) (.tup [.int room,.tup ks])=(q9 (wj z ks (.int p)) 0 st).map (bh ks st p):=by unfold K6;rw[qxr er,Jz]
 have hSr:=hS _ _ _ (Xh er);have gh:∀{a:D},a∈st->wj z ks (.int p) a=true->∃(g:D) (to:Int) (fs:List D),a=.tup [.str z,g,.int to,.tup fs]/\Gd ks.length g/\vW ks (.int p) g=true/\∀f∈fs,Fd ks.length f:=fun {a} ha hc=>by
  obtain⟨w,g,to,fs,rfl,hg,hf,_⟩:=b7 a ha;have hc:((w==z)&&vW ks (.int p) g)=true:=hc;rw[Bool.and_eq_true]at hc;have hw:w=z:=by simpa using hc.1
  subst hw;exact⟨g,to,fs,rfl,hg,hc.2,hf⟩
 unfold obD;rw [n6];cases hf:q9 (wj z ks (.int p)) 0 st with
 | nil=>exact⟨.non,rfl,.inl rfl⟩
 | cons c r=>
  cases r with
  | cons c2 r2=>
   obtain⟨i,j,a,b,o9,ha,hb,ca,cb⟩:=qwk hf;obtain⟨g,to,fs,rfl,hg,hfg,_⟩:=gh (Xh ha) ca;obtain⟨g',to',fs',rfl,im,hfg',_⟩:=gh (Xh hb) cb;exact(wjr dz ho hg im (hSr.1 i j z g g' _ _ _ _ o9 ha hb) hfg hfg').elim
  | nil=>
   obtain⟨j,rfl,_,hj⟩:=Z9 (show c∈q9 (wj z ks (.int p)) 0 st by rw[hf];exact X2);have hj:j<st.length:=by omega
   have hb:=jwm (p:=p) (V:=V4) b7 dz (by
    obtain⟨b8,c9,e,_,_,_,_,hV⟩:=hs;injection e with e;injection e with e1 e;injection e with e2 _;injection e2 with e2;subst e2;exact hV) (by simp[V4]) r9 gv hj
   refine⟨QJ ks (.int p) st[j],by rw[List.map_cons,List.map_nil,vjc hj],.inr ?_⟩;obtain⟨_,a,ha,hpa⟩:=vkb (show D.int j∈q9 (wj z ks (.int p)) 0 st by rw[hf];exact X2);rw[Nat.sub_zero,X1 hj]at ha;cases oq9 ha;obtain⟨g,to,fs,e,hg,hfg,hff⟩:=gh (Xi hj) hpa;rw[e]at hb ⊢;have hb:SokV kps V4 (.tup [.int to,.tup (fs.map (ww ks (.int p)))]):=hb;refine⟨.int to,fs.map (ww ks (.int p)),rfl,(z7 h3 hb).1,λls=>?_⟩;rw[Jz];exact vvb (kxs dz (ho ls) hg hfg hff (hSr.2 ls z g (.int to) fs (by rw[<-e];exact Xi hj)))
end F
namespace F
open Q PySem C
def Vq:Fn:=fn 4
  (j4 (sIf (tE (cF2 (pu2 fEq) (j3 (vV 0) (C9 0)) (C9 1))) (jv (jZ .rt [(cC (.str "any"))])) k7)
  (j4 (j6 3 (jZ .rt []))
  (j4 (sIf (tOr (tE (cF2 (pu2 fGt) (j3 (vV 0) (C9 0)) (C9 2))) (tAnd (tE (cF2 (pu2 fEq) (vV 1) (C9 0))) (tE (cF2 (pu2 fGt) (j3 (vV 0) (C9 0)) (C9 0))))) (k9 kj 3 (cC (.str "fresh"))) k7)
  (j4 (sIf (tAnd (tE (cF2 (pu2 fGt) (vV 1) (C9 0))) (tE (cF2 (pu2 fGt) (j3 (vV 0) (C9 0)) (C9 1)))) (j4 (k9 kj 3 (cF2 (pu2 kW) (j3 (vV 0) (C9 1)) (vV 1)))
  (sIf (tEQ (vV 2)) (j6 3 (cF2 jq (vV 3) (vE (cLC .rt 1 [3,0] (vk (vV 1)) (.n 0) (tAnd (tE (cF2 (pu2 vQ) (vV 0) (vV 1))) (tE (cF2 (pu2 fEq) (j3 (vV 2) (vE (cF2 jq (C9 2) (vV 0)))) (C9 1)))) (cV 0))))) k7)) k7)
  (j4 (sIf (tE (cF2 (pu2 fEq) (j3 (vV 0) (C9 5)) (C9 1))) (QY 3) k7)
  (jv (cMv 3)))))))
theorem vj9{ap:Bool}{g g':D}(h:Cpt ap g g'):Cpt ap g' g:=by
 rcases h with⟨a,b⟩|⟨a,b⟩|⟨a,i,j,b,c,d⟩
 ·exact .inr (.inl ⟨a,b⟩)
 ·exact .inl ⟨a,b⟩
 ·exact .inr (.inr ⟨a,j,i,c,b,λz=>d z.symm⟩)
def zq(ap:Bool)(here:Int)(as:List D):Prop:=as.Pairwise (Cpt ap)/\(∀a∈as,Gd here a)/\as.length<=4
theorem vjd{ap:Bool}{here:Int}{as:List D}(h:zq ap here as):zq ap here as.reverse:=⟨by rw[List.pairwise_reverse];exact h.1.imp vj9,λa ha=>h.2.1 a (List.mem_reverse.mp ha),by rw[List.length_reverse];exact h.2.2⟩
theorem vqs{u:Ts}{a b:Sm}{E:En}{N C:En->Prop}{R:Sd->Prop}{X:XP}(h:Eo (u E) (λE' k=>E'=E/\k=false) X)(h2:Po (b E) N C R X):Po (j4 (sIf u a k7) b E) N C R X:=by
 rw[vjs];unfold sIf;rw[QX];refine h.mono ?_;rintro E' k ⟨rfl,rfl⟩;show Po (k7 E') _ _ _ _;unfold k7;rw[YV];exact h2
theorem wjo{N C:En->Prop}{ap:Bool}{here y5:Int}{ys:List Int}{as:List D}{o0 o1 o2:Own}(f5:k6 (iL ys) (.int 5)=some (.int y5))(h:zq ap here as):
  Po ((j4 (sIf (tE (cF2 (pu2 fEq) (j3 (vV 0) (C9 5)) (C9 1))) (QY 3) k7) (jv (cMv 3))) [some (o0,iL ys),some (o1,.int here),some (o2,.bl ap),some (.rt,.lst as)]) N C (λy=>∃as,y=(.rt,.lst as)/\zq ap here as) noX:=by
 cases hq:(y5==1)with
 |true=>
  simp![f5,xQ,hq];refine vxh rfl ?_;simp![];exact⟨_,rfl,vjd h⟩
 |false=>
  simp![f5,xQ,hq];exact⟨_,rfl,h⟩
theorem qvk{fs:List D}{a k:Int}(hf:fs=[]\/fs=[.str "fresh"]):vQ (.int k) (.lst (fs++[.int a]))=some (.bl (!(a==k))):=by
 rcases hf with rfl|rfl
 ·show some (D.bl (!((a==k)||false)))=_;rw[Bool.or_false]
 ·show some (D.bl (!(false||((a==k)||false))))=_;rw[Bool.false_or,Bool.or_false]
def Ups(a n:Int)(xs:List D):Prop:=xs.Pairwise (λx y=>∃i j:Int,x=.int i/\y=.int j/\i<j)/\∀x∈xs,∃i:Int,x=.int i/\0<=i/\i<n/\i≠a
theorem qxm{here a:Int}{fs xs:List D}(hf:fs=[]\/fs=[.str "fresh"])(ha0:0<=a)(lx:a<here)(hx:Ups a here xs)(hl:xs.length<=2):zq true here (fs++[.int a]++xs):=by
 have hxs:∀x∈xs,∃i:Int,x=.int i/\0<=i/\i<here/\i≠a:=hx.2;have ju:([D.int a]++xs).Pairwise (Cpt true):=by
  rw[Yc,List.pairwise_cons];refine⟨λx lf=>?_,hx.1.imp fun {x y} ⟨i,j,e1,e2,h⟩=>.inr (.inr ⟨rfl,i,j,e1,e2,by omega⟩)⟩;obtain⟨i,rfl,_,_,h⟩:=hxs x lf;exact .inr (.inr ⟨rfl,a,i,rfl,rfl,λz=>h z.symm⟩)
 have gds:∀x∈[D.int a]++xs,Gd here x:=λx lf=>by
  rcases List.mem_append.mp lf with z|z
  ·rw[List.mem_singleton.mp z];exact .inr (.inr ⟨a,ha0,lx,rfl⟩)
  ·obtain⟨i,rfl,h0,h1,_⟩:=hxs x z;exact .inr (.inr ⟨i,h0,h1,rfl⟩)
 rw [Xq];rcases hf with rfl|rfl
 ·exact⟨ju,gds,by simp;omega⟩
 ·refine⟨?_,λx lf=>?_,by simp;omega⟩
  ·rw[Yc,List.pairwise_cons];refine⟨λx lf=>.inl ⟨rfl,?_⟩,ju⟩;rcases List.mem_append.mp lf with z|z
   ·exact⟨a,List.mem_singleton.mp z⟩
   ·obtain⟨i,e,_⟩:=hxs x z;exact⟨i,e⟩
  ·rcases List.mem_append.mp lf with z|z
   ·rw[List.mem_singleton.mp z];exact .inl rfl
   ·exact gds x z
theorem qzi{here a:Int}{fs:List D}{ap:Bool}(hf:fs=[]\/fs=[.str "fresh"])(ha0:0<=a)(lx:a<here):zq ap here (fs++[.int a]):=by
 rcases hf with rfl|rfl
 ·exact⟨by simp,λx hx=>by rw[List.mem_singleton.mp hx];exact .inr (.inr ⟨a,ha0,lx,rfl⟩),by simp⟩
 ·refine⟨?_,λx hx=>?_,by simp⟩
  ·simp only[Yc,List.pairwise_cons,List.mem_singleton,Xm];exact⟨λx hx=>.inl ⟨rfl,a,hx⟩,λ_ h=>h.elim,.nil⟩
  ·rcases List.mem_append.mp hx with z|z
   ·rw[List.mem_singleton.mp z];exact .inl rfl
   ·rw[List.mem_singleton.mp z];exact .inr (.inr ⟨a,ha0,lx,rfl⟩)
theorem kwd{here:Int}{fs:List D}{ap:Bool}(hf:fs=[]\/fs=[.str "fresh"]):zq ap here fs:=by
 rcases hf with rfl|rfl
 ·exact⟨.nil,(λ_ h=>nomatch h),by simp⟩
 ·exact⟨by simp,λx hx=>by rw[List.mem_singleton.mp hx];exact .inl rfl,by simp⟩
theorem wj0{en:Sm}{ap:Bool}{here y0 y1:Int}{ys:List Int}{fs:List D}{o0 o1 o2:Own}{N C:En->Prop}{R:Sd->Prop}(o6:0<=here)(hh3:here<=3)(f0:k6 (iL ys) (.int 0)=some (.int y0))(f1:k6 (iL ys) (.int 1)=some (.int y1))(f2:∀k:Int,0<=k->k<3->∃v,k6 (iL ys) (.int (2+k))=some (.int v))(hf:fs=[]\/fs=[.str "fresh"])
  (ku:∀as,zq ap here as->Po (en [some (o0,iL ys),some (o1,.int here),some (o2,.bl ap),some (.rt,.lst as)]) N C R noX):
  Po ((j4 (sIf (tAnd (tE (cF2 (pu2 fGt) (vV 1) (C9 0))) (tE (cF2 (pu2 fGt) (j3 (vV 0) (C9 0)) (C9 1)))) (j4 (k9 kj 3 (cF2 (pu2 kW) (j3 (vV 0) (C9 1)) (vV 1)))
  (sIf (tEQ (vV 2)) (j6 3 (cF2 jq (vV 3) (vE (cLC .rt 1 [3,0] (vk (vV 1)) (.n 0) (tAnd (tE (cF2 (pu2 vQ) (vV 0) (vV 1))) (tE (cF2 (pu2 fEq) (j3 (vV 2) (vE (cF2 jq (C9 2) (vV 0)))) (C9 1)))) (cV 0))))) k7)) k7) en) [some (o0,iL ys),some (o1,.int here),some (o2,.bl ap),some (.rt,.lst fs)]) N C R noX:=by
 have nh:fs.length<=1:=by rcases hf with rfl|rfl<;>simp
 by_cases hc:0<here/\1<y0
 ·have e1:decide (0<here)=true:=Xd hc.1;have e2:decide (1<y0)=true:=Xd hc.2;have q0:=Y4 y1 (show here≠0 by omega);have q1:=Xu y1 (show 0<here by omega);simp![e1,f0,e2];refine x9 rfl ?_;simp![f1,mod_i (a:=y1) (b:=here) (by omega)];refine⟨_,rfl,by omega,?_⟩;cases ap with
  | false=>
   simp![];exact ku _ (qzi hf q0 q1)
  | true=>
   simp![];refine YK (λE1 B ds ac=>E1=[some (o0,iL ys),some (o1,.int here),some (o2,.bl true),some (.rt,.lst (fs++[.int (y1 % here)]))]/\(∃q,B=[q,some (.rt,.lst (fs++[.int (y1 % here)])),some (o0,iL ys)])/\∃k:Int,0<=k/\k<=here/\ds=jQ k here/\Ups (y1 % here) k (ac.map (·.2))/\(ac.length:Int)<=k/\(y1 % here<k->(ac.length:Int)<=k - 1)) ?_ ?_ ?_
   ·refine V8 ?_;simp![];exact⟨here,rfl,by omega,by omega,⟨none,rfl⟩,0,by omega,o6,rfl,⟨.nil,(λ_ h=>nomatch h)⟩,by simp,λh=>by omega⟩
   ·rintro E1 B d ds ac ⟨rfl,⟨q,rfl⟩,k,k0,k1,hr,hu,hl,rj⟩;obtain⟨az,rfl,rfl⟩:=Z4 k1 hr;obtain⟨v,fv⟩:=f2 k k0 (by omega);have up:Ups (y1 % here) (k+1) (ac.map (·.2)):=⟨hu.1,λx hx=>by obtain⟨i,e,a,b,c⟩:=hu.2 x hx;exact⟨i,e,a,by omega,c⟩⟩;cases hq:(y1 % here==k)with
    | true=>
     have hk:y1 % here=k:=by simpa using hq
     simp![qvk hf,hq];exact⟨⟨_,rfl⟩,k+1,by omega,by omega,rfl,up,by omega,λ_=>by omega⟩
    | false=>
     have hk:y1 % here≠k:=by simpa using hq
     cases hv:(v==1)with
     | false=>
      simp![qvk hf,hq,fv,xQ,hv];exact⟨⟨_,rfl⟩,k+1,by omega,by omega,rfl,up,by omega,λh=>by have:=rj (by omega);omega⟩
     | true=>
      simp![qvk hf,hq,fv,xQ,hv];refine⟨⟨_,rfl⟩,k+1,by omega,by omega,rfl,⟨?_,λx hx=>?_⟩,by simp;omega,λh=>by have:=rj (by omega);simp;omega⟩
      ·rw[Xx,List.pairwise_append];refine⟨hu.1,by simp,λx hx y hy=>?_⟩;obtain⟨i,e,a,b,c⟩:=hu.2 x hx;exact⟨i,k,e,by simpa using hy,b⟩
      ·rw[Xx]at hx;rcases List.mem_append.mp hx with z|z
       ·exact up.2 x z
       ·exact⟨k,by simpa using z,k0,by omega,λz=>hk z.symm⟩
   ·rintro E1 B ac ⟨rfl,⟨q,rfl⟩,k,k0,k1,hr,hu,hl,rj⟩;have:=jw4 k1 hr;subst this;rw[KW];simp only[J8,back,clr,at',List.drop,List.map_cons,List.map_nil,List.set_cons_zero,List.set_cons_succ];have:=rj q1;have ky:(ac.map (·.2)).length<=2:=by rw[X3];omega
    simp![vkk (o1:=.rt) (o2:=.no) (a:=fs++[.int (y1 % k)]) (b:=ac.map (·.2)) (by decide) (by decide) (by simp;omega)];exact ku _ (qxm hf q0 q1 hu ky)
 ·by_cases h1:0<here
  ·have e1:decide (0<here)=true:=Xd h1;have e2:decide (1<y0)=false:=Xa (λz=>hc ⟨h1,z⟩);simp![e1,f0,e2];exact ku _ (kwd hf)
  ·have e1:decide (0<here)=false:=Xa h1;simp![e1];exact ku _ (kwd hf)
theorem vj2{en:Sm}{ap:Bool}{here y0:Int}{ys:List Int}{o0 o1 o2:Own}{N C:En->Prop}{R:Sd->Prop}(f0:k6 (iL ys) (.int 0)=some (.int y0))
  (ku:∀fs,(fs=[]\/fs=[.str "fresh"])->Po (en [some (o0,iL ys),some (o1,.int here),some (o2,.bl ap),some (.rt,.lst fs)]) N C R noX):
  Po ((j4 (sIf (tOr (tE (cF2 (pu2 fGt) (j3 (vV 0) (C9 0)) (C9 2))) (tAnd (tE (cF2 (pu2 fEq) (vV 1) (C9 0))) (tE (cF2 (pu2 fGt) (j3 (vV 0) (C9 0)) (C9 0))))) (k9 kj 3 (cC (.str "fresh"))) k7) en) [some (o0,iL ys),some (o1,.int here),some (o2,.bl ap),some (.rt,.lst [])]) N C R noX:=by
 have yes:Po ((k9 kj 3 (cC (.str "fresh"))) [some (o0,iL ys),some (o1,.int here),some (o2,.bl ap),some (.rt,.lst [])]) (λE=>Po (en E) N C R noX) C R noX:=by
  refine x9 rfl ?_;simp![];exact⟨_,rfl,by simp,ku _ (.inr rfl)⟩
 by_cases c1:2<y0
 ·have e1:decide (2<y0)=true:=Xd c1;simp![f0,e1];exact yes
 ·have e1:decide (2<y0)=false:=Xa c1;cases c2:(here==0)with
  | false=>
   simp![f0,e1,xQ,c2];exact ku _ (.inl rfl)
  | true=>
   by_cases c3:0<y0
   ·have e3:decide (0<y0)=true:=Xd c3;simp![f0,e1,xQ,c2,e3];exact yes
   ·have e3:decide (0<y0)=false:=Xa c3;simp![f0,e1,xQ,c2,e3];exact ku _ (.inl rfl)
theorem vwd{ap:Bool}{here y0 y1 y5:Int}{ys:List Int}(o6:0<=here)(hh3:here<=3)(f0:k6 (iL ys) (.int 0)=some (.int y0))(f1:k6 (iL ys) (.int 1)=some (.int y1))(f5:k6 (iL ys) (.int 5)=some (.int y5))(f2:∀k:Int,0<=k->k<3->∃v,k6 (iL ys) (.int (2+k))=some (.int v)):
  Oo Vq [(.no,iL ys),(.no,.int here),(.no,.bl ap)] (λy=>∃as,y=(.rt,.lst as)/\zq ap here as) noX:=by
 have tail:∀(N C:En->Prop) fs,(fs=[]\/fs=[.str "fresh"])->Po ((j4 (sIf (tAnd (tE (cF2 (pu2 fGt) (vV 1) (C9 0))) (tE (cF2 (pu2 fGt) (j3 (vV 0) (C9 0)) (C9 1)))) (j4 (k9 kj 3 (cF2 (pu2 kW) (j3 (vV 0) (C9 1)) (vV 1)))
  (sIf (tEQ (vV 2)) (j6 3 (cF2 jq (vV 3) (vE (cLC .rt 1 [3,0] (vk (vV 1)) (.n 0) (tAnd (tE (cF2 (pu2 vQ) (vV 0) (vV 1))) (tE (cF2 (pu2 fEq) (j3 (vV 2) (vE (cF2 jq (C9 2) (vV 0)))) (C9 1)))) (cV 0))))) k7)) k7)
  (j4 (sIf (tE (cF2 (pu2 fEq) (j3 (vV 0) (C9 5)) (C9 1))) (QY 3) k7)
  (jv (cMv 3)))) [some (.no,iL ys),some (.no,.int here),some (.no,.bl ap),some (.rt,.lst fs)]) N C (λy=>∃as,y=(.rt,.lst as)/\zq ap here as) noX:=λN C fs hf=>wj0 o6 hh3 f0 f1 f2 hf λas h=>wjo f5 h
 have all:=vj2 (en:=_) (ap:=ap) (here:=here) (o0:=.no) (o1:=.no) (o2:=.no) f0 (tail (λ_=>∃as,((Own.dp,D.non):Sd)=(.rt,.lst as)/\zq ap here as) (λ_=>False));unfold Vq;refine v8 ?_;cases h1:(y0==1)with
 | true=>
  simp![f0,xQ,h1];exact⟨_,rfl,by simp,λa ha=>by rw[List.mem_singleton.mp ha];exact .inr (.inl rfl),by simp⟩
 | false=>
  refine vqs (E:=[some (.no,iL ys),some (.no,.int here),some (.no,.bl ap),none]) ?_ ?_
  ·simp![f0,xQ,h1]
  ·rw[w_seq,w_asg,eo_lst,args_nil];exact all
end F
namespace F
open Q PySem C
def Q9:Fn:=fn 9
  (j4 (j6 5 (cF2 jq (vE (jZ .rt [(cC (.str "new")),(cC .non)])) (vE (Q8 (vV 2)))))
  (j4 (j6 6 (jZ .rt []))
  (j4 (qQ (itS (cSl (vV 0) none (some (vV 3)))) (.n 7) (j4 (j6 8 (cH (j3 (vV 5) (vE (cF2 (pu2 kW) (vV 7) (vE (cF1 (pu1 kX) (vV 5))))))))
  (j4 (sIf (tAnd (tEQ (vV 4)) (tE (cF2 (f2First fNotNon) (vV 8) (vE (cC .non))))) (sIf (tOr (tE (cF2 (pu2 zw) (vV 8) (vV 6))) (tOr (tAnd (tE (cF2 (pu2 fEq) (vV 8) (vE (cC (.str "new"))))) (tOr (tE (cF2 (pu2 fEq) (vV 1) (vE (cC (.str "any"))))) (tE (cF2 (pu2 zw) (vV 1) (vV 6))))) (tAnd (tE (cF2 (pu2 fEq) (vV 8) (vV 1))) (tE (cF2 (pu2 zw) (vE (cC (.str "new"))) (vV 6)))))) (j6 8 (cC .non)) k7) k7)
  (k9 kj 6 (cV 8)))))
  (jv (cF1 x3 (vV 6))))))
def Ak(d:D):Prop:=At d\/∃z,d=.str z
theorem vju{a b:D}(ha:Ak a)(hb:Ak b):peq a b=decide (a=b):=by
 rcases ha with ha|⟨z,rfl⟩
 ·rcases hb with hb|⟨w,rfl⟩
  ·exact kxo ha hb
  ·rcases ha with rfl|⟨i,rfl⟩<;>simp[peq]
 ·rcases hb with hb|⟨w,rfl⟩
  ·rcases hb with rfl|⟨i,rfl⟩<;>simp[peq]
  ·show(z==w)=_
   by_cases h:z=w
   ·subst h;simp
   ·rw[Xa (λe=>h (by injection e))];simpa using h
theorem kvg{d:D}{n:Nat}(h:Ak d):d.flat n=true:=by
 rcases h with h|⟨z,rfl⟩
 ·exact h.flat
 ·cases n<;>rfl
theorem vkj{x:D}(hx:Ak x):∀{K:List D},(∀s∈K,Ak s)->(K.any λz=>peq z x)=decide (x∈K)
 | [],_=>by simp
 | k::K,h=>by
  rw[List.any_cons,vju (h k X2) hx,vkj hx (λs hs=>h s (lc9 _ hs))]
  by_cases e1:k=x
  ·simp[e1]
  ·have e3:¬x=k:=λz=>e1 z.symm
   by_cases e2:x∈K<;>simp[e1,e2,e3]
theorem zx{x:D}{K:List D}(hx:Ak x)(hK:∀s∈K,Ak s):zw x (.lst K)=some (.bl (decide (x∈K))):=by
 show(if x.flat 30&&D.flats 30 K then some (D.bl (K.any λz=>peq z x))else none)=_;rw[kvg hx,xZ (λk hk=>kvg (hK k hk)),vkj hx hK];rfl
theorem z0{a b:D}(ha:Ak a)(hb:Ak b):fEq a b=some (.bl (decide (a=b))):=by
 unfold fEq;rw[kvg ha,kvg hb,vju ha hb];rfl
theorem wqp{n:Int}{g:D}(h:Gd n g):Ak g:=by
 rcases h with rfl|rfl|⟨i,_,_,rfl⟩
 ·exact .inr ⟨_,rfl⟩
 ·exact .inr ⟨_,rfl⟩
 ·exact .inl (.inr ⟨i,rfl⟩)
theorem wjl{n:Int}{g:D}(h:Fd n g):Ak g:=by
 rcases h with rfl|rfl|⟨i,_,_,rfl⟩
 ·exact .inr ⟨_,rfl⟩
 ·exact .inl (.inl rfl)
 ·exact .inl (.inr ⟨i,rfl⟩)
theorem kv8{n:Int}{g f:D}{fs:List D}(hg:Gd n g)(h:FA g fs)(h1:f=.non\/f∉fs)(h2:f=.str "new"->g≠.str "any"/\g∉fs)(h3:f=g->D.str "new"∉fs):FA g (fs++[f]):=by
 have gn:g≠.non/\g≠.str "new":=by
  rcases hg with rfl|rfl|⟨i,_,_,rfl⟩
  ·exact⟨(λz=>nomatch z),by intro z;injection z with z;exact absurd z (by decide)⟩
  ·exact⟨(λz=>nomatch z),by intro z;injection z with z;exact absurd z (by decide)⟩
  ·exact⟨(λz=>nomatch z),(λz=>nomatch z)⟩
 refine⟨λi j d hd hi hj=>?_,λhn=>?_⟩
 ·have key:∀{i:Nat},(fs++[f])[i]?=some d->fs[i]?=some d\/(i=fs.length/\d=f):=fun {i} hi=>by
   rw[List.getElem?_append]at hi
   split at hi
   ·exact .inl hi
   ·rename_i az
    by_cases e:i - fs.length=0
    ·rw[e]at hi;exact .inr ⟨by omega,by simpa using hi.symm⟩
    ·rw[List.getElem?_eq_none (by simp;omega)]at hi;cases hi
  rcases key hi with a|⟨a,rfl⟩
  ·rcases key hj with b|⟨b,rfl⟩
   ·exact h.1 i j d hd a b
   ·rcases h1 with z|z
    ·exact absurd z hd
    ·exact absurd (Xh a) z
  ·rcases key hj with b|⟨b,_⟩
   ·rcases h1 with z|z
    ·exact absurd z hd
    ·exact absurd (Xh b) z
   ·omega
 ·rcases List.mem_append.mp hn with a|a
  ·obtain⟨c1,c2⟩:=h.2 a;refine⟨c1,λz=>?_⟩;rcases List.mem_append.mp z with z|z
   ·exact c2 z
   ·exact h3 (List.mem_singleton.mp z).symm a
  ·have a:=(List.mem_singleton.mp a).symm;obtain⟨c1,c2⟩:=h2 a;refine⟨c1,λz=>?_⟩;rcases List.mem_append.mp z with z|z
   ·exact c2 z
   ·exact gn.2 ((List.mem_singleton.mp z).trans a)
theorem wjm{g:D}:FA g []:=⟨(λi j f _ h=>by simp at h),(λh=>nomatch h)⟩
def FAb(ap:Bool)(g:D)(fs:List D):Prop:=ap=true->FA g fs
inductive FJ1 (zs:List Int)(g:D)(here there:Int)(ap:Bool)(LL:List D):En->List D->Prop
 |mk (fs:List D) (ws:List Int) {l7:Option Sd} {l8:Option Sd} {rest:List D} (h0:rest=ws.map D.int) (h1:(fs.length+ws.length:Int)=there) (h2:(∀f∈fs,Fd here f)) (h3:FAb ap g fs):FJ1 zs g here there ap LL [some (.no,iL zs),some (.no,g),some (.no,.int here),some (.no,.int there),some (.no,.bl ap),some (.rt,.lst LL),some (.rt,.lst fs),l7,l8] rest
theorem vj4 {ap:Bool} {zs:List Int} {g:D} {here there:Int} (h0:0<=here) (h3:here<=3) (t0:0<=there) (t3:there<=3) (hz:zs.length=3) (hg:Gd here g):
  Oo Q9 [(.no,iL zs),(.no,g),(.no,.int here),(.no,.int there),(.no,.bl ap)] (λy=>∃fs,y=(.no,.tup fs)/\(∀f∈fs,Fd here f)/\(fs.length:Int)=there/\FAb ap g fs) noX:=by
 have mn:=qvs (k:=0) (n:=here) h0;have du:jq (.no,.lst [.str "new",.non]) (.no,.lst (jQ 0 here))=some (.rt,.lst ([.str "new",.non]++jQ 0 here)):=vkk (by decide) (by decide) (by simp;omega);have jy:((([.str "new",.non]++jQ 0 here:List D).length:Nat):Int)=2+here:=by simp;omega
 have hLm:∀d∈([.str "new",.non]++jQ 0 here:List D),Fd here d:=λd hd=>by
  rcases List.mem_append.mp hd with z|z
  ·rcases List.mem_cons.mp z with rfl|z
   ·exact .inl rfl
   ·rw [List.mem_singleton.mp z];exact .inr (.inl rfl)
  ·obtain⟨i,i0,i1,rfl⟩:=kv0 z;exact .inr (.inr ⟨i,i0,i1,rfl⟩)
 generalize ([.str "new",.non]++jQ 0 here:List D)=LL at du jy hLm;have c8:Ak (.str "new"):=.inr ⟨_,rfl⟩;have kf:Ak (.str "any"):=.inr ⟨_,rfl⟩;have lr:=wqp hg;unfold Q9;refine v8 ?_;simp![du];refine zQ (FJ1 zs g here there ap LL) ?_ ?_ ?_
 ·simp![vxe (o:=.no) (xs:=zs.map D.int) (lo:=none) (hi:=some there) (by decide)];refine ⟨[],zs.take there.toNat,?_,?_,(λf hf=>nomatch hf),λ_=>wjm⟩
  ·rw [wjq t0 (by simp;omega),List.map_take]
  ·simp;omega
 ·rintro E d ds ⟨fs,ws,hr,hl,m5,il⟩;cases ws with
  | nil=>cases hr
  | cons w ws=>
   rw [List.map_cons]at hr;injection hr with e1 e2;subst e1 e2;rw [Xl]at hl;have q0:=Y4 w (show 2+here≠0 by omega);have q1:=Xu w (show 0<2+here by omega);have dj:=wqj LL (w % (2+here)) q0 (by omega);have i9:=hLm _ (JX LL (w % (2+here)) q0 (by omega));generalize LL.getD (w % (2+here)).toNat .non=one at dj i9;have iw:∀s∈fs,Ak s:=λs hs=>wjl (m5 s hs)
   have hok:=wjl i9;have fin:∀(o8:Own) (o:D),Fd here o->FAb ap g (fs++[o])->Po (k9 kj 6 (cV 8) [some (.no,iL zs),some (.no,g),some (.no,.int here),some (.no,.int there),some (.no,.bl ap),some (.rt,.lst LL),some (.rt,.lst fs),some (.no,.int w),some (o8,o)]) (λE=>FJ1 zs g here there ap LL E (ws.map D.int)) (λE=>FJ1 zs g here there ap LL E (ws.map D.int)) (λy=>∃fs,y=(.no,.tup fs)/\(∀f∈fs,Fd here f)/\(fs.length:Int)=there/\FAb ap g fs) noX:=λo8 o ho ha=>by
    refine x9 rfl ?_;simp![];refine⟨_,rfl,by omega,_,ws,rfl,by simp;omega,λf hf=>?_,ha⟩;rcases List.mem_append.mp hf with z|z
    ·exact m5 f z
    ·rw [List.mem_singleton.mp z];exact ho
   have ir:ap=true->∀o8,Po (k9 kj 6 (cV 8) [some (.no,iL zs),some (.no,g),some (.no,.int here),some (.no,.int there),some (.no,.bl ap),some (.rt,.lst LL),some (.rt,.lst fs),some (.no,.int w),some (o8,.non)]) _ _ _ noX:=λls o8=>fin o8 .non (.inr (.inl rfl)) λh=>kv8 hg (il h) (.inl rfl) (λz=>nomatch z) (λz=>by rw[<-z]at hg;rcases hg with z|z|⟨_,_,_,z⟩<;>cases z)
   cases ap with
   | false=>
    simp![jy,mod_i (a:=w) (b:=2+here) (by omega),dj];exact fin _ one i9 (λh=>nomatch h)
   | true=>
    rcases i9 with rfl|rfl|⟨i,i0,i1,rfl⟩
    ·by_cases c1:D.str "new"∈fs
     ·simp![jy,mod_i (a:=w) (b:=2+here) (by omega),dj,zx hok iw,Xd c1];exact ir rfl _
     ·by_cases c2:g=.str "any"
      ·simp![jy,mod_i (a:=w) (b:=2+here) (by omega),dj,zx hok iw,Xa c1,z0 lr kf,Xd c2,z0 c8 c8];exact ir rfl _
      ·by_cases c3:g∈fs
       ·simp![jy,mod_i (a:=w) (b:=2+here) (by omega),dj,zx hok iw,Xa c1,z0 lr kf,Xa c2,zx lr iw,Xd c3,z0 c8 c8];exact ir rfl _
       ·have c4:¬(D.str "new"=g):=λz=>by
         rw[<-z]at hg;rcases hg with z|z|⟨_,_,_,z⟩
         ·injection z with z;exact absurd z (by decide)
         ·injection z with z;exact absurd z (by decide)
         ·cases z
        simp![jy,mod_i (a:=w) (b:=2+here) (by omega),dj,zx hok iw,Xa c1,z0 lr kf,Xa c2,zx lr iw,Xa c3,z0 c8 c8,z0 c8 lr,Xa c4];exact fin _ _ (.inl rfl) λ_=>kv8 hg (il rfl) (.inr c1) (λ_=>⟨c2,c3⟩) (λz=>absurd z c4)
    ·simp![jy,mod_i (a:=w) (b:=2+here) (by omega),dj];exact ir rfl _
    ·have i9:Fd here (.int i):=.inr (.inr ⟨i,i0,i1,rfl⟩);have c0:¬(D.int i=.str "new"):=λz=>nomatch z
     by_cases c1:D.int i∈fs
     ·simp![jy,mod_i (a:=w) (b:=2+here) (by omega),dj,zx hok iw,Xd c1];exact ir rfl _
     ·by_cases c2:D.int i=g
      ·by_cases c3:D.str "new"∈fs
       ·simp![jy,mod_i (a:=w) (b:=2+here) (by omega),dj,zx hok iw,Xa c1,z0 hok c8,Xa c0,z0 hok lr,Xd c2,zx c8 iw,Xd c3];exact ir rfl _
       ·simp![jy,mod_i (a:=w) (b:=2+here) (by omega),dj,zx hok iw,Xa c1,z0 hok c8,Xa c0,z0 hok lr,Xd c2,zx c8 iw,Xa c3];exact fin _ _ i9 λ_=>kv8 hg (il rfl) (.inr c1) (λz=>absurd z c0) (λ_=>c3)
      ·simp![jy,mod_i (a:=w) (b:=2+here) (by omega),dj,zx hok iw,Xa c1,z0 hok c8,Xa c0,z0 hok lr,Xa c2];exact fin _ _ i9 λ_=>kv8 hg (il rfl) (.inr c1) (λz=>absurd z c0) (λz=>absurd z c2)
 ·rintro E ⟨fs,ws,hr,hl,m5,il⟩;cases ws with
  |cons=>cases hr
  |nil=>
   simp![K9 (o:=.rt) (xs:=fs) (by decide)];exact⟨fs,rfl,m5,by simpa using hl,il⟩
theorem vvo(i:Int)(h0:0<=i)(h1:i<26):k6 (.str "abcdefghijklmnopqrstuvwxyz") (.int i)=some (.str ⟨#[ltr.getD i.toNat 0]⟩):=by
 obtain⟨n,rfl⟩:=Int.eq_ofNat_of_zero_le h0;have h26:ltr.length=26:=by decide +kernel
 have hn:n<ltr.length:=by omega
 have hs:(("abcdefghijklmnopqrstuvwxyz":Str).cps.size:Int)=26:=by decide +kernel
 show((Q.ixN ("abcdefghijklmnopqrstuvwxyz":Str).cps.size n).bind λj=>(ltr[j]?).map λc=>D.str ⟨#[c]⟩)=_;unfold Q.ixN;rw[Xb h0,Xb (by omega)];show((ltr[n]?).map λc=>D.str ⟨#[c]⟩)=_;rw[X1 hn,X5,Ya,X1 hn];rfl
theorem vvg:∀i<26,∀j<26,ltr.getD i 0=ltr.getD j 0->i=j:=by decide +kernel
def Ltr(b st:Int)(fi:Nat)(i:Nat)(z:Str):Prop:=z.cps.toList[fi]?=some (ltr.getD ((b+i*(st+1)) % 26).toNat 0)
inductive FJ2 (x n sz am st b:Int):En->List D->Prop
 |mk (k:Int) (ss:List Str) {l7:Option Sd} {l8:Option Sd} {l9:Option Sd} {da:Option Sd} {rest:List D} (h0:0<=k) (h1:k<=n) (h2:rest=jQ k n) (h3:(ss.length:Int)=k) (h4:∀i:Nat,i<ss.length->Ltr b st am.toNat i (ss.getD i "")):FJ2 x n sz am st b [some (.no,.int x),some (.no,.int n),some (.dp,.str "abcdefghijklmnopqrstuvwxyz"),some (.no,.int sz),some (.dp,.int am),some (.no,.int st),some (.rt,sL ss),l7,l8,l9,da] rest
inductive FJ3 (x n sz am st b k:Int)(ss:List Str):En->List D->Prop
 |mk (j:Int) (z:Str) {l9:Option Sd} {da:Option Sd} {o8:Own} {rest:List D} (h0:0<=j) (h1:j<=sz+1) (h2:rest=jQ j (sz+1)) (h3:(z.cps.size:Int)=j) (h4:(am<j->Ltr b st am.toNat ss.length z)):FJ3 x n sz am st b k ss [some (.no,.int x),some (.no,.int n),some (.dp,.str "abcdefghijklmnopqrstuvwxyz"),some (.no,.int sz),some (.dp,.int am),some (.no,.int st),some (.rt,sL ss),some (.no,.int k),some (o8,.str z),l9,da] rest
end F
namespace F
open Q PySem C
def m__law_single(dr:Fn):Fn:=fn 15
  (j4 (j6 3 (jK C.m__law_digits [(jK dr [(cV 0),(cV 1)]),(cF2 jq (vE (cF2 jq (vE (jZ .rt [(cC (.int 4)),(cC (.int 8)),(cC (.int 2))])) (vE (cF2 jY (vE (jZ .rt [(cC (.int 12))])) (C9 4))))) (vE (cF2 jY (vE (jZ .rt [(cC (.int 2))])) (C9 4))))]))
  (j4 (j6 4 (cF2 jq (C9 1) (j3 (vV 3) (C9 0))))
  (j4 (j6 5 (cLC .rt 1 [3] (vk (vV 4)) (.n 0) tYes (cF2 (pu2 kW) (j3 (vV 1) (vE (cF2 jq (C9 3) (vV 0)))) (vE (cF2 jq (C9 3) (vE (cF1 (pu1 zj) (vE (cF2 (pu2 fEq) (j3 (vV 1) (C9 1)) (C9 3))))))))))
  (j4 (j6 6 (jZ .rt []))
  (j4 (qQ (vk (vV 4)) (.n 7) (j4 (j6 8 (jZ .rt []))
  (j4 (qQ (vk (vE (cF1 (pu1 kX) (vV 2)))) (.n 9) (j4 (j6 10 (jK dr [(cV 0),(cF2 jq (vE (cF2 jq (vE (cF2 jq (vV 1) (C9 1))) (vE (cF2 jY (vV 7) (vE (cF1 (pu1 kX) (vV 2))))))) (vV 9))]))
  (j4 (j6 10 (jK C.m__law_digits [(cV 10),(cF2 jq (vE (jZ .rt [(cC (.int 8)),(cC (.int 12)),(cC (.int 2)),(cC (.int 2)),(cC (.int 2)),(cC (.int 2))])) (vE (cF2 jY (vE (jZ .rt [(cC (.int 12)),(cC (.int 60)),(cC (.int 60)),(cC (.int 60))])) (C9 4))))]))
  (qQ (Vz (jK Vq [(cV 10),(cH (j3 (vV 5) (vV 7))),(cF2 (pu2 fEq) (j3 (vV 3) (C9 2)) (C9 1))])) (.t [11,12]) (j4 (j6 13 (cF2 (pu2 kW) (j3 (vV 10) (vE (cF2 jq (C9 6) (vE (cF2 jY (C9 4) (vV 11)))))) (vV 4)))
  (j4 (j6 14 (jK Q9 [(cSl (vV 10) (some (vE (cF2 jq (C9 7) (vE (cF2 jY (C9 4) (vV 11)))))) (some (vE (cF2 jq (C9 10) (vE (cF2 jY (C9 4) (vV 11))))))),(cV 12),(cH (j3 (vV 5) (vV 7))),(cH (j3 (vV 5) (vV 13))),(cF2 (pu2 fEq) (j3 (vV 3) (C9 2)) (C9 1))]))
  (k9 kj 8 (kw .no [(cH (j3 (vV 2) (vV 9))),(cV 12),(cV 13),(cV 14)]))))))))
  (k9 kj 6 (kw .no [(cH (j3 (vV 5) (vV 7))),(cF2 (pu2 fEq) (j3 (vV 3) (vE (cF2 jq (C9 7) (vV 7)))) (C9 1)),(cV 8)])))))
  (jv (kw .no [(kw .no [(cF1 zK (vV 2)),(cV 6)]),(cF2 jq (vE (cF2 jq (vV 1) (C9 1))) (vE (cF2 jY (vV 4) (vE (cF1 (pu1 kX) (vV 2))))))])))))))
theorem vw4{ys:List Int}{lo n:Int}(h0:0<=lo)(h1:0<=n)(h2:lo+n<=ys.length):Jx (ys.map D.int) (some lo) (some (lo+n))=((ys.drop lo.toNat).take n.toNat).map D.int:=by
 unfold Jx zY;dsimp only;rw[Xe (by omega),Xe (by omega),X3,List.map_take,List.map_drop]
 congr 1
 ·omega
 ·congr 1
  omega
theorem vq2{ap:Bool}{ss:List Str}{j:Nat}(hj:j<ss.length)(mx:ss.Nodup){st ii as:List D}(h:ZY ap st)(pd:∀s∈st,∃i,i<j/\∃(hi:i<ss.length) (g t f:D),s=.tup [.str ss[i],g,t,f])(has:as.Pairwise (Cpt ap))(du:∀(i:Nat) (d:D),ii[i]?=some d->∃(g t:D) (fs:List D),as[i]?=some g/\d=.tup [.str ss[j],g,t,.tup fs]/\(ap=true->FA g fs)):ZY ap (st++ii):=by
 have dif:∀{i:Nat} (hi:i<ss.length),i<j->ss[i]≠ss[j]:=fun {i} hi o9 e=>by
  exact List.pairwise_iff_getElem.mp mx i j hi hj o9 e
 refine⟨λi k z g g' t t' f f' hik hi hk=>?_,λls z g t fs hm=>?_⟩
 ·rw[List.getElem?_append]at hi hk
  split at hk
  ·rw[Xb (by omega)]at hi;exact h.1 i k z g g' t t' f f' hik hi hk
  ·split at hi
   ·obtain⟨i',h1,h2,_,_,_,e⟩:=pd _ (Xh hi);obtain⟨_,_,_,_,e2,_⟩:=du _ _ hk;injection e with e;injection e with e _;injection e with e;injection e2 with e2;injection e2 with e2 _;injection e2 with e2;exact absurd (e.symm.trans e2) (dif h2 h1)
   ·obtain⟨ga,_,_,a1,e1,_⟩:=du _ _ hi;obtain⟨gb,_,_,a2,e2,_⟩:=du _ _ hk;injection e1 with e1;injection e1 with _ e1;injection e1 with e1 _;injection e2 with e2;injection e2 with _ e2;injection e2 with e2 _;subst e1 e2;obtain⟨b1,c1⟩:=List.getElem?_eq_some_iff.mp a1;obtain⟨b2,c2⟩:=List.getElem?_eq_some_iff.mp a2;have:=(List.pairwise_iff_getElem.mp has) _ _ b1 b2 (by omega);rw[c1,c2]at this;exact this
 ·rcases List.mem_append.mp hm with q|q
  ·exact h.2 ls z g t fs q
  ·obtain⟨i,hi⟩:=List.mem_iff_getElem?.mp q;obtain⟨_,_,_,_,e,ha⟩:=du _ _ hi;injection e with e;injection e with _ e;injection e with e1 e;injection e with _ e;injection e with e _;injection e with e;subst e1 e;exact ha ls
inductive SJ1 (ns:List Int)(a:Int)(ss:List Str)(hs ks:List Int)(v0:Int)(ap:Bool):En->List D->Prop
 |mk (r:Nat) (rs:List D) {l7 l8 l9 da gp gu ri qp:Option Sd} {rest:List D} (h1:rest=jQ r (1+v0)) (h2:(r:Int)<=1+v0) (h3:rs.length=r) (h4:∀i:Nat,i<r->∃(gd:Bool) (st:List D),rs[i]?=some (.tup [.int (ks.getD i 0),.bl gd,.lst st])/\(∀s∈st,St (ks.getD i 0) s/\Sx ss ks s)/\st.length<=12/\ZY ap st):SJ1 ns a ss hs ks v0 ap [some (.no,iL ns),some (.no,.int a),some (.no,sL ss),some (.rt,iL hs),some (.dp,.int (1+v0)),some (.rt,iL ks),some (.rt,.lst rs),l7,l8,l9,da,gp,gu,ri,qp] rest
def Sgn(ss:List Str)(j:Nat)(st:List D):Prop:=∀s∈st,∃i,i<j/\∃(hi:i<ss.length) (g t f:D),s=.tup [.str ss[i],g,t,f]
inductive SJ2 (ns:List Int)(a:Int)(ss:List Str)(hs ks:List Int)(v0:Int)(ap:Bool)(rs:List D)(r:Nat)(here:Int):En->List D->Prop
 |mk (j:Nat) (st:List D) {l9 da gp gu ri qp:Option Sd} {rest:List D} (h1:rest=jQ j ss.length) (h2:j<=ss.length) (h3:∀s∈st,St here s/\Sx ss ks s) (h4:st.length<=4*j) (h5:ZY ap st) (h6:Sgn ss j st):SJ2 ns a ss hs ks v0 ap rs r here [some (.no,iL ns),some (.no,.int a),some (.no,sL ss),some (.rt,iL hs),some (.dp,.int (1+v0)),some (.rt,iL ks),some (.rt,.lst rs),some (.no,.int r),some (.rt,.lst st),l9,da,gp,gu,ri,qp] rest
def Ads(ss:List Str)(j:Nat)(hj:j<ss.length)(ap:Bool)(as ii:List D):Prop:=∀(i:Nat) (d:D),ii[i]?=some d->∃(g t:D) (fs:List D),as[i]?=some g/\d=.tup [.str ss[j],g,t,.tup fs]/\(ap=true->FA g fs)
inductive SJ3 (ns:List Int)(a:Int)(ss:List Str)(hs ks:List Int)(v0:Int)(ap:Bool)(rs:List D)(r:Nat)(here:Int)(st:List D)(j:Nat)(hj:j<ss.length)(ys:List Int):En->List D->Prop
 |mk (k:Nat) (as ii bg:List D) {gp gu ri qp:Option Sd} {rest:List D} (h0:bg=st++ii) (h1:zq ap here as) (h2:k<=as.length) (h3:rest=xw k (as.drop k)) (h4:ii.length=k) (h5:∀s∈ii,St here s/\Sx ss ks s) (h6:Ads ss j hj ap as ii):SJ3 ns a ss hs ks v0 ap rs r here st j hj ys [some (.no,iL ns),some (.no,.int a),some (.no,sL ss),some (.rt,iL hs),some (.dp,.int (1+v0)),some (.rt,iL ks),some (.rt,.lst rs),some (.no,.int r),some (.rt,.lst bg),some (.no,.int j),some (.no,iL ys),gp,gu,ri,qp] rest
theorem single_ok {dr:Fn} (hdr:Dr dr) (ns:List Int) (a:Int) (ss:List Str) (ha:0<=a) (ha2:a<=100) (hs:1<=ss.length) (qf:ss.length<=3) (mx:ss.Nodup):Oo (m__law_single dr) [(.no,iL ns),(.no,.int a),(.no,sL ss)] (λy=>∃rs fi,y=(.no,.tup [qk ss rs,.int fi])/\Rms rs/\a<=fi/\fi<=a+13/\∃kps:List Int,Rx ss kps rs/\(∀k∈kps,0<=k/\k<=3)/\∃ap,Sgl ap rs) noX:=by
 have m1:zV (.no,.lst [.int 12]) (.no,.int 4)=some (.rt,.lst [.int 12,.int 12,.int 12,.int 12]):=rfl;have m2:zV (.no,.lst [.int 2]) (.no,.int 4)=some (.rt,.lst [.int 2,.int 2,.int 2,.int 2]):=rfl;have m3:zV (.no,.lst [.int 12,.int 60,.int 60,.int 60]) (.no,.int 4)=some (.rt,.lst [.int 12,.int 60,.int 60,.int 60,.int 12,.int 60,.int 60,.int 60,.int 12,.int 60,.int 60,.int 60,.int 12,.int 60,.int 60,.int 60]):=rfl;have p1':jq (.no,.lst [.int 4,.int 8,.int 2]) (.no,.lst [.int 12,.int 12,.int 12,.int 12])=some (.rt,.lst [.int 4,.int 8,.int 2,.int 12,.int 12,.int 12,.int 12]):=rfl;have p2':jq (.no,.lst [.int 4,.int 8,.int 2,.int 12,.int 12,.int 12,.int 12]) (.no,.lst [.int 2,.int 2,.int 2,.int 2])=some (.rt,.lst [.int 4,.int 8,.int 2,.int 12,.int 12,.int 12,.int 12,.int 2,.int 2,.int 2,.int 2]):=rfl;have p3':jq (.no,.lst [.int 8,.int 12,.int 2,.int 2,.int 2,.int 2]) (.no,.lst [.int 12,.int 60,.int 60,.int 60,.int 12,.int 60,.int 60,.int 60,.int 12,.int 60,.int 60,.int 60,.int 12,.int 60,.int 60,.int 60])=some (.rt,.lst [.int 8,.int 12,.int 2,.int 2,.int 2,.int 2,.int 12,.int 60,.int 60,.int 60,.int 12,.int 60,.int 60,.int 60,.int 12,.int 60,.int 60,.int 60,.int 12,.int 60,.int 60,.int 60]):=rfl;unfold m__law_single;refine v8 ?_;simp![];refine (hdr ns a ha (by omega)).use ?_;intro x _;simp![m1,m2,p1',p2'];refine (kjz x [4,8,2,12,12,12,12,2,2,2,2] (by decide) (by decide)).use ?_;intro ji hd;obtain ⟨v0,e0,a0,b0⟩:=dg hd 0 (by decide) (by decide);obtain ⟨v1,e1,a1,b1⟩:=dg hd 1 (by decide) (by decide);obtain ⟨v2,e2,a2,b2⟩:=dg hd 2 (by decide) (by decide);have b0:v0<4:=b0;have b1:v1<8:=b1;simp![e0];refine kjx [some (.rt,iL ji)] (λ_ y=>∃i,y=(.dp,.int i)/\0<=i/\i<=3) ?_;refine V8 ?_;simp![];refine ⟨_,rfl,by omega,by omega,rfl,λd lu=>?_,λys hy=>?_⟩
 ·obtain⟨i,i0,i1,rfl⟩:=kv0 lu;obtain⟨w,ew,aw,bw⟩:=dg hd (3+i) (by omega) (by simp;omega);obtain⟨q,hq,q0,q1⟩:=fint (v1==3);have r0:=Y4 w (show 3+q≠0 by omega);have r1:=Xu w (show 0<3+q by omega);simp![ew,e1,xQ,hq,mod_i (a:=w) (b:=3+q) (by omega)];exact ⟨⟨_,rfl⟩,_,rfl,by omega,by omega⟩
 obtain ⟨ks,h1,h2,fw⟩:=kwr (S:=λi=>0<=i/\i<=3) (λd y ⟨i,h,s⟩=>⟨i,by rw[h],s⟩) hy;have nl:(ks.length:Int)=1+v0:=by rw[h2,qvs (by omega)];omega
 rw [KW,h1];simp only[back,clr,at',List.map_cons,List.map_nil,List.set_cons_zero,List.set_cons_succ];generalize ls:(v2==1)=ap;simp![];refine zQ (SJ1 ns a ss ji ks v0 ap) ?_ ?_ ?_
 ·refine V8 ?_;simp![];exact ⟨_,rfl,by omega,by omega,.mk 0 [] rfl (by omega) rfl λi hi=>absurd hi (Nat.not_lt_zero _)⟩
 ·rintro E d ds ⟨r,rs,hr,hrn,mn,ly⟩;obtain⟨az,rfl,rfl⟩:=Z4 hrn hr;obtain⟨here,eh,⟨o6,hh1⟩,hhg⟩:=ixI ks _ fw r (by omega) (by omega);have hhg:ks[r]?=some here:=by simpa using hhg
  have hge:ks.getD r 0=here:=by rw[X5,hhg];rfl
  obtain⟨g7,e7,_,_⟩:=dg hd (7+r) (by omega) (by simp;omega);simp![];refine zQ (SJ2 ns a ss ji ks v0 ap rs r here) ?_ ?_ ?_
  ·refine V8 ?_;simp![];exact⟨ss.length,by simp,by omega,by omega,.mk 0 [] rfl (by omega) (λs hs=>nomatch hs) (by simp) ⟨(λi k z g g' t t' f f' _ h=>by simp at h),(λ_ _ _ _ _ h=>nomatch h)⟩ (λs hs=>nomatch hs)⟩
  ·rintro E d nr ⟨j,st,hr2,hj,b7,hstl,hsgl,pd⟩;obtain⟨hjlt,rfl,rfl⟩:=Z4 (by omega) hr2;have hjl:j<ss.length:=by omega
   have gv:k6 (sL ss) (.int j)=some (.str ss[j]):=wY (by omega) (by simp[hjl]);have hrj:(r:Int)*(ss.length:Int)<=3*3:=Int.mul_le_mul (by omega) (by omega) (by omega) (by decide);have hrj0:0<=(r:Int)*(ss.length:Int):=Int.mul_nonneg (by omega) (by omega);simp![];refine(hdr ns (a+1+r*ss.length+j) (by omega) (by omega)).use ?_;intro x2 _;simp![m3,p3'];refine(kjz x2 [8,12,2,2,2,2,12,60,60,60,12,60,60,60,12,60,60,60,12,60,60,60] (by decide) (by decide)).use ?_;intro qd me;obtain⟨y0,f0,g0,g0'⟩:=dg me 0 (by decide) (by decide);obtain⟨y1,f1,g1,_⟩:=dg me 1 (by decide) (by decide);obtain⟨y5,f5,g5,_⟩:=dg me 5 (by decide) (by decide);simp![];refine zQ (SJ3 ns a ss ji ks v0 ap rs r here st j hjl qd) ?_ ?_ ?_
   ·simp![eh,e2,xQ,ls];refine(vwd o6 hh1 f0 f1 f5 (λk k0 k1=>by obtain⟨v,hv,_⟩:=dg me (2+k) (by omega) (by simp;omega);exact⟨v,hv⟩)).use ?_;intro as has;simp![];exact .mk 0 as [] st (Xp _).symm has (Xv _) rfl rfl (λs hs=>nomatch hs) (λi d h=>by simp at h)
   ·rintro E d ds3 ⟨k,as,ii,bg,qf,has,dz,hr3,ky,du,hgs⟩
    by_cases ml:k<as.length
    ·rw [Yi ml,xw]at hr3;injection hr3 with e5 e6;subst e5 e6;have dv:=has.2.2;have hag:Gd here as[k]:=has.2.1 _ (Xi _);obtain⟨y6,f6,g6,_⟩:=dg me (6+4*k) (by omega) (by simp;omega);have r0:=Y4 y6 (show 1+v0≠0 by omega);have r1:=Xu y6 (show 0<1+v0 by omega);obtain⟨kto,et,⟨ht0,ht1⟩,hkto⟩:=ixI ks _ fw (y6 % (1+v0)) r0 (by omega);obtain⟨ws,hws,qu⟩:∃ws:List Int,Jx (qd.map D.int) (some (7+4*k)) (some (10+4*k))=ws.map D.int/\ws.length=3:=by
      have hyl:qd.length=22:=me.len;exact⟨(qd.drop (7+4*k)).take 3,by rw[show(10:Int)+4*k=7+4*k+3 by omega,vw4 (by omega) (by omega) (by omega),show(7+4*(k:Int)).toNat=7+4*k by omega];rfl,by rw[List.length_take,List.length_drop,hyl];omega⟩
     simp![f6,mod_i (a:=y6) (b:=1+v0) (by omega),vxe (o:=.no) (xs:=qd.map D.int) (lo:=some (7+4*k)) (hi:=some (10+4*k)) (by decide),hws,eh,et,e2,xQ,ls];refine(vj4 (ap:=ap) (g:=as[k]) (here:=here) (there:=kto) o6 hh1 ht0 ht1 qu hag).use ?_;rintro fs ⟨m5,nh,il⟩;simp![];refine x9 rfl ?_;simp![gv];refine⟨_,rfl,by rw[qf,Xn];omega,.mk (k+1) as (ii++[.tup [.str ss[j],as[k],.int (y6 % (1+v0)),.tup fs]]) _ (by rw[qf,Xq]) has (by omega) rfl (by simp[ky]) (λs hs=>?_) (λi d hi=>?_)⟩
     ·rcases List.mem_append.mp hs with z|z
      ·exact du s z
      ·rw[List.mem_singleton.mp z];refine⟨⟨_,as[k],_,fs,rfl,hag,m5,by omega⟩,_,as[k],_,fs,rfl,Xi _,r0,by omega,?_⟩;rw[nh,X5,hkto];rfl
     ·rw[List.getElem?_append]at hi
      split at hi
      ·exact hgs i d hi
      ·by_cases e:i - ii.length=0
       ·rw[e]at hi;have hik:i=k:=by omega
        subst hik;exact⟨as[i],_,fs,X1 ml,by simpa using hi.symm,il⟩
       ·rw[List.getElem?_eq_none (by simp;omega)]at hi;cases hi
    ·rw[List.drop_eq_nil_of_le (by omega)]at hr3;cases hr3
   ·rintro E ⟨k,as,ii,bg,qf,has,dz,hr3,ky,du,hgs⟩;subst qf;have dv:=has.2.2;refine .mk (j+1) (st++ii) (by rw[show((j+1:Nat):Int)=(j:Int)+1 by omega]) (by omega) (λs hs=>?_) (by rw[Xn];omega) (vq2 hjl mx hsgl pd has.1 hgs) (λs hs=>?_)
    ·rcases List.mem_append.mp hs with z|z
     ·exact b7 s z
     ·exact du s z
    ·rcases List.mem_append.mp hs with z|z
     ·obtain⟨i,q1,q2,g,t,f,e⟩:=pd s z;exact⟨i,by omega,q2,g,t,f,e⟩
     ·obtain⟨i,hi⟩:=List.mem_iff_getElem?.mp z;obtain⟨g,t,fs,_,e,_⟩:=hgs i s hi;exact⟨j,by omega,hjl,g,t,_,e⟩
  ·rintro E ⟨j,st,hr2,hj,b7,hstl,hsgl,pd⟩;refine x9 rfl ?_;simp![eh,e7,xQ];refine⟨_,rfl,by omega,.mk (r+1) _ (by rw[show((r+1:Nat):Int)=(r:Int)+1 by omega]) (by omega) (by simp[mn]) λi hi=>?_⟩
   by_cases he:i<r
   ·obtain⟨gd,df,q1,q2,q3⟩:=ly i he;exact⟨gd,df,by rw[Y9 (by omega)];exact q1,q2,q3⟩
   ·have:i=r:=by omega
    subst this;refine⟨_,st,by rw[Y7 (by omega),mn,Nat.sub_self,hge];rfl,by rw[hge];exact b7,by omega,hsgl⟩
 ·rintro E ⟨r,rs,hr,hrn,mn,ly⟩;have:=jw4 hrn hr;have o7:0<=(1+v0)*(ss.length:Int):=Int.mul_nonneg (by omega) (by omega);have hm1:(1+v0)*(ss.length:Int)<=4*3:=Int.mul_le_mul (by omega) (by omega) (by omega) (by decide);simp![Zx (o:=.no) (xs:=ss.map D.str) (by decide)];refine⟨rs,_,rfl,⟨by omega,by omega,λr' lv=>?_⟩,by omega,by omega,ks,⟨by omega,λi hi=>?_⟩,fw,ap,λk g st hm=>?_⟩
  ·obtain⟨i,hi,e⟩:=List.mem_iff_getElem.mp lv;obtain⟨gd,st,q1,q2,q3,_⟩:=ly i (by omega);rw[X1 hi,e]at q1;have hk:=fw (ks.getD i 0) (by rw[X5,X1 (by omega)];exact Xi _);exact⟨_,gd,st,oq9 q1,hk.1,hk.2,λs hs=>(q2 s hs).1,by omega⟩
  ·obtain⟨gd,st,q1,q2,q3⟩:=ly i (by omega);exact⟨gd,st,q1,λs hs=>(q2 s hs).2⟩
  ·obtain⟨i,hi,e⟩:=List.mem_iff_getElem.mp hm;obtain⟨gd,df,q1,q2,q3,q4⟩:=ly i (by omega);rw[X1 hi,e]at q1;have q1:=oq9 q1;injection q1 with q1;injection q1 with _ q1;injection q1 with _ q1;injection q1 with q1 _;injection q1 with q1;subst q1;exact q4
end F
namespace F
open Q PySem C
def wjs(K:List D)(d:D):D:=match d with
 |.tup [room,.tup ks]=>.tup [.int (K.idxOf (.tup [room,.tup (pr ks)]):Nat),iT (jx ks)]
 |_=>.non
def wqy(rs:List D)(s:D)(z:Str)(L:List D)(d:D):D:=match d with
 |.int p=>(match obD rs s z p with
  |some d=>wjs L d
  |none=>.non)
 |_=>.non
def wve(s:D):List D:=jQ 0 ((jx (vZ s)).length+1)
def vxb(ss:List Str)(rs L:List D)(s:D):List D:=ss.map λz=>.lst ((wve s).map (wqy rs s z L))
def wv9(L:List D)(e:D):Prop:=∀room ks,e=.tup [room,.tup ks]->D.tup [room,.tup (pr ks)]∈L
def Clo(zs:List Str)(rs L:List D)(s:D):Prop:=∀z∈zs,∀p:Int,D.int p∈wve s->∃e,obD rs s z p=some e/\wv9 L e
def Nrm(t:D):Prop:=∃room ks,t=.tup [room,.tup (pr ks)]
def Inv(ss:List Str)(rs K a8:List D):Prop:=a8.length<=K.length/\(∀i,i<a8.length->Clo ss rs K (K.getD i .non)/\∀L,K <+: L->a8[i]?=some (Q6 rs (K.getD i .non) (vxb ss rs L (K.getD i .non))))/\∀t∈K,Nrm t
end F
namespace G
open Q PySem C F
def fl(own:Int):D->D
 |.int f=>if f=own then .str "new" else .int f
 |d=>d
end G
namespace G
open Q PySem C F
def nN(t:D):Nat:=(jx (vZ t)).length
end G
namespace G
open Q PySem C F
theorem qqf(x n:Int)(hx:0<=x)(h0:0<=n)(h1:n<=3):Oo C.m__law_signs [(.no,.int x),(.no,.int n)] (λy=>∃ss,y=(.rt,sL ss)/\(ss.length:Int)=n/\(∀z∈ss,Sg z)/\ss.Nodup) noX:=by
 unfold C.m__law_signs;refine v8 ?_;simp![];refine(kjz x [8,840,8] (by decide) (by decide)).via ?_;rintro _ ⟨ds,rfl,hd⟩;obtain⟨sz,fi,st,rfl,a1,a2,a3,a4,a5,a6⟩:=wqw hd;simp![];have b1:=Y4 fi (show sz+1≠0 by omega);have b2:=Xu fi (show 0<sz+1 by omega);generalize fi % (sz+1)=am at b1 b2;obtain⟨b,hb⟩:∃b,b=x / (53761+26*am*am):=⟨_,rfl⟩;refine zQ (λE rest=>∃k ss l7 l8 l9 da o0 o1 o2 o3 o4 o5,E=[some (o0,.int x),some (o1,.int n),some (o2,.str "abcdefghijklmnopqrstuvwxyz"),some (o3,.int sz),some (o4,.int am),some (o5,.int st),some (.rt,sL ss),l7,l8,l9,da]/\0<=k/\k<=n/\rest=jQ k n/\(ss.length:Int)=k/\(∀z∈ss,Sg z)/\∀i:Nat,i<ss.length->Ltr b st am.toNat i (ss.getD i "")) ?_ ?_ ?_
 ·refine V8 ?_;simp![];exact⟨n,rfl,by omega,by omega,0,[],_,_,_,_,_,_,_,_,_,_,rfl,by omega,h0,rfl,rfl,(λz hz=>nomatch hz),λi hi=>absurd hi (Nat.not_lt_zero _)⟩
 ·rintro E d ds ⟨k,ss,l7,l8,l9,da,o0,o1,o2,o3,o4,o5,rfl,k0,k1,hr,hl,hSg,hS⟩;obtain⟨hk,rfl,rfl⟩:=Z4 k1 hr;simp![];refine zQ (λE rest=>∃j z l9 da o8,E=[some (o0,.int x),some (o1,.int n),some (o2,.str "abcdefghijklmnopqrstuvwxyz"),some (o3,.int sz),some (o4,.int am),some (o5,.int st),some (.rt,sL ss),some (.no,.int k),some (o8,.str z),l9,da]/\0<=j/\j<=sz+1/\rest=jQ j (sz+1)/\(z.cps.size:Int)=j/\(∀c∈z.cps.toList,c∈ltr)/\(am<j->Ltr b st am.toNat ss.length z)) ?_ ?_ ?_
  ·refine V8 ?_;simp![];exact⟨sz+1,rfl,by omega,by omega,0,"",_,_,_,rfl,by omega,by omega,rfl,rfl,(λc hc=>nomatch hc),λh=>by omega⟩
  ·rintro E d ds ⟨j,z,l9,da,o8,rfl,j0,j1,hr,hz,hzc,jl⟩;obtain⟨hj,rfl,rfl⟩:=Z4 j1 hr;have jj0:0<=j*j:=Int.mul_nonneg j0 j0;have jj1:j*j<=8*8:=Int.mul_le_mul (by omega) (by omega) j0 (by decide);have kk0:0<=k*(st+1):=Int.mul_nonneg k0 (by omega);have kk1:k*(st+1)<=3*9:=Int.mul_le_mul (by omega) (by omega) (by omega) (by decide);have e1:26*j*j=26*(j*j):=Int.mul_assoc _ _ _;have hdv:z6 (.int x) (.int (53761+26*j*j))=some (.int (x / (53761+26*j*j))):=div_i (by omega) (by omega);have key:∃w:Int,zj (.bl (j==am))=some (.int w)/\0<=w/\w<=1/\(j=am->w=1):=by
    by_cases h:j=am
    ·rw[show(j==am)=true by simpa using h];exact⟨1,rfl,by decide,by decide,λ_=>rfl⟩
    ·rw[show(j==am)=false by simpa using h];exact⟨0,rfl,by decide,by decide,λz=>absurd z h⟩
   simp![xQ,hdv];obtain⟨w,hw,w0,w1,hw1⟩:=key;simp![hw];have hte:j=am->x / (53761+26*j*j)+k*(st+1)*w=b+ss.length*(st+1):=λh=>by rw[hw1 h,hb,h,hl,Int.mul_one]
   generalize x / (53761+26*j*j)+k*(st+1)*w=t at hte;have t0:=Y4 t (show(26:Int)≠0 by decide);have t1:=Xu t (show(0:Int)<26 by decide);simp![vvo (t % 26) t0 t1];have hs:((⟨#[ltr.getD (t % 26).toNat 0]⟩:Str).cps.size)=1:=rfl;simp![wjw (a:=z) (b:=⟨#[ltr.getD (t % 26).toNat 0]⟩) (by rw[hs];omega)];refine⟨j+1,z++⟨#[ltr.getD (t % 26).toNat 0]⟩,_,_,_,rfl,by omega,by omega,rfl,by rw[qxy,hs];omega,λc hc=>?_,λh=>?_⟩
   ·have hc:c∈(z.cps++#[ltr.getD (t % 26).toNat 0]).toList:=hc;rw[Array.toList_append]at hc;rcases List.mem_append.mp hc with q|q
    ·exact hzc c q
    ·have h26:ltr.length=26:=by decide +kernel
     have:c=ltr.getD (t % 26).toNat 0:=by simpa using q
     rw[this,X5,X1 (by omega)];exact Xi _
   have hcp:(z++⟨#[ltr.getD (t % 26).toNat 0]⟩:Str).cps.toList=z.cps.toList++[ltr.getD (t % 26).toNat 0]:=by
    show(z.cps++#[ltr.getD (t % 26).toNat 0]).toList=_;rw[Array.toList_append]
   have hzs:z.cps.toList.length=z.cps.size:=Y6;unfold Ltr;rw[hcp]
   by_cases hja:j=am
   ·have ht:=hte hja;rw[Y7 (by omega),show am.toNat - z.cps.toList.length=0 by omega,<-ht];rfl
   ·rw[Y9 (by omega)];exact jl (by omega)
  ·rintro E ⟨j,z,l9,da,o8,rfl,j0,j1,hr,hz,hzc,jl⟩;have:=jw4 j1 hr;refine x9 rfl ?_;simp![];refine⟨_,rfl,by rw[X3];omega,?_⟩;rw[show ss.map D.str++[D.str z]=(ss++[z]).map D.str by simp];refine⟨k+1,ss++[z],_,_,_,_,_,_,_,_,_,_,rfl,by omega,by omega,rfl,by simp;omega,λy hy=>?_,λi hi=>?_⟩
   ·rcases List.mem_append.mp hy with q|q
    ·exact hSg y q
    ·rw[List.mem_singleton.mp q];exact⟨by omega,hzc⟩
   rw[Xn,List.length_singleton]at hi;rw[X5]
   by_cases hil:i<ss.length
   ·rw[Y9 hil,<-X5];exact hS i hil
   ·have:i=ss.length:=by omega
    subst this;rw[Y7 (X8 _),Nat.sub_self];exact jl (by omega)
 ·rintro E ⟨k,ss,l7,l8,l9,da,o0,o1,o2,o3,o4,o5,rfl,k0,k1,hr,hl,hSg,hS⟩;have:=jw4 k1 hr;subst this;simp![qxs (o:=.rt) (ss:=ss) (by omega)];refine⟨J0 ss,rfl,by rw[kvr];exact hl,λz hz=>hSg z ((XZ ss).mem_iff.mp hz),(XZ ss).nodup_iff.mpr ?_⟩;rw[List.nodup_iff_pairwise_ne,List.pairwise_iff_getElem];intro i j hi hj o9 e;have p1:=hS i hi;have p2:=hS j hj;rw[X5,X1 hi]at p1;rw[X5,X1 hj]at p2;have p1:Ltr b st am.toNat i ss[i]:=p1;have p2:Ltr b st am.toNat j ss[j]:=p2;unfold Ltr at p1 p2;rw[e,p2]at p1;have p1:=oq9 p1;have m0:=Y4 (b+i*(st+1)) (show(26:Int)≠0 by decide);have m1:=Xu (b+i*(st+1)) (show(0:Int)<26 by decide);have m2:=Y4 (b+j*(st+1)) (show(26:Int)≠0 by decide);have m3:=Xu (b+j*(st+1)) (show(0:Int)<26 by decide);have:=vvg _ (by omega) _ (by omega) p1;have hij3:(i=0/\j=1)\/(i=0/\j=2)\/(i=1/\j=2):=by omega
  rcases hij3 with⟨rfl,rfl⟩|⟨rfl,rfl⟩|⟨rfl,rfl⟩
  ·have q:((1:Nat):Int)*(st+1)=st+1:=by omega
   have q2:((0:Nat):Int)*(st+1)=0:=by omega
   rw[q]at *;rw[q2]at *;omega
  ·have q:((2:Nat):Int)*(st+1)=2*st+2:=by omega
   have q2:((0:Nat):Int)*(st+1)=0:=by omega
   rw[q]at *;rw[q2]at *;omega
  ·have q:((2:Nat):Int)*(st+1)=2*st+2:=by omega
   have q2:((1:Nat):Int)*(st+1)=st+1:=by omega
   rw[q]at *;rw[q2]at *;omega
end G
namespace Nk33
open PySem Q
def V3:Fn:=fn 4
  (j4 (j6 3 (cH (j3 (vV 0) (C9 1))))
  (j4 (sIf (tE (cF2 (pu2 fEq) (vV 3) (vE (cC (.str "any"))))) (jv (cC (.bl true))) k7)
  (j4 (sIf (tE (cF2 (pu2 fEq) (vV 3) (vE (cC (.str "fresh"))))) (jv (cF2 (pu2 vQ) (vV 2) (vV 1))) k7)
  (jv (cF2 (pu2 fEq) (j3 (vV 1) (vV 3)) (vV 2))))))
def V1:Fn:=fn 3
  (j4 (sIf (tE (cF2 (f2First fIsNon) (vV 0) (vE (cC .non)))) (jv (cC .non)) k7)
  (jv (cIf (tE (cF2 (pu2 fEq) (vV 0) (vE (cC (.str "new"))))) (cV 2) (cH (j3 (vV 1) (vV 0))))))
def VX:Fn:=fn 3
  (jv (cF1 x3 (vE (cLC .rt 1 [1,2] (itS (cH (j3 (vV 0) (C9 3)))) (.n 0) tYes (jK V1 [(cV 0),(cV 1),(cV 2)])))))
def m_first_standing:Fn:=fn 1
  (jv (kw .no [(cC (.int 0)),(cF2 jY (vE (kw .no [(cC .non)])) (j3 (j3 (j3 (vV 0) (C9 1)) (C9 0)) (C9 0)))]))
def JZ:Fn:=fn 2
  (jv (cH (j3 (j3 (j3 (vV 0) (C9 1)) (j3 (vV 1) (C9 0))) (C9 2))))
def m_fitting:Fn:=fn 6
  (j4 (j6 4 (cH (j3 (vV 1) (C9 1))))
  (j4 (j6 5 (jK JZ [(cV 0),(cV 1)]))
  (jv (cLC .rt 2 [2,4,3] (Vz (cV 5)) (.t [0,1]) (tAnd (tE (cF2 (pu2 fEq) (j3 (vV 1) (C9 0)) (vV 2))) (tEQ (vE (jK V3 [(cV 1),(cV 3),(cV 4)])))) (cV 0)))))
def m_behind:Fn:=fn 5
  (j4 (j6 4 (cH (j3 (vE (jK JZ [(cV 0),(cV 1)])) (vV 2))))
  (jv (kw .no [(cH (j3 (vV 4) (C9 2))),(jK VX [(cV 4),(cH (j3 (vV 1) (C9 1))),(cV 3)])])))
def m_names_held:Fn:=fn 3
  (j4 (j6 1 (jZ .rt []))
  (j4 (qQ (itS (cV 0)) (.n 2) (sIf (tAnd (tE (cF2 (f2First fNotNon) (vV 2) (vE (cC .non)))) (tE (cF2 (pu2 vQ) (vV 2) (vV 1)))) (k9 kj 1 (cV 2)) k7))
  (jv (cMv 1))))
def VW:Fn:=fn 2
  (jv (cF1 x3 (vE (cLC .rt 1 [0] (itS (cV 1)) (.n 0) tYes (cIf (tE (cF2 (f2First fIsNon) (vV 0) (vE (cC .non)))) (cC .non) (Vv (vV 1) (vV 0)))))))
def JJ:Fn:=fn 4
  (j4 (sIf (tE (cF2 (f2First fIsNon) (vV 0) (vE (cC .non)))) (jv (cC .non)) k7)
  (j4 (j6 2 (jK m_names_held [(cH (j3 (vV 0) (C9 1)))]))
  (j4 (j6 3 (kw .no [(cH (j3 (vV 0) (C9 0))),(jK VW [(cV 2),(cH (j3 (vV 0) (C9 1)))])]))
  (jv (kw .no [(YW 1 (vV 3) (vE (cF1 (pu1 Qw) (vV 1)))),(cF1 x3 (vV 2))])))))
def V9:Fn:=fn 5
  (j4 (j6 4 (jK m_fitting [(cV 0),(cV 1),(cV 2),(cV 3)]))
  (j4 (sIf (tE (cF2 (pu2 fGt) (vE (cF1 (pu1 kX) (vV 4))) (C9 1))) (sRz "NotSingle") k7)
  (jv (cIf (tEQ (vV 4)) (jK m_behind [(cV 0),(cV 1),(cH (j3 (vV 4) (C9 0))),(cV 3)]) (cC .non)))))
def m_plain_cases:Fn:=fn 5
  (j4 (j6 4 (Q8 (vE (cF2 jq (vE (cF1 (pu1 kX) (vE (jK m_names_held [(cH (j3 (vV 1) (C9 1)))])))) (C9 1)))))
  (jv (cLC .rt 1 [0,1,2,3] (itS (cV 4)) (.n 0) tYes (V5 JJ 4 [(jK V9 [(cV 1),(cV 2),(cV 3),(cV 0)])]))))
def Kw:Fn:=fn 5
  (j4 (j6 1 (qx5 (jK m_first_standing [(cV 0)]) (cC (.int 0))))
  (j4 (j6 2 (jZ .dp []))
  (j4 (sWhile (tE (cF2 (pu2 fLt) (vE (cF1 (pu1 kX) (vV 2))) (vE (cF1 (pu1 Qw) (vV 1))))) (j4 (j6 3 (cH (j3 (vE (cF1 JW (vV 1))) (vE (cF1 (pu1 kX) (vV 2))))))
  (j4 (j6 4 (cLC .dp 1 [0,3,1] (itS (cH (j3 (vV 0) (C9 0)))) (.n 0) tYes (Q4 (V5 m_plain_cases 3 [(cV 1),(cV 2),(cV 0)]))))
  (k9 kj 2 (kw .dp [(Q4 (cF1 (pu1 kX) (vE (jK m_names_held [(cH (j3 (vV 3) (C9 1)))])))),(cH (j3 (j3 (j3 (vV 0) (C9 1)) (j3 (vV 3) (C9 0))) (C9 1))),(cMv 4)])))))
  (jv (kw .dp [(kw .dp [(Q4 (cF1 zK (j3 (vV 0) (C9 0)))),(cMv 2)]),(Q4 (cF1 JW (vV 1)))])))))
def jqo:Fn:=fn 1
  (j4 (Kv ["NotSingle"] (qxz (Wx Kw [(cV 0)])) (jv (cC (.bl false))))
  (jv (cC (.bl true))))
def m__law_draw:Fn:=fn 4
  (j4 (j6 2 (cF2 jY (C9 1000) (vE (cF2 (pu2 WY) (C9 10) (C9 64)))))
  (j4 (j6 3 (cF2 jq (vE (cF2 jY (vE (cF2 jY (vV 1) (vV 1))) (vV 1))) (C9 7)))
  (j4 (sIf (tE (cF2 (pu2 fLt) (vV 1) (vE (cF1 (pu1 kX) (vV 0))))) (j6 3 (cH (j3 (vV 0) (vV 1)))) (sIf (tE (cF2 (pu2 fGt) (vE (cF1 (pu1 kX) (vV 0))) (C9 0))) (j6 3 (cF2 jY (vE (cF2 jq (vE (cF2 (pu2 kW) (j3 (vV 0) (vE (cF2 (pu2 kW) (vV 1) (vE (cF1 (pu1 kX) (vV 0)))))) (C9 1000003))) (C9 1))) (vV 3))) k7))
  (jv (cF2 (pu2 kW) (vE (cF2 jY (vE (cF2 (pu2 kW) (vV 3) (vV 2))) (vE (cF2 (pu2 WY) (C9 7919) (C9 15))))) (vV 2))))))
def m__law_digits:Fn:=fn 4
  (j4 (j6 2 (jZ .rt []))
  (j4 (qQ (itS (cV 1)) (.n 3) (j4 (k9 kj 2 (cF2 (pu2 kW) (vV 0) (vV 3)))
  (j6 0 (cF2 (pu2 z6) (vV 0) (vV 3)))))
  (jv (cMv 2))))
def m__law_signs:Fn:=fn 11
  (j4 (j6 2 (cC (.str "abcdefghijklmnopqrstuvwxyz")))
  (j4 (Yx [3,4,5] (jK m__law_digits [(cV 0),(jZ .rt [(cC (.int 8)),(cC (.int 840)),(cC (.int 8))])]))
  (j4 (j6 4 (cF2 (pu2 kW) (vV 4) (vE (cF2 jq (vV 3) (C9 1)))))
  (j4 (j6 6 (jZ .rt []))
  (j4 (qQ (vk (vV 1)) (.n 7) (j4 (j6 8 (cC (.str "")))
  (j4 (qQ (vk (vE (cF2 jq (vV 3) (C9 1)))) (.n 9) (j4 (j6 10 (cF2 jq (vE (cF2 (pu2 z6) (vV 0) (vE (cF2 jq (C9 53761) (vE (cF2 jY (vE (cF2 jY (C9 26) (vV 9))) (vV 9))))))) (vE (cF2 jY (vE (cF2 jY (vV 7) (vE (cF2 jq (vV 5) (C9 1))))) (vE (cF1 (pu1 zj) (vE (cF2 (pu2 fEq) (vV 9) (vV 4)))))))))
  (j6 8 (cF2 jq (vV 8) (j3 (vV 2) (vE (cF2 (pu2 kW) (vV 10) (C9 26))))))))
  (k9 kj 6 (cV 8)))))
  (jv (cF1 Z8 (vV 6))))))))
def Vq:Fn:=fn 4
  (j4 (sIf (tE (cF2 (pu2 fEq) (j3 (vV 0) (C9 0)) (C9 1))) (jv (jZ .rt [(cC (.str "any"))])) k7)
  (j4 (j6 3 (jZ .rt []))
  (j4 (sIf (tOr (tE (cF2 (pu2 fGt) (j3 (vV 0) (C9 0)) (C9 2))) (tAnd (tE (cF2 (pu2 fEq) (vV 1) (C9 0))) (tE (cF2 (pu2 fGt) (j3 (vV 0) (C9 0)) (C9 0))))) (k9 kj 3 (cC (.str "fresh"))) k7)
  (j4 (sIf (tAnd (tE (cF2 (pu2 fGt) (vV 1) (C9 0))) (tE (cF2 (pu2 fGt) (j3 (vV 0) (C9 0)) (C9 1)))) (j4 (k9 kj 3 (cF2 (pu2 kW) (j3 (vV 0) (C9 1)) (vV 1)))
  (sIf (tEQ (vV 2)) (j6 3 (cF2 jq (vV 3) (vE (cLC .rt 1 [3,0] (vk (vV 1)) (.n 0) (tAnd (tE (cF2 (pu2 vQ) (vV 0) (vV 1))) (tE (cF2 (pu2 fEq) (j3 (vV 2) (vE (cF2 jq (C9 2) (vV 0)))) (C9 1)))) (cV 0))))) k7)) k7)
  (j4 (sIf (tE (cF2 (pu2 fEq) (j3 (vV 0) (C9 5)) (C9 1))) (QY 3) k7)
  (jv (cMv 3)))))))
def Q9:Fn:=fn 9
  (j4 (j6 5 (cF2 jq (vE (jZ .rt [(cC (.str "new")),(cC .non)])) (vE (Q8 (vV 2)))))
  (j4 (j6 6 (jZ .rt []))
  (j4 (qQ (itS (cSl (vV 0) none (some (vV 3)))) (.n 7) (j4 (j6 8 (cH (j3 (vV 5) (vE (cF2 (pu2 kW) (vV 7) (vE (cF1 (pu1 kX) (vV 5))))))))
  (j4 (sIf (tAnd (tEQ (vV 4)) (tE (cF2 (f2First fNotNon) (vV 8) (vE (cC .non))))) (sIf (tOr (tE (cF2 (pu2 zw) (vV 8) (vV 6))) (tOr (tAnd (tE (cF2 (pu2 fEq) (vV 8) (vE (cC (.str "new"))))) (tOr (tE (cF2 (pu2 fEq) (vV 1) (vE (cC (.str "any"))))) (tE (cF2 (pu2 zw) (vV 1) (vV 6))))) (tAnd (tE (cF2 (pu2 fEq) (vV 8) (vV 1))) (tE (cF2 (pu2 zw) (vE (cC (.str "new"))) (vV 6)))))) (j6 8 (cC .non)) k7) k7)
  (k9 kj 6 (cV 8)))))
  (jv (cF1 x3 (vV 6))))))
def m__law_single:Fn:=fn 15
  (j4 (j6 3 (jK m__law_digits [(jK m__law_draw [(cV 0),(cV 1)]),(cF2 jq (vE (cF2 jq (vE (jZ .rt [(cC (.int 4)),(cC (.int 8)),(cC (.int 2))])) (vE (cF2 jY (vE (jZ .rt [(cC (.int 12))])) (C9 4))))) (vE (cF2 jY (vE (jZ .rt [(cC (.int 2))])) (C9 4))))]))
  (j4 (j6 4 (cF2 jq (C9 1) (j3 (vV 3) (C9 0))))
  (j4 (j6 5 (cLC .rt 1 [3] (vk (vV 4)) (.n 0) tYes (cF2 (pu2 kW) (j3 (vV 1) (vE (cF2 jq (C9 3) (vV 0)))) (vE (cF2 jq (C9 3) (vE (cF1 (pu1 zj) (vE (cF2 (pu2 fEq) (j3 (vV 1) (C9 1)) (C9 3))))))))))
  (j4 (j6 6 (jZ .rt []))
  (j4 (qQ (vk (vV 4)) (.n 7) (j4 (j6 8 (jZ .rt []))
  (j4 (qQ (vk (vE (cF1 (pu1 kX) (vV 2)))) (.n 9) (j4 (j6 10 (jK m__law_draw [(cV 0),(cF2 jq (vE (cF2 jq (vE (cF2 jq (vV 1) (C9 1))) (vE (cF2 jY (vV 7) (vE (cF1 (pu1 kX) (vV 2))))))) (vV 9))]))
  (j4 (j6 10 (jK m__law_digits [(cV 10),(cF2 jq (vE (jZ .rt [(cC (.int 8)),(cC (.int 12)),(cC (.int 2)),(cC (.int 2)),(cC (.int 2)),(cC (.int 2))])) (vE (cF2 jY (vE (jZ .rt [(cC (.int 12)),(cC (.int 60)),(cC (.int 60)),(cC (.int 60))])) (C9 4))))]))
  (qQ (Vz (jK Vq [(cV 10),(cH (j3 (vV 5) (vV 7))),(cF2 (pu2 fEq) (j3 (vV 3) (C9 2)) (C9 1))])) (.t [11,12]) (j4 (j6 13 (cF2 (pu2 kW) (j3 (vV 10) (vE (cF2 jq (C9 6) (vE (cF2 jY (C9 4) (vV 11)))))) (vV 4)))
  (j4 (j6 14 (jK Q9 [(cSl (vV 10) (some (vE (cF2 jq (C9 7) (vE (cF2 jY (C9 4) (vV 11)))))) (some (vE (cF2 jq (C9 10) (vE (cF2 jY (C9 4) (vV 11))))))),(cV 12),(cH (j3 (vV 5) (vV 7))),(cH (j3 (vV 5) (vV 13))),(cF2 (pu2 fEq) (j3 (vV 3) (C9 2)) (C9 1))]))
  (k9 kj 8 (kw .no [(cH (j3 (vV 2) (vV 9))),(cV 12),(cV 13),(cV 14)]))))))))
  (k9 kj 6 (kw .no [(cH (j3 (vV 5) (vV 7))),(cF2 (pu2 fEq) (j3 (vV 3) (vE (cF2 jq (C9 7) (vV 7)))) (C9 1)),(cV 8)])))))
  (jv (kw .no [(kw .no [(cF1 zK (vV 2)),(cV 6)]),(cF2 jq (vE (cF2 jq (vV 1) (C9 1))) (vE (cF2 jY (vV 4) (vE (cF1 (pu1 kX) (vV 2))))))])))))))
def m__law_copy:Fn:=fn 1
  (jv (kw .no [(cF1 zK (j3 (vV 0) (C9 0))),(cLC .rt 1 [] (itS (cH (j3 (vV 0) (C9 1)))) (.n 0) tYes (kw .no [(cH (j3 (vV 0) (C9 0))),(cH (j3 (vV 0) (C9 1))),(cF1 zK (j3 (vV 0) (C9 2)))]))]))
def W7:Fn:=fn 3
  (j4 (sIf (tE (cF2 (pu2 fEq) (j3 (vV 0) (C9 1)) (vE (cC (.str "fresh"))))) (jv (cF2 (pu2 vQ) (vV 2) (vV 1))) k7)
  (jv (cOr (vE (cF2 (pu2 fEq) (j3 (vV 0) (C9 1)) (vE (cC (.str "any"))))) (cF2 (pu2 fEq) (j3 (vV 1) (j3 (vV 0) (C9 1))) (vV 2)))))
def VQ:Fn:=fn 5
  (j4 (j6 3 (jZ .rt []))
  (j4 (qQ (itS (cH (j3 (vV 0) (C9 3)))) (.n 4) (sIf (tOr (tE (cF2 (f2First fIsNon) (vV 4) (vE (cC .non)))) (tE (cF2 (pu2 fEq) (vV 4) (vE (cC (.str "new")))))) (k9 kj 3 (cH (j3 (vE (jZ .rt [(cV 2),(cC .non)])) (vE (cF1 (pu1 zj) (vE (cF2 (f2First fIsNon) (vV 4) (vE (cC .non))))))))) (k9 kj 3 (cH (j3 (vV 1) (vV 4))))))
  (jv (cF1 x3 (vV 3)))))
def m__law_fitting:Fn:=fn 5
  (j4 (j6 4 (cH (j3 (j3 (j3 (vV 0) (C9 1)) (j3 (vV 1) (C9 0))) (C9 2))))
  (jv (cLC .rt 1 [4,2,1,3] (vk (vE (cF1 (pu1 kX) (vV 4)))) (.n 0) (tAnd (tE (cF2 (pu2 fEq) (j3 (j3 (vV 1) (vV 0)) (C9 0)) (vV 2))) (tEQ (vE (jK W7 [(cH (j3 (vV 1) (vV 0))),(cH (j3 (vV 3) (C9 1))),(cV 4)])))) (cV 0))))
def m__law_behind:Fn:=fn 5
  (j4 (j6 4 (cH (j3 (j3 (j3 (j3 (vV 0) (C9 1)) (j3 (vV 1) (C9 0))) (C9 2)) (vV 2))))
  (jv (kw .no [(cH (j3 (vV 4) (C9 2))),(jK VQ [(cV 4),(cH (j3 (vV 1) (C9 1))),(cV 3)])])))
def Wv:Fn:=fn 3
  (j4 (j6 1 (jZ .rt []))
  (j4 (qQ (itS (cV 0)) (.n 2) (sIf (tAnd (tE (cF2 (f2First fNotNon) (vV 2) (vE (cC .non)))) (tE (cF2 (pu2 vQ) (vV 2) (vV 1)))) (k9 kj 1 (cV 2)) k7))
  (jv (cMv 1))))
def jv6:Fn:=fn 13
  (j4 (j6 1 (jZ .rt [(kw .no [(cC (.int 0)),(cF2 jY (vE (kw .no [(cC .non)])) (j3 (j3 (j3 (vV 0) (C9 1)) (C9 0)) (C9 0)))])]))
  (j4 (j6 2 (jZ .rt []))
  (j4 (sWhile (tE (cF2 (pu2 fLt) (vE (cF1 (pu1 kX) (vV 2))) (vE (cF1 (pu1 kX) (vV 1))))) (j4 (j6 3 (cH (j3 (vV 1) (vE (cF1 (pu1 kX) (vV 2))))))
  (j4 (j6 4 (jZ .rt []))
  (j4 (qQ (itS (cH (j3 (vV 0) (C9 0)))) (.n 5) (j4 (j6 6 (jZ .rt []))
  (j4 (qQ (vk (vE (cF2 jq (vE (cF1 (pu1 kX) (vE (jK Wv [(cH (j3 (vV 3) (C9 1)))])))) (C9 1)))) (.n 7) (j4 (j6 8 (jK m__law_fitting [(cV 0),(cV 3),(cV 5),(cV 7)]))
  (j4 (sIf (tE (cF2 (pu2 fEq) (vV 8) (vE (jZ .rt [])))) (j4 (k9 kj 6 (cC .non))
  vq5) k7)
  (j4 (Yx [9,10] (jK m__law_behind [(cV 0),(cV 3),(cH (j3 (vV 8) (C9 0))),(cV 7)]))
  (j4 (j6 11 (jK Wv [(cV 10)]))
  (j4 (j6 12 (kw .no [(cV 9),(cF1 x3 (vE (cLC .rt 1 [11] (itS (cV 10)) (.n 0) tYes (cIf (tE (cF2 (f2First fIsNon) (vV 0) (vE (cC .non)))) (cC .non) (Vv (vV 1) (vV 0))))))]))
  (j4 (sIf (tE (cF2 (pu2 vQ) (vV 12) (vV 1))) (k9 kj 1 (cV 12)) k7)
  (k9 kj 6 (kw .no [(Vv (vV 1) (vV 12)),(cF1 x3 (vV 11))])))))))))
  (k9 kj 4 (cV 6)))))
  (k9 kj 2 (kw .no [(cF1 (pu1 kX) (vE (jK Wv [(cH (j3 (vV 3) (C9 1)))]))),(cH (j3 (j3 (j3 (vV 0) (C9 1)) (j3 (vV 3) (C9 0))) (C9 1))),(cV 4)]))))))
  (jv (kw .no [(kw .no [(cF1 zK (j3 (vV 0) (C9 0))),(cV 2)]),(cV 1)])))))
def Yw:Fn:=fn 2
  (jv (V0 (vE (cF1 (pu1 (wjn "tuple")) (vV 0))) (V0 (vE (cF2 (pu2 fEq) (vV 0) (vV 1))) (cF2 (pu2 fEq) (vE (cF1 (pu1 zX) (vV 0))) (vE (cF1 (pu1 zX) (vV 1)))))))
def m_law:Fn:=fn 8
  (j4 (j6 1 (jK m__law_signs [(jK m__law_draw [(cV 0),(cC (.int 0))]),(cF2 jq (C9 1) (vE (cF2 (pu2 kW) (vE (jK m__law_draw [(cV 0),(cC (.int 1))])) (C9 3))))]))
  (j4 (j6 2 (cH (j3 (vE (jK m__law_single [(cV 0),(cC (.int 2)),(cV 1)])) (C9 0))))
  (j4 (j6 3 (jK m__law_copy [(cV 2)]))
  (j4 (j6 4 (jK jv6 [(cV 2)]))
  (j4 (j6 5 (jK Kw [(cV 3)]))
  (j4 (sIf (tOr (tE (cF2 (pu2 Ww) (vE (jK jqo [(cV 3)])) (vE (cC (.bl true))))) (tOr (tNot (tEQ (vE (kwz Yw [(vV 5),(vV 4)])))) (tE (cF2 (pu2 fNe) (vV 3) (vV 2))))) (jv (cC (.bl false))) k7)
  (j4 (sPA 5 [1] (kw .no [(cC (.int 0)),(kw .no [])]))
  (j4 (ZX 5 6 7 [0,1] 2 .non)
  (j4 (sPC 5 [0,1])
  (j4 (sPA 5 [0,0] (cC (.str "z")))
  (jv (V0 (vE (jK Yw [(jK Kw [(cV 3)]),(cV 4)])) (cF2 (pu2 fEq) (vV 3) (vV 2))))))))))))))
end Nk33
namespace Nk33
open Q PySem C F
theorem h1:m__law_draw=C.m__law_draw:=rfl
theorem h5:m__law_fitting=C.m__law_fitting:=rfl
theorem h6:m__law_behind=C.m__law_behind:=rfl
theorem h7:Wv=F.m_names_held:=rfl
theorem h8:m__law_signs=C.m__law_signs:=rfl
theorem h9:m__law_single=F.m__law_single C.m__law_draw:=rfl
theorem h10:m__law_copy=C.m__law_copy:=rfl
theorem h12:m_plain_cases=F.m_plain_cases (sRz "NotSingle"):=rfl
theorem h13:m_names_held=F.m_names_held:=rfl
theorem h14:m_first_standing=C.m_first_standing:=rfl
theorem kwt{v:D}:∀(n k:Nat) (es:List D),k+n=es.length->(∀j,k<=j->j<es.length->∃ds,es[j]?=some (.lst ds)/\ds.length<10000)->∃es',V6 v n k (.lst es)=some (.lst es')
 | 0,_,es,_,_=>⟨es,rfl⟩
 | n+1,k,es,hk,hs=>by
  have az:k<es.length:=by omega
  obtain⟨ds,hg,b7⟩:=hs k (X8 _) az;have dl:D.at [k] (.lst es)=some (.lst ds):=by
   show(match es[k]? with|some d=>D.at [] d|none=>none)=_;rw[hg];rfl
  have bc:∀y:D,D.put y [k] (.lst es)=.lst (es.set k y):=λy=>by
   show(match es[k]? with|some d=>Q.D.lst (es.set k (D.put y [] d))|none=>_)=_;rw[hg];rfl
  unfold V6;rw[dl];dsimp only;rw[Xb (by unfold big;omega),bc];refine kwt n (k+1) (es.set k _) (by rw[Xz];omega) λj hj qo=>?_
  rw[Xz]at qo;obtain⟨ds',a1,a2⟩:=hs j (by omega) qo;exact⟨ds',by rw[Xs (by omega)];exact a1,a2⟩
def Sh(r:D):Prop:=∃a b es,r=.tup [a,b,.lst es]/\∀e∈es,∃ds,e=.lst ds/\ds.length<10000
theorem kws{v:D}:∀(n k:Nat) (rs:List D),k+n=rs.length->(∀j,k<=j->j<rs.length->∃r,rs[j]?=some r/\Sh r)->∃ny,Vx 2 v n k (.lst rs)=some (.lst ny)
 | 0,_,rs,_,_=>⟨rs,rfl⟩
 | n+1,k,rs,hk,hs=>by
  have az:k<rs.length:=by omega
  obtain⟨r,hg,a,b,es,rfl,mf⟩:=hs k (X8 _) az;have dl:D.at [k,2] (.lst rs)=some (.lst es):=by
   show(match rs[k]? with|some d=>D.at [2] d|none=>none)=_;rw[hg];rfl
  have bc:∀y:D,D.put y [k,2] (.lst rs)=.lst (rs.set k (.tup [a,b,y])):=λy=>by
   show(match rs[k]? with|some d=>Q.D.lst (rs.set k (D.put y [2] d))|none=>_)=_;rw[hg];rfl
  obtain⟨es',he⟩:=kwt (v:=v) es.length 0 es (by omega) λj _ hj=>by
   obtain⟨ds,e1,e2⟩:=mf es[j] (Xi _);exact⟨ds,by rw[X1 hj,e1],e2⟩
  unfold Vx;rw[dl];dsimp only;rw[he];dsimp only;rw[bc];refine kws n (k+1) (rs.set k _) (by rw[Xz];omega) λj hj qo=>?_
  rw[Xz]at qo;obtain⟨r,a1,a2⟩:=hs j (by omega) qo;exact⟨r,by rw[Xs (by omega)];exact a1,a2⟩
theorem vj7{E:En}{N C:En->Prop}{R:Sd->Prop}{X:XP}{i r s:Nat}{p:List Nat}{v d:D}{rs:List D}(h0:E[i]?=some (some (.dp,d)))(dl:D.at p d=some (.lst rs))(hr:r<E.length)(hs:s<E.length)(hv:v.pure=true)(km:∀x∈rs,Sh x)
  (h:∀ny,N ((((E.set i none).set r none).set s none).set i (some (.dp,D.put (.lst ny) p d)))):Po (ZX i r s p 2 v E) N C R X:=by
 obtain⟨ny,he⟩:=kws (v:=v) rs.length 0 rs (by omega) λj _ hj=>⟨_,X1 hj,km _ (Xi _)⟩
 unfold ZX;rw[h0];dsimp only;rw[dl];dsimp only;rw[Xb ⟨hr,hs,hv⟩,he];dsimp only;rw[YV];exact h ny
theorem qkt{K:List D}{d:D}:(wK K d).2.pure=true:=by
 unfold wK
 split
 ·show D.pures _=true;simp only[D.pures,D.pure,iT,Bool.true_and,Bool.and_true];exact D.pures_map _ _ λ_ _=>rfl
 ·rfl
theorem kww{rs:List D}{s:D}{z:Str}:∀{ps K:List D} {r:List D×List D},v9 rs s z ps K=some r->r.2.length=ps.length/\D.pures r.2=true
 | [],K,r,h=>by rw[v9]at h;cases h;exact⟨rfl,rfl⟩
 | .int p::ps,K,r,h=>by
  rw[v9]at h
  split at h
  ·cases h
  ·rename_i d _;obtain⟨q,hq,rfl⟩:=Option.map_eq_some_iff.mp h;obtain⟨h1,h2⟩:=kww hq;refine⟨by simp[h1],?_⟩;show(D.pure _&&D.pures _)=true;rw[qkt,h2];rfl
 |.non::_,_,_,h=>by cases h
 |.bl _::_,_,_,h=>by cases h
 |.str _::_,_,_,h=>by cases h
 |.tup _::_,_,_,h=>by cases h
 |.lst _::_,_,_,h=>by cases h
 |.dct _::_,_,_,h=>by cases h
 |.obj _ _::_,_,_,h=>by cases h
theorem qvb{xs:List D}(h:D.pures xs=true):WK (.rt,.lst xs)=true:=by
 unfold WK;show(vJ (.rt,.lst xs)||(Own.rt==Own.rt&&D.pures xs))=true;rw[h];simp
theorem wjv{i:Nat}{c:Ex}{E:En}{xs:List D}{N C:En->Prop}{R:Sd->Prop}{X:XP}(h0:E[i]?=some (some (.dp,.lst xs)))
  (h:Eo (c E) (λE1 x=>∃ys,E1[i]?=some (some (.dp,.lst ys))/\ys.length<10000/\x.1=.dp/\N (E1.set i (some (.dp,.lst (ys++[x.2]))))) X):Po (k9 kj i c E) N C R X:=
 qxc h0 (h.mono λE1 x ⟨ys,h1,h2,h3,h4⟩=>⟨.dp,ys,h1,by decide,h2,by rw[Xb ⟨rfl,by unfold vJ;rw[h3];rfl⟩];with_unfolding_all exact h4⟩)
theorem kw3{ss:List Str}{rs:List D}{kps:List Int}{kp:Int}{gd st0:D}{X:XP}(hR:Rmw rs)(hx:Rx ss kps rs)(h3:∀k∈kps,k<=3)(fm:rs[0]?=some (.tup [.int kp,gd,st0]))(ko:0<=kp)(fw:kp<=3)
  (hX:¬Run ss rs [.tup [.int 0,.tup (List.replicate kp.toNat .non)]] [] none):
  Oo Kw [(.no,qk ss rs)] (λy=>∃K a8,y=(.dp,.tup [qk ss a8,.lst K])/\Run ss rs [.tup [.int 0,.tup (List.replicate kp.toNat .non)]] [] (some (K,a8))/\(∀r∈a8,Sh r)/\K.length<=4000) X:=by
 have k4:kps.length<=12:=by have:=hx.1;have:=hR.2.1;omega
 have kg:Kin kps V4 [.tup [.int 0,.tup (List.replicate kp.toNat .non)]]:=kv7 hR hx (by simp[V4]) fm ko;generalize hs0:(D.tup [.int 0,.tup (List.replicate kp.toNat .non)])=s0 at *;unfold Kw;simp only[h12,h13,h14];refine v8 ?_;simp![↓vww];refine(vj3 (gd:=gd) (st:=st0) fm ko (by omega)).any.use ?_;intro _ _;simp![];rw [hs0];refine⟨qw4 (kg.2 s0 X2).ok,?_⟩;refine qj4 (λn E=>∃(K a8:List D) (l3 l4:Option Sd),E=[some (.no,qk ss rs),some (.rt,.dct (v6 K)),some (.dp,.lst a8),l3,l4]/\Kin kps V4 K/\a8.length<=K.length/\n=4000 - a8.length/\(∀r∈a8,Sh r)/\∀r,Run ss rs K a8 r->Run ss rs [s0] [] r) ?_ 4000 _ ⟨[s0],[],_,_,rfl,kg,Xv _,rfl,(λr h=>nomatch h),λr h=>h⟩;rintro n E ⟨K,a8,l3,l4,rfl,hK,fe,rfl,km,dh⟩;have nl:=kz0 hK k4 h3 (by decide);have jl:(v6 K).length=K.length:=kxb K 0;have hu:=qjg hK;have m8:∀o,JW (o,.dct (v6 K))=some (.rt,.lst K):=λo=>by
  rw [wj3 (by rw[jl];omega) hu];unfold v6;rw [kqf]
 have hKp:D.pures K=true:=by
  rw [D.pures_all,List.all_eq_true];intro d hd;obtain⟨b8,c9,rfl,_,_,_,ha,_⟩:=hK.2 d hd;show(true&&(D.pures c9&&true))=true;rw [D.pures_all,Bool.true_and,Bool.and_true,List.all_eq_true];intro k hk;rcases ha k hk with rfl|⟨i,rfl⟩<;>rfl
 by_cases az:a8.length<K.length
 ·have hd:decide ((a8.length:Int)<(K.length:Int))=true:=Xd (by omega);have dj:k6 (.lst K) (.int a8.length)=some (K.getD a8.length .non):=wY (by omega) (by rw[Ya,X1 az,X5,X1 az];rfl);have hs:SokV kps V4 (K.getD a8.length .non):=hK.2 _ (by rw[X5,X1 az];exact Xi _);have ef:W1 ss rs K a8=(vz rs (K.getD a8.length .non) ss K).map λr=>(r.1,a8++[Q6 rs (K.getD a8.length .non) r.2]):=rfl
  generalize K.getD a8.length .non=s at dj hs ef;have kh:vz rs s ss K≠none:=λe=>hX (dh _ (.fail az (by rw[ef,e];rfl)))
  have hn4:(jx (vZ s)).length<=3:=by
   obtain⟨room,ks,st,nj,rfl,r0,er,b7,dz,gv,kt⟩:=Yz hR hx hs.ok;have ij:=(z7 h3 hs).2;have rk:=Kq ks;rw [Jz];omega
  simp![qvu hu,jl,hd,m8,dj];refine YK (λE1 B ds ac=>E1=[some (.no,qk ss rs),some (.rt,.dct (v6 K)),some (.dp,.lst a8),some (.no,s),l4]/\∃(q:Option Sd) (K1:List D) (zs:List Str),B=[q,some (.no,qk ss rs),some (.no,s),some (.rt,.dct (v6 K1))]/\ds=zs.map D.str/\Kin kps V4 K1/\K.length<=K1.length/\(∀y∈ac,y.1=.dp/\∃cs,y.2=.lst cs/\cs.length<10000)/\vz rs s ss K=(vz rs s zs K1).map λr=>(r.1,ac.map (·.2)++r.2)) ?_ ?_ ?_
  ·simp![p0];exact⟨none,K,ss,rfl,rfl,hK,X8 _,(λy h=>nomatch h),by simp⟩
  ·rintro E1 B d ds ac ⟨rfl,q,K1,zs,rfl,cp,hK1,hg,hac,hc⟩;cases zs with
   | nil=>cases cp
   | cons z zs=>
    rw[List.map_cons]at cp;injection cp with e1 e2;subst e1 e2;simp![qxl];refine qjv ?_;simp![];refine⟨_,rfl,(vja (X:=X) hR hx h3 hs hK1 (λhn=>absurd (by rw[hc,vz,show QZ rs s z K1=none from hn];rfl) kh)).mono (λy x' h=>?_) λc h=>h⟩;obtain⟨K2,cs,jr,rfl,rfl,iu⟩:=h;obtain⟨q1,q2⟩:=kww jr;have q1:cs.length=(jQ 0 ((jx (vZ s)).length+1)).length:=q1;unfold jQ at q1;rw[X3,Yg]at q1;refine⟨qvb q2,_,K2,zs,rfl,rfl,iu,Y0 hg (jww jr),?_,?_⟩
    ·intro y hy;rcases List.mem_append.mp hy with hy|hy
     ·exact hac y hy
     ·rw[List.mem_singleton.mp hy];exact⟨rfl,cs,rfl,by omega⟩
    ·rw[hc,vz,show QZ rs s z K1=some (K2,cs)from jr];simp[Option.map_map,Function.comp_def]
  ·rintro E1 B ac ⟨rfl,q,K1,zs,rfl,cp,hK1,hg,hac,hc⟩;cases zs with
   | cons=>cases cp
   | nil=>
    rw[vzz (List.all_eq_true.mpr λy hy=>by unfold vJ;rw[(hac y hy).1];rfl)];simp only[J8,back,clr,at',List.drop,List.map_cons,List.map_nil,List.set_cons_zero,List.set_cons_succ];obtain⟨room,ks,st,nj,rfl,r0,er,b7,dz,gv,kt⟩:=Yz hR hx hs.ok;have ij:=(z7 h3 hs).2;have rg:k6 (.lst rs) (.int room)=some (.tup [.int ks.length,nj,.lst st]):=wY r0 er;obtain⟨_,gb,_,mj,_⟩:=hR.2.2 _ (Xh er);injection mj with mj;injection mj with _ mj;injection mj with mj _;subst mj;refine wjv rfl ?_;simp![p0,p1,qxl,qq4];refine(YX dz (by omega)).any.use ?_;intro _ _;simp![p0,p1,t1,rg,qxl,qq4];have hkl1:=kz0 hK1 k4 h3 (by decide);have hsh':∀r∈a8++[.tup [.int (jx ks).length,.bl gb,.lst (ac.map (·.2))]],Sh r:=λr hr=>by
     rcases List.mem_append.mp hr with hr|hr
     ·exact km r hr
     ·rw[List.mem_singleton.mp hr];refine⟨_,_,_,rfl,λe he=>?_⟩;obtain⟨y,hy,rfl⟩:=List.mem_map.mp he;exact(hac y hy).2
    refine⟨rfl,rfl,_,rfl,by omega,_,?_,K1,_,_,_,rfl,hK1,?_,rfl,hsh',λr h=>dh r (.go az ?_ h)⟩
    ·simp;omega
    ·simp;omega
    ·rw[ef,hc];simp[vz,Q6,kz4 er,vZ]
 ·have hd:decide ((a8.length:Int)<(K.length:Int))=false:=Xa (by omega);simp![qvu hu,jl,hd,m8,p0,Zx (o:=.no) (xs:=ss.map D.str) (by decide),qxl,qq4];exact⟨qvb (D.pures_map _ _ λ_ _=>rfl),rfl,qvb hKp,rfl,K,a8,rfl,dh _ (.stop az),km,by omega⟩
end Nk33
namespace Nk33
open Q PySem C F
theorem wkm{kps:List Int}{V ks:List D}{room:Int}(h:SokV kps V (.tup [.int room,.tup ks])):∀k∈ks,k∈V:=by
 obtain⟨b8,c9,e,r0,r1,hl,ha,hV⟩:=h;injection e with e;injection e with e1 e;injection e with e2 _;injection e2 with e2;subst e2;exact hV
theorem wjp {ss:List Str} {rs:List D} {kps:List Int} {kp:Int} {gd st0:D} (n9:ss.length<=3) (hR:Rms rs) (hx:Rx ss kps rs) (h3:∀k∈kps,k<=3) (fm:rs[0]?=some (.tup [.int kp,gd,st0])) (ko:0<=kp) (fw:kp<=3)
  (hX:¬ Run ss rs [.tup [.int 0,.tup (List.replicate kp.toNat .non)]] [] none):
  Oo jv6 [(.no,qk ss rs)] (λy=>∃K a8,y=(.no,.tup [qk ss a8,.lst K])/\Run ss rs [.tup [.int 0,.tup (List.replicate kp.toNat .non)]] [] (some (K,a8))) noX:=by
 have k4:kps.length<=4:=by have:=hx.1;have:=hR.2.1;omega
 have kg:Kin kps V4 [.tup [.int 0,.tup (List.replicate kp.toNat .non)]]:=kv7 hR hx (by simp[V4]) fm ko;have hi0:k6 (.lst rs) (.int 0)=some (.tup [.int kp,gd,st0]):=wY (by decide) fm;unfold jv6;simp only[h5,h6,h7];refine v8 ?_;simp![p1,hi0,t0,vk3 (o1:=.no) (a:=.non) (k:=kp) (by decide) ko (by omega)];generalize hs0:(D.tup [.int 0,.tup (List.replicate kp.toNat .non)])=s0 at *;refine qj4 (λn E=>∃(K a8:List D) (l3 l4 l5 l6 l7 l8 l9 da gp gu:Option Sd),E=[some (.no,qk ss rs),some (.rt,.lst K),some (.rt,.lst a8),l3,l4,l5,l6,l7,l8,l9,da,gp,gu]/\Kin kps V4 K/\a8.length<=K.length/\n=2000 - a8.length/\∀r,Run ss rs K a8 r->Run ss rs [s0] [] r) ?_ 2000 _ ⟨[s0],[],_,_,_,_,_,_,_,_,_,_,rfl,kg,Xv _,rfl,λr h=>h⟩;rintro n E ⟨K,a8,l3,l4,l5,l6,l7,l8,l9,da,gp,gu,rfl,hK,fe,rfl,dh⟩;have nl:=WJ hK k4 h3 (by decide)
 by_cases az:a8.length<K.length
 ·have hd:decide ((a8.length:Int)<(K.length:Int))=true:=Xd (by omega);have dj:k6 (.lst K) (.int a8.length)=some (K.getD a8.length .non):=wY (by omega) (by rw[Ya,X1 az,X5,X1 az];rfl);have hs:SokV kps V4 (K.getD a8.length .non):=hK.2 _ (by rw[X5,X1 az];exact Xi _);have ef:W1 ss rs K a8=(vz rs (K.getD a8.length .non) ss K).map λr=>(r.1,a8++[Q6 rs (K.getD a8.length .non) r.2]):=rfl
  generalize K.getD a8.length .non=s at dj hs ef;have kh:vz rs s ss K=none->Run ss rs [s0] [] none:=λe=>dh _ (.fail az (by rw[ef,e];rfl))
  obtain ⟨room,ks,st,nj,rfl,r0,er,b7,dz,gv,kt⟩:=Yz hR hx hs.ok;have ij:=(z7 h3 hs).2;have rk:=Kq ks;simp![hd,dj];refine zQ (λE rest=>∃(K1 ac:List D) (zs:List Str) (l5 l6 l7 l8 l9 da gp gu:Option Sd),E=[some (.no,qk ss rs),some (.rt,.lst K1),some (.rt,.lst a8),some (.no,.tup [.int room,.tup ks]),some (.rt,.lst ac),l5,l6,l7,l8,l9,da,gp,gu]/\rest=zs.map D.str/\Kin kps V4 K1/\K.length<=K1.length/\ac.length+zs.length=ss.length/\vz rs (.tup [.int room,.tup ks]) ss K=(vz rs (.tup [.int room,.tup ks]) zs K1).map λr=>(r.1,ac++r.2)) ?_ ?_ ?_
  ·simp![p0];exact ⟨K,[],ss,_,_,_,_,_,_,_,_,rfl,rfl,hK,X8 _,by simp,by simp⟩
  ·rintro E d ds ⟨K1,ac,zs,l5,l6,l7,l8,l9,da,gp,gu,rfl,cp,hK1,hg,ky,hc⟩;cases zs with
   | nil=>cases cp
   | cons z zs=>
    rw [List.map_cons]at cp;injection cp with e1 e2;subst e1 e2;rw [Xl]at ky;have hpv0:∀d∈jQ 0 (((jx ks).length:Int)+1),∃p:Int,d=.int p/\d∈V4:=λd hd=>by
     unfold jQ at hd;obtain⟨i,hi,rfl⟩:=List.mem_map.mp hd;have hi:=List.mem_range.mp hi;refine⟨_,rfl,?_⟩;have:i=0\/i=1\/i=2\/i=3:=by omega
     rcases this with rfl|rfl|rfl|rfl<;>simp[V4]
    have mn:(jQ 0 (((jx ks).length:Int)+1)).length<=4:=by unfold jQ;rw[X3,Yg];omega
    have mo:QZ rs (.tup [.int room,.tup ks]) z K1=none->Run ss rs [s0] [] none:=λe=>kh (by rw[hc,vz,e];rfl)
    simp![];refine zQ (λE rest=>∃(K2 cs:List D) (l7 l8 l9 da gp gu:Option Sd),E=[some (.no,qk ss rs),some (.rt,.lst K2),some (.rt,.lst a8),some (.no,.tup [.int room,.tup ks]),some (.rt,.lst ac),some (.no,.str z),some (.rt,.lst cs),l7,l8,l9,da,gp,gu]/\(∀d∈rest,∃p:Int,d=.int p/\d∈V4)/\Kin kps V4 K2/\K1.length<=K2.length/\cs.length+rest.length<=4/\QZ rs (.tup [.int room,.tup ks]) z K1=(v9 rs (.tup [.int room,.tup ks]) z rest K2).map λr=>(r.1,cs++r.2)) ?_ ?_ ?_
    ·refine V8 ?_;simp![p1];refine(YX dz (by omega)).use ?_;intro _ _;simp![];exact⟨_,rfl,by omega,by omega,K1,[],_,_,_,_,_,_,rfl,hpv0,hK1,X8 _,by simpa using mn,by simp[QZ,vZ]⟩
    ·rintro E d nr ⟨K2,cs,l7,l8,l9,da,gp,gu,rfl,jf,iu,n8,f7,hc2⟩;obtain⟨p,rfl,r9⟩:=jf d X2;have mt:∀d∈nr,∃p:Int,d=.int p/\d∈V4:=λd hd=>jf d (lc9 _ hd)
     rw [Xl]at f7;have dl:At (.int p):=.inr ⟨p,rfl⟩;have n6:K6 rs (z,p) (.tup [.int room,.tup ks])=(q9 (wj z ks (.int p)) 0 st).map (bh ks st p):=by unfold K6;rw[qxr er,Jz]
     simp![];refine(kxx r0 er b7 (by omega) dz dl).use ?_;intro _ _;cases hf:q9 (wj z ks (.int p)) 0 st with
     | nil=>
      have gq:obD rs (.tup [.int room,.tup ks]) z p=some .non:=by unfold obD;rw[n6,hf];rfl
      have heq:fEq (.lst []) (.lst [])=some (.bl true):=rfl;simp![heq];refine x9 rfl ?_;simp![];refine⟨_,rfl,by omega,K2,cs++[.non],_,_,_,_,_,_,rfl,mt,iu,n8,by simp;omega,?_⟩;rw [hc2,v9,gq];simp[wK,Option.map_map,Function.comp_def]
     | cons c r=>
      obtain⟨j,rfl,_,hj⟩:=Z9 (show c∈q9 (wj z ks (.int p)) 0 st by rw[hf];exact X2);have hj:j<st.length:=by omega
      cases r with
      | cons c2 r2=>
       have gq:obD rs (.tup [.int room,.tup ks]) z p=none:=by unfold obD;rw[n6,hf];rfl
       exact absurd (mo (by rw[hc2,v9,gq];rfl)) hX
      | nil=>
       have hb:=jwm (p:=p) (V:=V4) b7 dz (wkm hs) (by simp[V4]) r9 gv hj;have gq:obD rs (.tup [.int room,.tup ks]) z p=some (QJ ks (.int p) st[j]):=by unfold obD;rw[n6,hf,List.map_cons,List.map_nil,vjc hj]
       obtain⟨b8,c9,eb,r0',r1',hl',ha',hV'⟩:=id hb;rw[eb]at hb gq;obtain⟨hp1,hl3'⟩:=z7 h3 hb;have p9:k6 (.lst [.int j]) (.int 0)=some (.int j):=rfl;have heq:fEq (.lst [.int j]) (.lst [])=some (.bl false):=rfl;simp![heq,p9];refine(qkl r0 er b7 hj).use ?_;intro _ _;rw[eb];simp![];refine(YX ha' (by omega)).use ?_;intro _ _;simp![];refine kjx [some (.rt,iL (jx c9))] (λd y=>y.2=plc (jx c9) d) ?_;simp![];refine⟨rfl,λd hd=>?_,λys hy=>?_⟩
       ·rcases ha' d hd with rfl|⟨i,rfl⟩
        ·simp![];exact⟨⟨_,rfl⟩,rfl⟩
        ·have hm:((jx c9).any λw=>w==i)=true:=by rw[kvf];exact Xd (qjc hd)
         simp![vka hm];exact⟨⟨_,rfl⟩,rfl⟩
       ·rw[KW,jxj (h:=plc (jx c9)) (λd y h=>h) hy];simp only[back,clr,at',List.map_cons,List.map_nil,List.set_cons_zero,List.set_cons_succ];have gj:=qzl hp1 iu.2;have gf:=qzw hp1 (kz3 iu hp1).2 qvl;have ml:=WJ iu k4 h3 (by decide);have hgo:=kz3 iu hp1;simp![K9 (o:=.no) (xs:=c9.map (plc (jx c9))) (by decide)];have fin:QZ rs (.tup [.int room,.tup ks]) z K1=(v9 rs (.tup [.int room,.tup ks]) z nr (vx K2 (.tup [.int b8,.tup (pr c9)]))).map λr=>(r.1,cs++[.tup [.int ((vx K2 (.tup [.int b8,.tup (pr c9)])).idxOf (.tup [.int b8,.tup (pr c9)]):Nat),iT (jx c9)]]++r.2):=by
         rw[hc2,v9,gq];simp[wK,Option.map_map,Function.comp_def]
        by_cases hm:(D.tup [.int b8,.tup (pr c9)])∈K2
        ·have e1:vx K2 (.tup [.int b8,.tup (pr c9)])=K2:=by unfold vx;rw[Xb hm]
         rw[e1]at gf hgo fin;rw[Xd hm]at gj;have gj:vQ (.tup [.int b8,.tup (c9.map (plc (jx c9)))]) (.lst K2)=some (.bl (!true)):=gj;have gf:V7 (.lst K2) (.tup [.int b8,.tup (c9.map (plc (jx c9)))])=_:=gf;simp![gj];refine x9 rfl ?_;simp![gf,K9 (o:=.rt) (xs:=(jx c9).map D.int) (by decide)];exact⟨_,rfl,by omega,K2,_,_,_,_,_,_,_,rfl,mt,iu,n8,by simp;omega,fin⟩
        ·have e1:vx K2 (.tup [.int b8,.tup (pr c9)])=K2++[.tup [.int b8,.tup (pr c9)]]:=by unfold vx;rw[Xe hm]
         rw[e1]at gf hgo fin;rw[Xa hm]at gj;have gj:vQ (.tup [.int b8,.tup (c9.map (plc (jx c9)))]) (.lst K2)=some (.bl (!false)):=gj;have gf:V7 (.lst (K2++[.tup [.int b8,.tup (c9.map (plc (jx c9)))]])) (.tup [.int b8,.tup (c9.map (plc (jx c9)))])=_:=gf;simp![gj];refine x9 rfl ?_;simp![];refine⟨_,rfl,by omega,?_⟩;refine x9 rfl ?_;simp![gf,K9 (o:=.rt) (xs:=(jx c9).map D.int) (by decide)];exact⟨_,rfl,by omega,_,_,_,_,_,_,_,_,rfl,mt,hgo,by simp;omega,by simp;omega,fin⟩
    ·rintro E ⟨K2,cs,l7,l8,l9,da,gp,gu,rfl,jf,iu,n8,f7,hc2⟩;refine x9 rfl ?_;simp![];refine⟨_,rfl,by omega,K2,ac++[.lst cs],zs,_,_,_,_,_,_,_,_,rfl,rfl,iu,by omega,by simp;omega,?_⟩;rw[hc,vz,hc2];simp[v9,Option.map_map,Function.comp_def]
  ·rintro E ⟨K1,ac,zs,l5,l6,l7,l8,l9,da,gp,gu,rfl,cp,hK1,hg,ky,hc⟩;cases zs with
   | cons=>cases cp
   | nil=>
    have rg:k6 (.lst rs) (.int room)=some (.tup [.int ks.length,nj,.lst st]):=wY r0 er;refine x9 rfl ?_;simp![p0,p1];refine(YX dz (by omega)).use ?_;intro _ _;simp![p0,p1,t1,rg];have hkl1:=WJ hK1 k4 h3 (by decide);refine⟨_,rfl,by omega,_,?_,K1,_,_,_,_,_,_,_,_,_,_,_,rfl,hK1,?_,rfl,λr h=>dh r (.go az ?_ h)⟩
    ·simp;omega
    ·simp;omega
    ·rw[ef,hc];simp[vz,Q6,kz4 er,vZ]
 ·have hd:decide ((a8.length:Int)<(K.length:Int))=false:=Xa (by omega);simp![hd,p0,Zx (o:=.no) (xs:=ss.map D.str) (by decide)];exact⟨K,a8,rfl,dh _ (.stop az)⟩
end Nk33
namespace Nk33
open Q PySem C F G
theorem kzy{o1 o2:Own}{T:List D}{txt:Str}(hfq:fEq (.tup T) (.tup T)=some (.bl true))(i6:zX (.tup T)=some (.str txt)):Oo Yw [(o1,.tup T),(o2,.tup T)] (λy=>∃_:Unit,y=(.dp,.bl true)/\True) noX:=by
 have hb:wjn "tuple" (.tup T)=some (.bl true):=rfl;unfold Yw;refine v8 ?_;simp![hb,hfq,i6,C.eq_self (d:=.str txt) rfl]
 first|trivial|exact⟨(),trivial⟩|exact⟨(),rfl,trivial⟩
section
variable {ss:List Str}{rs:List D}{kps:List Int}{kp:Int}{gd st0:D}{q:List D×List D}
theorem qvj(hR:Rmw rs)(hx:Rx ss kps rs)(h3:∀k∈kps,k<=3)(fm:rs[0]?=some (.tup [.int kp,gd,st0]))(ko:0<=kp)(fw:kp<=3)(hr:Run ss rs [.tup [.int 0,.tup (List.replicate kp.toNat .non)]] [] (some q)):
  Oo Kw [(.no,qk ss rs)] (λy=>∃_:Unit,y=(.dp,.tup [qk ss q.2,.lst q.1])/\(∀r∈q.2,Sh r)/\q.1.length<=4000) noX:=by
 refine(kw3 (X:=noX) hR hx h3 fm ko fw λh=>by cases h.det hr).mono ?_;rintro y ⟨K,a8,rfl,h,h1,h2⟩;cases h.det hr;exact⟨(),rfl,h1,h2⟩
theorem single_ok(hR:Rmw rs)(hx:Rx ss kps rs)(h3:∀k∈kps,k<=3)(fm:rs[0]?=some (.tup [.int kp,gd,st0]))(ko:0<=kp)(fw:kp<=3)(hr:Run ss rs [.tup [.int 0,.tup (List.replicate kp.toNat .non)]] [] (some q)):
  Oo jqo [(.no,qk ss rs)] (λy=>∃_:Unit,y=(.dp,.bl true)/\True) noX:=by
 unfold jqo;refine v8 ?_;simp![↓vwv];refine(qvj hR hx h3 fm ko fw hr).ox ?_ (λc h=>h.elim);rintro y ⟨_,rfl,_⟩;simp![]
 first|trivial|exact⟨(),trivial⟩|exact⟨(),rfl,trivial⟩
end
theorem qvo{ss:List Str}{rs:List D}(h:∀r∈rs,Rm r):(qk ss rs).flat 40=true:=by
 show D.flats 39 [sL ss,.lst rs]=true;refine xZ λd hd=>?_
 simp only[Xw,Xm,or_false]at hd;rcases hd with rfl|rfl
 ·show D.flats 38 (ss.map D.str)=true;exact xZ λk hk=>by obtain⟨w,_,rfl⟩:=List.mem_map.mp hk;rfl
 ·show D.flats 38 rs=true;exact xZ λr hr=>C.room_flat (n:=34) (h r hr)
theorem vwz{ss:List Str}{rs:List D}{kps:List Int}{s0:D}{q:List D×List D}(n9:ss.length<=3)(hS:∀z∈ss,Sg z)(hR:Rms rs)(hx:Rx ss kps rs)(dv:kps.length<=4)(h3:∀k∈kps,k<=3)(h0:Kin kps V4 [s0])(hr:Run ss rs [s0] [] (some q)):Tx 13200000 40 (.tup [qk ss q.2,.lst q.1]):=by
 obtain⟨a1,a2,a3⟩:=vwy (m:=32) n9 hR hx dv h3 hr h0 (Xv _) (λd hd=>nomatch hd) q rfl;have ae:=WJ a1 dv h3 (by decide);have t1:Tx 3299662 38 (.lst q.2):=kvo (n:=3183) (c:=1036) a3 (by omega);have t2:Tx 38 38 (sL ss):=kvo (n:=10) (c:=3) (λd hd=>by
  obtain⟨z,hz,rfl⟩:=List.mem_map.mp hd;exact vwx (hS z hz)) (by simpa using n9)
 have t3:Tx 6599331 39 (qk ss q.2):=W5 (n:=3299662) (c:=2) (λd hd=>by
  simp only[Xw,Xm,or_false]at hd;rcases hd with rfl|rfl
  ·exact t2.mono (by omega)
  ·exact t1) (by simp)
 have t4:Tx 90134 39 (.lst q.1):=qxn (m:=36) dv h3 a1;refine(W5 (n:=6599331) (c:=2) (λd hd=>?_) (by simp):Tx (3+2*(6599331+2)) 40 _).mono (by omega);simp only[Xw,Xm,or_false]at hd;rcases hd with rfl|rfl
 ·exact t3
 ·exact t4.mono (by omega)
theorem wj8(ns:List Int):Oo m_law [(.no,iL ns)] (λy=>y.2=.bl true) noX:=by
 unfold m_law;simp only[h1,h8,h9,h10];refine v8 ?_;simp![];refine(kza ns 0 (by decide) (by decide)).use ?_;intro x0 p9;simp![];refine(kza ns 1 (by decide) (by decide)).use ?_;intro x1 hx1;have q0:=Y4 x1 (show(3:Int)≠0 by decide);have q1:=Xu x1 (show(0:Int)<3 by decide);simp![mod_i (a:=x1) (b:=3) (by decide)];refine(qqf x0 (1+x1 % 3) p9.1 (by omega) (by omega)).use ?_;rintro ss ⟨hss,hS,mx⟩;simp![];refine(F.single_ok kza ns 2 ss (by decide) (by decide) (by omega) (by omega) mx).use2 ?_;rintro rs fi ⟨hR,a0,a1,kps,hx,fw,ap,hSg⟩;have h3:∀k∈kps,k<=3:=λk hk=>(fw k hk).2
 have mn:rs.length=kps.length:=hx.1;have hR1:=hR.1;have dv:kps.length<=4:=by have:=hR.2.1;omega
 obtain⟨gd,st0,fm,_⟩:=hx.2 0 (by omega);have f8:=fw (kps.getD 0 0) (by rw[X5,X1 (by omega)];exact Xi _);generalize kps.getD 0 0=kp at fm f8;have kg:Kin kps V4 [.tup [.int 0,.tup (List.replicate kp.toNat .non)]]:=kv7 (hR:=hR) hx (by simp[V4]) fm f8.1;have oq:=qzs hR hx h3 hSg;have hI0:SokV kps V4 (.tup [.int 0,.tup (List.replicate kp.toNat .non)])/\(ap=true->Wk (vZ (.tup [.int 0,.tup (List.replicate kp.toNat .non)]))):=⟨kg.2 _ X2,λ_=>λi j p h _=>by
  have:=List.eq_of_mem_replicate (Xh h);cases this⟩
 have io:¬Run ss rs [.tup [.int 0,.tup (List.replicate kp.toNat .non)]] [] none:=λh=>by
  obtain⟨q,e,_⟩:=qz0 oq h (λk hk=>by rw[List.mem_singleton.mp hk];exact hI0);cases e
 have nh:=qvo (ss:=ss) hR.2.2;simp![p0];refine(vw5 hR.2.2).use ?_;intro _ _;simp![];refine(wjp (by omega) hR hx h3 fm f8.1 f8.2 io).use2 ?_;intro K a8 dh;simp![];refine(qvj hR hx h3 fm f8.1 f8.2 dh).use ?_;rintro _ ⟨km,hKl⟩;simp![];refine(single_ok hR hx h3 fm f8.1 f8.2 dh).use ?_;intro _ _;have hT:Tx 13200000 40 (.tup [qk ss a8,.lst K]):=vwz (by omega) hS hR hx dv h3 kg dh;have km:∀r∈a8,Sh r:=km;have hKl:K.length<=4000:=hKl;have i6:zX (.tup [qk ss a8,.lst K])=some (.str (D.dat (.tup [qk ss a8,.lst K])).shown):=by
  unfold zX;rw[Xb ⟨rfl,hT.fl,hT.sh,by have:=hT.ln;unfold sizeLine;omega⟩]
 generalize (D.dat (.tup [qk ss a8,.lst K])).shown=txt at i6;have hfq:=C.eq_self hT.fl;have e1:Ww (.bl true) (.bl true)=some (.bl false):=rfl;simp![e1];refine(kzy hfq i6).use ?_;intro _ _;simp![vve nh];refine vzk rfl rfl (by omega) ?_;simp only[List.set_cons_zero,List.set_cons_succ];simp![];refine⟨rfl,?_⟩;refine vj7 rfl rfl (show 6<8 by decide) (show 7<8 by decide) rfl km λny=>?_
 simp only[List.set_cons_zero,List.set_cons_succ];simp![];refine wq9 rfl rfl ?_;simp only[List.set_cons_zero,List.set_cons_succ];simp![];refine vzk (ds:=ss.map D.str) rfl rfl (by rw[X3];omega) ?_;simp only[List.set_cons_zero,List.set_cons_succ];simp![];refine(qvj hR hx h3 fm f8.1 f8.2 dh).use ?_;rintro _ _;simp![];refine(kzy hfq i6).use ?_;intro _ _;simp![C.eq_self nh]
theorem law_true(ns:List Int)(hl:ns.length<=63)(hb:∀i∈ns,Builtin.Int.intBits i<=1048576):∃E o,m_law [(.no,.lst (ns.map D.int))]=some (.ok E (o,.bl true)):=by
 obtain⟨E,⟨o,d⟩,h,hd⟩:=(wj8 ns).out;have hd:d=.bl true:=hd;subst hd;exact⟨E,o,h⟩
end Nk33
namespace Nk33
open PySem L2 L3 Q
def top(i:Nat):Stmt:=PySem.Challenge.pw_freshrooms_k33_the_plain_form.main.body.getD i (.Pass ⟨0,0,0,0⟩)
abbrev qqi:Stmt:=top 4
abbrev kj6:Stmt:=top 6
abbrev kql:Stmt:=top 5
abbrev jq9:Stmt:=top 8
abbrev jxx:Stmt:=top 11
abbrev kj7:Stmt:=top 9
abbrev kqm:Stmt:=top 10
abbrev jw0:Stmt:=top 18
abbrev jqz:Stmt:=top 19
abbrev jvz:Stmt:=top 16
abbrev jvc:Stmt:=top 17
abbrev jvb:Stmt:=top 15
abbrev jxy:Stmt:=top 14
abbrev jwn:Stmt:=top 13
abbrev jwp:Stmt:=top 21
abbrev jvf:Stmt:=top 22
abbrev jw1:Stmt:=top 23
abbrev jwr:Stmt:=top 24
abbrev jw3:Stmt:=top 25
abbrev jvd:Stmt:=top 26
abbrev jwq:Stmt:=top 27
abbrev jwo:Stmt:=top 28
abbrev jve:Stmt:=top 29
abbrev jv0:Stmt:=top 30
abbrev jvg:Stmt:=top 31
abbrev jql:Stmt:=top 32
abbrev jxz:Stmt:=top 33
abbrev jw2:Stmt:=top 34
abbrev vq4:Stmt:=top 35
theorem sc_fits:FnScope ["step","kept","name","asks"] ["step","kept","name"] (kQ qqi):=mkS
theorem qk9:FnScope ["fill","kept","name"] ["fill","kept","name"] (kQ kj6):=mkS
theorem qqh:FnScope ["step","kept","name"] ["step","kept","name"] (kQ kql):=mkS
theorem jxw:FnScope ["machine"] ["machine"] (kQ jq9):=mkS
theorem kxf:FnScope ["machine","standing"] ["machine","standing"] (kQ jxx):=mkS
theorem sc_fitting:FnScope ["machine","standing","sign","name","kept","steps"] ["machine","standing","sign","name"] (kQ kj7):=mkS
theorem sc_behind:FnScope ["machine","standing","number","name","step"] ["machine","standing","number","name"] (kQ kqm):=mkS
theorem sc_names_held:FnScope ["kept","names","name"] ["kept"] (kQ jw0):=mkS
theorem kj5:FnScope ["names","kept"] ["names","kept"] (kQ jqz):=mkS
theorem sc_plain_case:FnScope ["standing","numbers","names","pair"] ["standing","numbers"] (kQ jvz):=mkS
theorem sc_only_behind:FnScope ["machine","standing","sign","name","steps"] ["machine","standing","sign","name"] (kQ jvc):=mkS
theorem sc_plain_cases:FnScope ["machine","pair","sign","numbers","names"] ["machine","pair","sign","numbers"] (kQ jvb):=mkS
theorem sc_plain_of:FnScope ["machine","numbers","rooms","pair","steps"] ["machine"] (kQ jxy):=mkS
theorem kvu:FnScope ["machine"] ["machine"] (kQ jwn):=mkS
theorem sc__law_draw:FnScope ["_law_script","_law_k","_law_most","_law_x"] ["_law_script","_law_k"] (kQ jwp):=mkS
theorem sc__law_digits:FnScope ["_law_x","_law_sizes","_law_found","_law_size"] ["_law_x","_law_sizes"] (kQ jvf):=mkS
theorem sc__law_signs:FnScope ["_law_x","_law_many","_law_letters","_law_size","_law_at","_law_step","_law_signs_here","_law_k","_law_sign","_law_j","_law_turn"] ["_law_x","_law_many"] (kQ jw1):=mkS
theorem sc__law_asks:FnScope ["_law_y","_law_here","_law_apart","_law_some"] ["_law_y","_law_here","_law_apart"] (kQ jwr):=mkS
theorem sc__law_fills:FnScope ["_law_z","_law_ask","_law_here","_law_there","_law_apart","_law_some","_law_fills_here","_law_d","_law_one"] ["_law_z","_law_ask","_law_here","_law_there","_law_apart"] (kQ jw3):=mkS
theorem sc__law_single:FnScope ["_law_script","_law_start","_law_signs_here","_law_head","_law_size","_law_keepers","_law_rooms","_law_r","_law_steps","_law_s","_law_y","_law_k","_law_ask","_law_to","_law_fills_here"] ["_law_script","_law_start","_law_signs_here"] (kQ jvd):=mkS
theorem kvw:FnScope ["_law_machine"] ["_law_machine"] (kQ jwq):=mkS
theorem kvv:FnScope ["_law_step","_law_kept","_law_name"] ["_law_step","_law_kept","_law_name"] (kQ jwo):=mkS
theorem sc__law_filled:FnScope ["_law_step","_law_kept","_law_name","_law_found","_law_fill"] ["_law_step","_law_kept","_law_name"] (kQ jve):=mkS
theorem sc__law_fitting:FnScope ["_law_machine","_law_standing","_law_sign","_law_name","_law_steps"] ["_law_machine","_law_standing","_law_sign","_law_name"] (kQ jv0):=mkS
theorem sc__law_behind:FnScope ["_law_machine","_law_standing","_law_k","_law_name","_law_step"] ["_law_machine","_law_standing","_law_k","_law_name"] (kQ jvg):=mkS
theorem sc__law_names_in:FnScope ["_law_kept","_law_names","_law_name"] ["_law_kept"] (kQ jql):=mkS
theorem sc__law_due:FnScope ["_law_machine","_law_pairs","_law_rooms","_law_pair","_law_steps","_law_sign","_law_cases","_law_name","_law_some","_law_room","_law_kept","_law_names","_law_there"] ["_law_machine"] (kQ jxz):=mkS
theorem kqk:FnScope ["_law_found","_law_due_here"] ["_law_found","_law_due_here"] (kQ jw2):=mkS
theorem sc_law:FnScope ["_law_script","_law_signs_here","_law_machine","_law_handed","_law_due_here","_law_found","_law_room","_law_cases"] ["_law_script"] (kQ vq4):=mkS
structure Txt (K:PySem.W.Frag)(mg:Str->Option Value)(a7:Addr):Prop where
 b_enumerate:mg "enumerate"=none
 b_int:mg "int"=none
 b_isinstance:mg "isinstance"=none
 b_len:mg "len"=none
 b_list:mg "list"=none
 b_range:mg "range"=none
 b_repr:mg "repr"=none
 b_sorted:mg "sorted"=none
 b_tuple:mg "tuple"=none
 n_NotSingle:PySem.W.nsIn K mainGlobals "NotSingle"=some (some (.ref a7))
 m_NotSingle:mg "NotSingle"=some (.ref a7)
 e_NotSingle:ECls K mg "NotSingle" a7
 h_NotSingle_NotSingle:PySem.W.exmOne K (.ref a7) (.ref a7)=some true
section
variable (P:Program)(w:PySem.World)(K:PySem.W.Frag)(mg:Str->Option Value)(base:Heap)
abbrev vkp:=kZ P w K mg base 1 "fits" ["step","kept","name"] (spF K mg 3 V3)
abbrev kx7:=kZ P w K mg base 1 "held_by" ["fill","kept","name"] (spF K mg 3 V1)
abbrev qk0:=kZ P w K mg base 2 "filled" ["step","kept","name"] (spF K mg 3 VX)
abbrev jvt:=kZ P w K mg base 1 "first_standing" ["machine"] (spF K mg 1 m_first_standing)
abbrev jz8:=kZ P w K mg base 1 "steps_at" ["machine","standing"] (spF K mg 2 JZ)
abbrev kx8:=kZ P w K mg base 2 "fitting" ["machine","standing","sign","name"] (spF K mg 4 m_fitting)
abbrev qk1:=kZ P w K mg base 3 "behind" ["machine","standing","number","name"] (spF K mg 4 m_behind)
abbrev jqx:=kZ P w K mg base 1 "names_held" ["kept"] (spF K mg 1 m_names_held)
abbrev jwk:=kZ P w K mg base 1 "places_among" ["names","kept"] (spF K mg 2 VW)
abbrev jzf:=kZ P w K mg base 2 "plain_case" ["standing","numbers"] (spM K mg 1 JJ)
abbrev jxn:=kZ P w K mg base 4 "only_behind" ["machine","standing","sign","name"] (spF K mg 4 V9)
abbrev jxm:=kZ P w K mg base 5 "plain_cases" ["machine","pair","sign","numbers"] (spM K mg 3 m_plain_cases)
abbrev jz9:=kZ P w K mg base 6 "plain_of" ["machine"] (spF K mg 1 Kw)
abbrev kk7:=kZ P w K mg base 7 "is_single" ["machine"] (spF K mg 1 jqo)
abbrev jwy:=kZ P w K mg base 1 "_law_draw" ["_law_script","_law_k"] (spF K mg 2 m__law_draw)
abbrev jvr:=kZ P w K mg base 1 "_law_digits" ["_law_x","_law_sizes"] (spF K mg 2 m__law_digits)
abbrev jzg:=kZ P w K mg base 2 "_law_signs" ["_law_x","_law_many"] (spF K mg 2 m__law_signs)
abbrev kka:=kZ P w K mg base 1 "_law_asks" ["_law_y","_law_here","_law_apart"] (spF K mg 3 Vq)
abbrev jzi:=kZ P w K mg base 1 "_law_fills" ["_law_z","_law_ask","_law_here","_law_there","_law_apart"] (spF K mg 5 Q9)
abbrev jxo:=kZ P w K mg base 2 "_law_single" ["_law_script","_law_start","_law_signs_here"] (spF K mg 3 m__law_single)
abbrev kk9:=kZ P w K mg base 1 "_law_copy" ["_law_machine"] (spF K mg 1 m__law_copy)
abbrev kk8:=kZ P w K mg base 1 "_law_fits" ["_law_step","_law_kept","_law_name"] (spF K mg 3 W7)
abbrev jxp:=kZ P w K mg base 1 "_law_filled" ["_law_step","_law_kept","_law_name"] (spF K mg 3 VQ)
abbrev jwl:=kZ P w K mg base 2 "_law_fitting" ["_law_machine","_law_standing","_law_sign","_law_name"] (spF K mg 4 m__law_fitting)
abbrev jxq:=kZ P w K mg base 2 "_law_behind" ["_law_machine","_law_standing","_law_k","_law_name"] (spF K mg 4 m__law_behind)
abbrev jwb:=kZ P w K mg base 1 "_law_names_in" ["_law_kept"] (spF K mg 1 Wv)
abbrev kqd:=kZ P w K mg base 3 "_law_due" ["_law_machine"] (spF K mg 1 jv6)
abbrev jzh:=kZ P w K mg base 1 "_law_right" ["_law_found","_law_due_here"] (spF K mg 2 Yw)
end
section
variable {a7:Addr}
variable {P:Program}{w:PySem.World}{K:PySem.W.Frag}{mg:Str->Option Value}{base:Heap}{f:Addr}{fd:FuncData}
theorem vvc(T:Txt K mg a7)  (F:Fun K "fits" "fits" qqi f fd):FnOk P w K mg base (CXE P w) 1 f fd ["step","kept","name"] (spF K mg 3 V3):=
 qV F sc_fits (qZ rfl) λav A outer s H vs Q E hr h=>have nd:=sc_fits.nd;qY rfl
  (j9 (qA nd (kz (kx (vv 0) ki))) (j9 (vY (kK (v7 hr.units) vj (vv 3) ks (kq _) xq) (jz (kY (q_C Zj (λ_=>YZ)))) wJ) (j9 (vY (kK (v7 hr.units) vj (vv 3) ks (kq _) xq) (jz (kY (xz (Z7 hr.units) WW (vv 2) (vv 1) (by rfl)))) wJ) (jz (kY (xz (v7 hr.units) vj (kx (vv 1) (vv 3)) (vv 2) (kq _))))))) h
theorem qkh(T:Txt K mg a7)  (F:Fun K "held_by" "held_by" kj6 f fd):FnOk P w K mg base (CXE P w) 1 f fd ["fill","kept","name"] (spF K mg 3 V1):=
 qV F qk9 (qZ rfl) λav A outer s H vs Q E hr h=>qY rfl
  (j9 (vY (kK XY WV (vv 0) kn (kq _) ZV) (jz (kY kN)) wJ) (jz (kY (qz4 (kK (v7 hr.units) vj (vv 0) ks (kq _) xq) (cv 2) (kz (kx (vv 1) (vv 0))))))) h
theorem qvh(T:Txt K mg a7)(d9:kx7 P w K mg base)(F:Fun K "filled" "filled" kql f fd):FnOk P w K mg base (CXE P w) 2 f fd ["step","kept","name"] (spF K mg 3 VX):=
 qV F qqh (qZ rfl) λav A outer s H vs Q E hr h=>qY rfl
  (jz (kY (qT (j8 (qM .rt 1 [1,2] 3 ["fill","kept","name"] (zk (kz (kx (vv 0) ki))) (λ_ _ _ _ _=>(qC d9 hr (j5 (cv 0) (j5 (cv 1) (j5 (cv 2) jk))))))) T.b_tuple))) h
theorem jz3(T:Txt K mg a7)  (F:Fun K "first_standing" "first_standing" jq9 f fd):FnOk P w K mg base (CXE P w) 1 f fd ["machine"] (spF K mg 1 m_first_standing):=
 qV F jxw (qZ rfl) λav A outer s H vs Q E hr h=>qY rfl
  (jz (kY (vw (o:=.no) (j5 kI (j5 (oX (j8 (vw (o:=.no) (j5 kN jk))) (kx (kx (kx (vv 0) ki) ki) ki)) jk))))) h
theorem kxt(T:Txt K mg a7)  (F:Fun K "steps_at" "steps_at" jxx f fd):FnOk P w K mg base (CXE P w) 1 f fd ["machine","standing"] (spF K mg 2 JZ):=
 qV F kxf (qZ rfl) λav A outer s H vs Q E hr h=>qY rfl
  (jz (kY (kz (kx (kx (kx (vv 0) ki) (kx (vv 1) ki)) ki)))) h
theorem qki(T:Txt K mg a7)(ay:jz8 P w K mg base)(gz:vkp P w K mg base)(F:Fun K "fitting" "fitting" kj7 f fd):FnOk P w K mg base (CXE P w) 2 f fd ["machine","standing","sign","name"] (spF K mg 4 m_fitting):=
 qV F sc_fitting (qZ rfl) λav A outer s H vs Q E hr h=>have nd:=sc_fitting.nd;qY rfl
  (j9 (qA nd (kz (kx (vv 1) ki))) (j9 (qA nd (qC ay hr (j5 (cv 0) (j5 (cv 1) jk)))) (jz (kY (qm .rt 2 [2,4,3] 6 ["number","step","sign","kept","name"] (vjp (cv 5) rfl T.b_enumerate) (λhN _ _ _ _ _=>(wk9 (is:=[0,1]) (qj6 K (t:=gNs [0,1]) (n:=2) (K3 (JK (i:=0) hN rfl (by first|exact Or.inl rfl|exact Or.inr rfl)) (K3 (JK (i:=1) hN rfl (by first|exact Or.inl rfl|exact Or.inr rfl)) kqq))))) (λ_ _ _ _ _=>(vqa (QW.pt (J7 (kK (v7 hr.units) vj (kx (vv 1) ki) (vv 2) (kq _) xq) (J6 (Z0 (j8 (qC gz hr (j5 (cv 1) (j5 (cv 3) (j5 (cv 4) jk))))))))))) (λ_ _ _ _ _=>(cv 0))))))) h
theorem qvi(T:Txt K mg a7)(ay:jz8 P w K mg base)(eg:qk0 P w K mg base)(F:Fun K "behind" "behind" kqm f fd):FnOk P w K mg base (CXE P w) 3 f fd ["machine","standing","number","name"] (spF K mg 4 m_behind):=
 qV F sc_behind (qZ rfl) λav A outer s H vs Q E hr h=>have nd:=sc_behind.nd;qY rfl
  (j9 (qA nd (kz (kx (j8 (qC ay hr (j5 (cv 0) (j5 (cv 1) jk)))) (vv 2)))) (jz (kY (vw (o:=.no) (j5 (kz (kx (vv 4) ki)) (j5 (qC eg hr (j5 (cv 4) (j5 (kz (kx (vv 1) ki)) (j5 (cv 3) jk)))) jk)))))) h
theorem kqs(T:Txt K mg a7)  (F:Fun K "names_held" "names_held" jw0 f fd):FnOk P w K mg base (CXE P w) 1 f fd ["kept"] (spF K mg 1 m_names_held):=
 qV F sc_names_held (qZ rfl) λav A outer s H vs Q E hr h=>have nd:=sc_names_held.nd;qY rfl
  (j9 (qA nd (vq (o:=.rt) jk)) (j9 (qF (zk (cv 0)) (gN nd) (jz (vY (QW.pt (J7 (kK kxr kzi (vv 2) kn (kq _) kzf) (J6 (kK (Z7 hr.units) WW (vv 2) (vv 1) (by rfl) jzz)))) (jz (qP (cv 2))) wJ))) (jz (kY (XJ (pv 1)))))) h
theorem kjd(T:Txt K mg a7)  (F:Fun K "places_among" "places_among" jqz f fd):FnOk P w K mg base (CXE P w) 1 f fd ["names","kept"] (spF K mg 2 VW):=
 qV F kj5 (qZ rfl) λav A outer s H vs Q E hr h=>qY rfl
  (jz (kY (qT (j8 (qM .rt 1 [0] 2 ["name","names"] (zk (cv 1)) (λ_ _ _ _ _=>(qz4 (kK XY WV (vv 0) kn (kq _) ZV) kN (kxi hr.units (vv 1) (vv 0)))))) T.b_tuple))) h
theorem kqr(T:Txt K mg a7)(ag:jqx P w K mg base)(be:jwk P w K mg base)(F:Fun K "plain_case" "plain_case" jvz f fd):FnOk P w K mg base (CXE P w) 2 f fd ["standing","numbers"] (spM K mg 1 JJ):=
 qV F sc_plain_case (qqd rfl) λav A outer s H vs Q E hr h=>have nd:=sc_plain_case.nd;qwj rfl
  (j9 (vY (kK XY WV (vv 0) kn (kq _) ZV) (jz (kY kN)) wJ) (j9 (qA nd (qC ag hr (j5 (kz (kx (vv 0) ki)) jk))) (j9 (qA nd (vw (o:=.no) (j5 (kz (kx (vv 0) ki)) (j5 (qC be hr (j5 (cv 2) (j5 (kz (kx (vv 0) ki)) jk))) jk)))) (jz (kY (vw (o:=.no) (j5 (vxv (i:=1) hr.units (pv 1) (vv 3) (j8 (XQ (kwy K) qxe (vv 1) T.b_len qx8))) (j5 (QE.weak (qT (vv 2) T.b_tuple)) qz5)))))))) h
theorem kkg(T:Txt K mg a7)(cy:kx8 P w K mg base)(ei:qk1 P w K mg base)(F:Fun K "only_behind" "only_behind" jvc f fd):FnOk P w K mg base (CXE P w) 4 f fd ["machine","standing","sign","name"] (spF K mg 4 V9):=
 qV F sc_only_behind (qZ rfl) λav A outer s H vs Q E hr h=>have nd:=sc_only_behind.nd;qY rfl
  (j9 (qA nd (qC cy hr (j5 (cv 0) (j5 (cv 1) (j5 (cv 2) (j5 (cv 3) jk)))))) (j9 (vY (kK WZ (K0 (g:=λa b=>decide (b<a))) (j8 (qL (vv 4) T.b_len)) ki (kq _) Kz) (jz (vqc T.e_NotSingle T.m_NotSingle K7 vjv)) wJ) (jz (kY (qz4 (Z0 (vv 4)) (qC ei hr (j5 (cv 0) (j5 (cv 1) (j5 (kz (kx (vv 4) ki)) (j5 (cv 3) jk))))) kN))))) h
theorem kkf(T:Txt K mg a7)(bz:jzf P w K mg base)(br:jxn P w K mg base)(ag:jqx P w K mg base)(F:Fun K "plain_cases" "plain_cases" jvb f fd):FnOk P w K mg base (CXE P w) 5 f fd ["machine","pair","sign","numbers"] (spM K mg 3 m_plain_cases):=
 qV F sc_plain_cases (qqd rfl) λav A outer s H vs Q E hr h=>have nd:=sc_plain_cases.nd;qwj rfl
  (j9 (qA nd (vxw (j8 (oA (j8 (qL (j8 (qC ag hr (j5 (kz (kx (vv 1) ki)) jk))) T.b_len)) ki)) T.b_range T.b_list)) (jz (kY (qM .rt 1 [0,1,2,3] 5 ["name","machine","pair","sign","numbers"] (zk (QE.weak (cv 4))) (λ_ _ _ _ _=>(qqw (i:=4) bz (hr.mono (by decide)) K7 (wk8 (qC br hr (j5 (cv 1) (j5 (cv 2) (j5 (cv 3) (j5 (cv 0) jk))))) (wvs (i:=4) (pv 4))))))))) h
theorem kxu(T:Txt K mg a7)(b6:jvt P w K mg base)(bn:jxm P w K mg base)(ag:jqx P w K mg base)(F:Fun K "plain_of" "plain_of" jxy f fd):FnOk P w K mg base (CXE P w) 6 f fd ["machine"] (spF K mg 1 Kw):=
 qV F sc_plain_of (qZ rfl) λav A outer s H vs Q E hr h=>have nd:=sc_plain_of.nd;qY rfl
  (j9 (qA nd (vxy hr.units (qC b6 hr (j5 (cv 0) jk)) kI)) (j9 (qA nd (vq (o:=.dp) jk)) (j9 (qqt (qzh ⟨_,_,rfl,rfl⟩) (kK vv6 (K0 (g:=λa b=>decide (a<b))) (j8 (qL (vv 2) T.b_len)) (j8 (XQ (kwy K) qxe (vv 1) T.b_len qx8)) (kq _) Kz) (j9 (qA nd (kz (kx (j8 (J4 (kqa rfl) qjz (vv 1) T.b_list QQ)) (j8 (qL (vv 2) T.b_len))))) (j9 (qqu (i:=4) (o:=.dp) (k:=1) (R:=[0,3,1]) ["sign","machine","pair","numbers"] nd rfl (by first|exact Or.inl rfl|exact Or.inr rfl) (zk (QE.weak (kz (kx (vv 0) ki)))) (λ_ _ _ _ _=>(YJ (JK (i:=0) (show(["sign","machine","pair","numbers"]:List Str).Nodup by decide +kernel) rfl (by first|exact Or.inl rfl|exact Or.inr rfl)))) (λ_ _ _ _ _=>vqb) (λ_ _ _ _ _=>(qz3 (qqw (i:=3) bn (hr.mono (by decide)) K7 (wk8 (cv 1) (wk8 (cv 2) (wk8 (cv 0) (wvs (i:=3) (pv 3)))))))) K7 ⟨_,_,rfl,rfl⟩ (by decide) (show ∀j∈([0,3,1]:List Nat) ,j<5 by decide)) (jz (qP (vw (o:=.dp) (j5 (QE.weak (qz3 (qL (j8 (qC ag hr (j5 (kz (kx (vv 3) ki)) jk))) T.b_len))) (j5 (QE.weak (kz (kx (kx (kx (vv 0) ki) (kx (vv 3) ki)) ki))) (j5 (XJ (pv 4)) qz5))))))))) (jz (kY (vw (o:=.dp) (j5 (vw (o:=.dp) (j5 (QE.weak (qz3 (J4 (Zk K) kk6 (kx (vv 0) ki) T.b_list QQ))) (j5 (XJ (pv 2)) qz5))) (j5 (QE.weak (qz3 (J4 (kqa rfl) qjz (vv 1) T.b_list QQ))) qz5)))))))) h
theorem kw7(T:Txt K mg a7)(aq:jz9 P w K mg base)(F:Fun K "is_single" "is_single" jwn f fd):FnOk P w K mg base (CXE P w) 7 f fd ["machine"] (spF K mg 1 jqo):=
 qV F kvu (qZ rfl) λav A outer s H vs Q E hr h=>qY rfl
  (j9 (vxt (cs:=["NotSingle"]) ⟨_,_,rfl,rfl⟩ T.m_NotSingle rfl (kzc T.e_NotSingle T.n_NotSingle T.h_NotSingle_NotSingle qks) (vqg aq (hr.mono (by decide)) (j5 (cv 0) jk)) (λx_x=>(jz (kY (q_C Zj (λ_=>YZ)))))) (jz (kY (q_C Zj (λ_=>YZ))))) h
theorem kw9(T:Txt K mg a7)  (F:Fun K "_law_draw" "_law_draw" jwp f fd):FnOk P w K mg base (CXE P w) 1 f fd ["_law_script","_law_k"] (spF K mg 2 m__law_draw):=
 qV F sc__law_draw (qZ rfl) λav A outer s H vs Q E hr h=>have nd:=sc__law_draw.nd;qY rfl
  (j9 (qA nd (oX ki (j8 (Wj vjy vkm ki ki)))) (j9 (qA nd (oA (j8 (oX (j8 (oX (vv 1) (vv 1))) (vv 1))) ki)) (j9 (vY (kK vv6 (K0 (g:=λa b=>decide (a<b))) (vv 1) (j8 (qL (vv 0) T.b_len)) (kq _) Kz) (jz (qA nd (kz (kx (vv 0) (vv 1))))) (jz (vY (kK WZ (K0 (g:=λa b=>decide (b<a))) (j8 (qL (vv 0) T.b_len)) ki (kq _) Kz) (jz (qA nd (oX (j8 (oA (j8 (oM (kx (vv 0) (j8 (oM (vv 1) (j8 (qL (vv 0) T.b_len))))) ki)) ki)) (vv 3)))) wJ))) (jz (kY (oM (j8 (oX (j8 (oM (vv 3) (vv 2))) (j8 (Wj vjy vkm ki ki)))) (vv 2))))))) h
theorem kkj(T:Txt K mg a7)  (F:Fun K "_law_digits" "_law_digits" jvf f fd):FnOk P w K mg base (CXE P w) 1 f fd ["_law_x","_law_sizes"] (spF K mg 2 m__law_digits):=
 qV F sc__law_digits (qZ rfl) λav A outer s H vs Q E hr h=>have nd:=sc__law_digits.nd;qY rfl
  (j9 (qA nd (vq (o:=.rt) jk)) (j9 (qF (zk (cv 1)) (gN nd) (j9 (qP (oM (vv 0) (vv 3))) (jz (qA nd (Wj qj9 vko (vv 0) (vv 3)))))) (jz (kY (XJ (pv 2)))))) h
theorem kqt(T:Txt K mg a7)(ah:jvr P w K mg base)(F:Fun K "_law_signs" "_law_signs" jw1 f fd):FnOk P w K mg base (CXE P w) 2 f fd ["_law_x","_law_many"] (spF K mg 2 m__law_signs):=
 qV F sc__law_signs (qZ rfl) λav A outer s H vs Q E hr h=>have nd:=sc__law_signs.nd;qY rfl
  (j9 (qA nd kS) (j9 (vjo (qC ah hr (j5 (cv 0) (j5 (vq (o:=.rt) (j5 kI (j5 kI (j5 kI jk)))) jk))) (wk9 (is:=[3,4,5]) (qj6 K (t:=gNs [3,4,5]) (n:=3) (K3 (gn nd) (K3 (gn nd) (K3 (gn nd) kqq)))))) (j9 (qA nd (oM (vv 4) (j8 (oA (vv 3) ki)))) (j9 (qA nd (vq (o:=.rt) jk)) (j9 (qF (Qv (vv 1) rfl T.b_range) (gN nd) (j9 (qA nd kS) (j9 (qF (Qv (j8 (oA (vv 3) ki)) rfl T.b_range) (gN nd) (j9 (qA nd (oA (j8 (Wj qj9 vko (vv 0) (j8 (oA ki (j8 (oX (j8 (oX ki (vv 9))) (vv 9))))))) (j8 (oX (j8 (oX (vv 7) (j8 (oA (vv 5) ki)))) (j8 (J4 kk3 qxf (j8 (xz (v7 hr.units) vj (vv 9) (vv 4) (kq _))) T.b_int qx9)))))) (jz (qA nd (oA (vv 8) (kx (vv 2) (j8 (oM (vv 10) ki)))))))) (jz (qP (cv 8)))))) (jz (kY (XQ (kzd rfl) qxd (vv 6) T.b_sorted qx6)))))))) h
theorem kwb(T:Txt K mg a7)  (F:Fun K "_law_asks" "_law_asks" jwr f fd):FnOk P w K mg base (CXE P w) 1 f fd ["_law_y","_law_here","_law_apart"] (spF K mg 3 Vq):=
 qV F sc__law_asks (qZ rfl) λav A outer s H vs Q E hr h=>have nd:=sc__law_asks.nd;qY rfl
  (j9 (vY (kK (v7 hr.units) vj (kx (vv 0) ki) ki (kq _) xq) (jz (kY (vq (o:=.rt) (j5 kS jk)))) wJ) (j9 (qA nd (vq (o:=.rt) jk)) (j9 (vY (QW.pt (W2 (kK WZ (K0 (g:=λa b=>decide (b<a))) (kx (vv 0) ki) ki (kq _) Kz) (Zv (QW.pt (J7 (kK (v7 hr.units) vj (vv 1) ki (kq _) xq) (J6 (kK WZ (K0 (g:=λa b=>decide (b<a))) (kx (vv 0) ki) ki (kq _) Kz))))))) (jz (qP kS)) wJ) (j9 (vY (QW.pt (J7 (kK WZ (K0 (g:=λa b=>decide (b<a))) (vv 1) ki (kq _) Kz) (J6 (kK WZ (K0 (g:=λa b=>decide (b<a))) (kx (vv 0) ki) ki (kq _) Kz)))) (j9 (qP (oM (kx (vv 0) ki) (vv 1))) (jz (vY (Z0 (vv 2)) (jz (qA nd (oA (vv 3) (j8 (qm .rt 1 [3,0] 4 ["_law_k","_law_some","_law_y"] (Qv (vv 1) rfl T.b_range) (λhN _ _ _ _ _=>(YJ (JK (i:=0) hN rfl (by first|exact Or.inl rfl|exact Or.inr rfl)))) (λ_ _ _ _ _=>(vqa (QW.pt (J7 (kK (Z7 hr.units) WW (vv 0) (vv 1) (by rfl) jzz) (J6 (kK (v7 hr.units) vj (kx (vv 2) (j8 (oA ki (vv 0)))) ki (kq _) xq)))))) (λ_ _ _ _ _=>(cv 0))))))) wJ))) wJ) (j9 (vY (kK (v7 hr.units) vj (kx (vv 0) ki) ki (kq _) xq) (jz (wkv (i:=3) (pv 3) rfl qkj)) wJ) (jz (kY (XJ (pv 3))))))))) h
theorem kqv(T:Txt K mg a7)  (F:Fun K "_law_fills" "_law_fills" jw3 f fd):FnOk P w K mg base (CXE P w) 1 f fd ["_law_z","_law_ask","_law_here","_law_there","_law_apart"] (spF K mg 5 Q9):=
 qV F sc__law_fills (qZ rfl) λav A outer s H vs Q E hr h=>have nd:=sc__law_fills.nd;qY rfl
  (j9 (qA nd (oA (j8 (vq (o:=.rt) (j5 kS (j5 kN jk)))) (j8 (vxw (vv 2) T.b_range T.b_list)))) (j9 (qA nd (vq (o:=.rt) jk)) (j9 (qF (zk (wvq (vv 0) wkw (vqd (vv 3)))) (gN nd) (j9 (qA nd (kz (kx (vv 5) (j8 (oM (vv 7) (j8 (qL (vv 5) T.b_len))))))) (j9 (vY (QW.pt (J7 (Z0 (vv 4)) (J6 (kK kxr kzi (vv 8) kn (kq _) kzf)))) (jz (vY (QW.pt (W2 (kK (vv9 hr.units) vwh (vv 8) (vv 6) (by rfl) vwc) (W2 (QW.pt (J7 (kK (v7 hr.units) vj (vv 8) ks (kq _) xq) (J6 (QW.pt (W2 (kK (v7 hr.units) vj (vv 1) ks (kq _) xq) (Zv (kK (vv9 hr.units) vwh (vv 1) (vv 6) (by rfl) vwc))))))) (Zv (QW.pt (J7 (kK (v7 hr.units) vj (vv 8) (vv 1) (kq _) xq) (J6 (kK (vv9 hr.units) vwh ks (vv 6) (by rfl) vwc)))))))) (jz (qA nd kN)) wJ)) wJ) (jz (qP (cv 8)))))) (jz (kY (qT (vv 6) T.b_tuple)))))) h
theorem kkh(T:Txt K mg a7)(ah:jvr P w K mg base)(ai:jwy P w K mg base)(cm:kka P w K mg base)(bu:jzi P w K mg base)(F:Fun K "_law_single" "_law_single" jvd f fd):FnOk P w K mg base (CXE P w) 2 f fd ["_law_script","_law_start","_law_signs_here"] (spF K mg 3 m__law_single):=
 qV F sc__law_single (qZ rfl) λav A outer s H vs Q E hr h=>have nd:=sc__law_single.nd;qY rfl
  (j9 (qA nd (qC ah hr (j5 (qC ai hr (j5 (cv 0) (j5 (cv 1) jk))) (j5 (oA (j8 (oA (j8 (vq (o:=.rt) (j5 kI (j5 kI (j5 kI jk))))) (j8 (oX (j8 (vq (o:=.rt) (j5 kI jk))) ki)))) (j8 (oX (j8 (vq (o:=.rt) (j5 kI jk))) ki))) jk)))) (j9 (qA nd (oA ki (kx (vv 3) ki))) (j9 (qqu (i:=5) (o:=.rt) (k:=1) (R:=[3]) ["_law_r","_law_head"] nd rfl (by first|exact Or.inl rfl|exact Or.inr rfl) (Qv (vv 4) rfl T.b_range) (λ_ _ _ _ _=>(YJ (JK (i:=0) (show(["_law_r","_law_head"]:List Str).Nodup by decide +kernel) rfl (by first|exact Or.inl rfl|exact Or.inr rfl)))) (λ_ _ _ _ _=>vqb) (λ_ _ _ _ _=>(oM (kx (vv 1) (j8 (oA ki (vv 0)))) (j8 (oA ki (j8 (J4 kk3 qxf (j8 (xz (v7 hr.units) vj (kx (vv 1) ki) ki (kq _))) T.b_int qx9)))))) K7 ⟨_,_,rfl,rfl⟩ (by decide) (show ∀j∈([3]:List Nat) ,j<15 by decide)) (j9 (qA nd (vq (o:=.rt) jk)) (j9 (qF (Qv (vv 4) rfl T.b_range) (gN nd) (j9 (qA nd (vq (o:=.rt) jk)) (j9 (qF (Qv (j8 (qL (vv 2) T.b_len)) rfl T.b_range) (gN nd) (j9 (qA nd (qC ai hr (j5 (cv 0) (j5 (oA (j8 (oA (j8 (oA (vv 1) ki)) (j8 (oX (vv 7) (j8 (qL (vv 2) T.b_len)))))) (vv 9)) jk)))) (j9 (qA nd (qC ah hr (j5 (cv 10) (j5 (oA (j8 (vq (o:=.rt) (j5 kI (j5 kI (j5 kI (j5 kI (j5 kI (j5 kI jk)))))))) (j8 (oX (j8 (vq (o:=.rt) (j5 kI (j5 kI (j5 kI (j5 kI jk)))))) ki))) jk)))) (jz (qF (vjp (qC cm hr (j5 (cv 10) (j5 (kz (kx (vv 5) (vv 7))) (j5 (xz (v7 hr.units) vj (kx (vv 3) ki) ki (kq _)) jk)))) rfl T.b_enumerate) (wk9 (is:=[11,12]) (qj6 K (t:=gNs [11,12]) (n:=2) (K3 (gn nd) (K3 (gn nd) kqq)))) (j9 (qA nd (oM (kx (vv 10) (j8 (oA ki (j8 (oX ki (vv 11)))))) (vv 4))) (j9 (qA nd (qC bu hr (j5 (wvq (vv 10) (vqd (j8 (oA ki (j8 (oX ki (vv 11)))))) (vqd (j8 (oA ki (j8 (oX ki (vv 11))))))) (j5 (cv 12) (j5 (kz (kx (vv 5) (vv 7))) (j5 (kz (kx (vv 5) (vv 13))) (j5 (xz (v7 hr.units) vj (kx (vv 3) ki) ki (kq _)) jk))))))) (jz (qP (vw (o:=.no) (j5 (kz (kx (vv 2) (vv 9))) (j5 (cv 12) (j5 (cv 13) (j5 (cv 14) jk)))))))))))))) (jz (qP (vw (o:=.no) (j5 (kz (kx (vv 5) (vv 7))) (j5 (xz (v7 hr.units) vj (kx (vv 3) (j8 (oA ki (vv 7)))) ki (kq _)) (j5 (cv 8) jk))))))))) (jz (kY (vw (o:=.no) (j5 (vw (o:=.no) (j5 (J4 (Zk K) kk6 (vv 2) T.b_list QQ) (j5 (cv 6) jk))) (j5 (oA (j8 (oA (vv 1) ki)) (j8 (oX (vv 4) (j8 (qL (vv 2) T.b_len))))) jk)))))))))) h
theorem kwa(T:Txt K mg a7)  (F:Fun K "_law_copy" "_law_copy" jwq f fd):FnOk P w K mg base (CXE P w) 1 f fd ["_law_machine"] (spF K mg 1 m__law_copy):=
 qV F kvw (qZ rfl) λav A outer s H vs Q E hr h=>qY rfl
  (jz (kY (vw (o:=.no) (j5 (J4 (Zk K) kk6 (kx (vv 0) ki) T.b_list QQ) (j5 (qM .rt 1 [] 1 ["_law_room"] (zk (kz (kx (vv 0) ki))) (λ_ _ _ _ _=>(vw (o:=.no) (j5 (kz (kx (vv 0) ki)) (j5 (kz (kx (vv 0) ki)) (j5 (J4 (Zk K) kk6 (kx (vv 0) ki) T.b_list QQ) jk)))))) jk))))) h
theorem kw8(T:Txt K mg a7)  (F:Fun K "_law_fits" "_law_fits" jwo f fd):FnOk P w K mg base (CXE P w) 1 f fd ["_law_step","_law_kept","_law_name"] (spF K mg 3 W7):=
 qV F kvv (qZ rfl) λav A outer s H vs Q E hr h=>qY rfl
  (j9 (vY (kK (v7 hr.units) vj (kx (vv 0) ki) ks (kq _) xq) (jz (kY (xz (Z7 hr.units) WW (vv 2) (vv 1) (by rfl)))) wJ) (jz (kY (q_or (j8 (xz (v7 hr.units) vj (kx (vv 0) ki) ks (kq _))) (qqv (xz (v7 hr.units) vj (kx (vv 1) (kx (vv 0) ki)) (vv 2) (kq _))))))) h
theorem kki(T:Txt K mg a7)  (F:Fun K "_law_filled" "_law_filled" jve f fd):FnOk P w K mg base (CXE P w) 1 f fd ["_law_step","_law_kept","_law_name"] (spF K mg 3 VQ):=
 qV F sc__law_filled (qZ rfl) λav A outer s H vs Q E hr h=>have nd:=sc__law_filled.nd;qY rfl
  (j9 (qA nd (vq (o:=.rt) jk)) (j9 (qF (zk (kz (kx (vv 0) ki))) (gN nd) (jz (vY (QW.pt (W2 (kK XY WV (vv 4) kn (kq _) ZV) (Zv (kK (v7 hr.units) vj (vv 4) ks (kq _) xq)))) (jz (qP (kz (kx (j8 (vq (o:=.rt) (j5 (cv 2) (j5 kN jk)))) (j8 (J4 kk3 qxf (j8 (xz XY WV (vv 4) kn (kq _))) T.b_int qx9)))))) (jz (qP (kz (kx (vv 1) (vv 4)))))))) (jz (kY (qT (vv 3) T.b_tuple))))) h
theorem kje(T:Txt K mg a7)(cg:kk8 P w K mg base)(F:Fun K "_law_fitting" "_law_fitting" jv0 f fd):FnOk P w K mg base (CXE P w) 2 f fd ["_law_machine","_law_standing","_law_sign","_law_name"] (spF K mg 4 m__law_fitting):=
 qV F sc__law_fitting (qZ rfl) λav A outer s H vs Q E hr h=>have nd:=sc__law_fitting.nd;qY rfl
  (j9 (qA nd (kz (kx (kx (kx (vv 0) ki) (kx (vv 1) ki)) ki))) (jz (kY (qm .rt 1 [4,2,1,3] 5 ["_law_k","_law_steps","_law_sign","_law_standing","_law_name"] (Qv (j8 (qL (vv 4) T.b_len)) rfl T.b_range) (λhN _ _ _ _ _=>(YJ (JK (i:=0) hN rfl (by first|exact Or.inl rfl|exact Or.inr rfl)))) (λ_ _ _ _ _=>(vqa (QW.pt (J7 (kK (v7 hr.units) vj (kx (kx (vv 1) (vv 0)) ki) (vv 2) (kq _) xq) (J6 (Z0 (j8 (qC cg hr (j5 (kz (kx (vv 1) (vv 0))) (j5 (kz (kx (vv 3) ki)) (j5 (cv 4) jk))))))))))) (λ_ _ _ _ _=>(cv 0)))))) h
theorem kkk(T:Txt K mg a7)(bo:jxp P w K mg base)(F:Fun K "_law_behind" "_law_behind" jvg f fd):FnOk P w K mg base (CXE P w) 2 f fd ["_law_machine","_law_standing","_law_k","_law_name"] (spF K mg 4 m__law_behind):=
 qV F sc__law_behind (qZ rfl) λav A outer s H vs Q E hr h=>have nd:=sc__law_behind.nd;qY rfl
  (j9 (qA nd (kz (kx (kx (kx (kx (vv 0) ki) (kx (vv 1) ki)) ki) (vv 2)))) (jz (kY (vw (o:=.no) (j5 (kz (kx (vv 4) ki)) (j5 (qC bo hr (j5 (cv 4) (j5 (kz (kx (vv 1) ki)) (j5 (cv 3) jk)))) jk)))))) h
theorem jzn(T:Txt K mg a7)  (F:Fun K "_law_names_in" "_law_names_in" jql f fd):FnOk P w K mg base (CXE P w) 1 f fd ["_law_kept"] (spF K mg 1 Wv):=
 qV F sc__law_names_in (qZ rfl) λav A outer s H vs Q E hr h=>have nd:=sc__law_names_in.nd;qY rfl
  (j9 (qA nd (vq (o:=.rt) jk)) (j9 (qF (zk (cv 0)) (gN nd) (jz (vY (QW.pt (J7 (kK kxr kzi (vv 2) kn (kq _) kzf) (J6 (kK (Z7 hr.units) WW (vv 2) (vv 1) (by rfl) jzz)))) (jz (qP (cv 2))) wJ))) (jz (kY (XJ (pv 1)))))) h
theorem kxv(T:Txt K mg a7)(bf:jwl P w K mg base)(bp:jxq P w K mg base)(aj:jwb P w K mg base)(F:Fun K "_law_due" "_law_due" jxz f fd):FnOk P w K mg base (CXE P w) 3 f fd ["_law_machine"] (spF K mg 1 jv6):=
 qV F sc__law_due (qZ rfl) λav A outer s H vs Q E hr h=>have nd:=sc__law_due.nd;qY rfl
  (j9 (qA nd (vq (o:=.rt) (j5 (vw (o:=.no) (j5 kI (j5 (oX (j8 (vw (o:=.no) (j5 kN jk))) (kx (kx (kx (vv 0) ki) ki) ki)) jk))) jk))) (j9 (qA nd (vq (o:=.rt) jk)) (j9 (qqt (qzh ⟨_,_,rfl,rfl⟩) (kK vv6 (K0 (g:=λa b=>decide (a<b))) (j8 (qL (vv 2) T.b_len)) (j8 (qL (vv 1) T.b_len)) (kq _) Kz) (j9 (qA nd (kz (kx (vv 1) (j8 (qL (vv 2) T.b_len))))) (j9 (qA nd (vq (o:=.rt) jk)) (j9 (qF (zk (kz (kx (vv 0) ki))) (gN nd) (j9 (qA nd (vq (o:=.rt) jk)) (j9 (qF (Qv (j8 (oA (j8 (qL (j8 (qC aj hr (j5 (kz (kx (vv 3) ki)) jk))) T.b_len)) ki)) rfl T.b_range) (gN nd) (j9 (qA nd (qC bf hr (j5 (cv 0) (j5 (cv 3) (j5 (cv 5) (j5 (cv 7) jk)))))) (j9 (vY (kK (v7 hr.units) vj (vv 8) (j8 (vq (o:=.rt) jk)) (kq _) xq) (j9 (qP kN) (jz vxz)) wJ) (j9 (vjo (qC bp hr (j5 (cv 0) (j5 (cv 3) (j5 (kz (kx (vv 8) ki)) (j5 (cv 7) jk))))) (wk9 (is:=[9,10]) (qj6 K (t:=gNs [9,10]) (n:=2) (K3 (gn nd) (K3 (gn nd) kqq))))) (j9 (qA nd (qC aj hr (j5 (cv 10) jk))) (j9 (qA nd (vw (o:=.no) (j5 (cv 9) (j5 (qT (j8 (qM .rt 1 [11] 13 ["_law_one","_law_names"] (zk (cv 10)) (λ_ _ _ _ _=>(qz4 (kK XY WV (vv 0) kn (kq _) ZV) kN (kxi hr.units (vv 1) (vv 0)))))) T.b_tuple) jk)))) (j9 (vY (kK (Z7 hr.units) WW (vv 12) (vv 1) (by rfl) jzz) (jz (qP (cv 12))) wJ) (jz (qP (vw (o:=.no) (j5 (kxi hr.units (vv 1) (vv 12)) (j5 (qT (vv 11) T.b_tuple) jk)))))))))))) (jz (qP (cv 6)))))) (jz (qP (vw (o:=.no) (j5 (qL (j8 (qC aj hr (j5 (kz (kx (vv 3) ki)) jk))) T.b_len) (j5 (kz (kx (kx (kx (vv 0) ki) (kx (vv 3) ki)) ki)) (j5 (cv 4) jk)))))))))) (jz (kY (vw (o:=.no) (j5 (vw (o:=.no) (j5 (J4 (Zk K) kk6 (kx (vv 0) ki) T.b_list QQ) (j5 (cv 2) jk))) (j5 (cv 1) jk)))))))) h
theorem kqu(T:Txt K mg a7)  (F:Fun K "_law_right" "_law_right" jw2 f fd):FnOk P w K mg base (CXE P w) 1 f fd ["_law_found","_law_due_here"] (spF K mg 2 Yw):=
 qV F kqk (qZ rfl) λav A outer s H vs Q E hr h=>qY rfl
  (jz (kY (vqi (j8 (wkx (vv 0) T.b_isinstance T.b_tuple qjw rfl)) (vqi (j8 (xz (v7 hr.units) vj (vv 0) (vv 1) (kq _))) (qqv (xz (v7 hr.units) vj (j8 (XQ (qju K hr.gd hr.units) vkl (vv 0) T.b_repr qx7)) (j8 (XQ (qju K hr.gd hr.units) vkl (vv 1) T.b_repr qx7)) (kq _))))))) h
theorem vzs(T:Txt K mg a7)(bv:jzg P w K mg base)(ci:kk9 P w K mg base)(cq:kqd P w K mg base)(aq:jz9 P w K mg base)(ai:jwy P w K mg base)(bq:jxo P w K mg base)(ba:jzh P w K mg base)(ck:kk7 P w K mg base)(F:Fun K "law" "law" vq4 f fd):FnOk P w K mg base (CXE P w) 8 f fd ["_law_script"] (spF K mg 1 m_law):=
 qV F sc_law (qZ rfl) λav A outer s H vs Q E hr h=>have nd:=sc_law.nd;qY rfl
  (j9 (qA nd (qC bv hr (j5 (qC ai hr (j5 (cv 0) (j5 kI jk))) (j5 (oA ki (j8 (oM (j8 (qC ai hr (j5 (cv 0) (j5 kI jk)))) ki))) jk)))) (j9 (qA nd (kz (kx (j8 (qC bq hr (j5 (cv 0) (j5 kI (j5 (cv 1) jk))))) ki))) (j9 (qA nd (qC ci hr (j5 (cv 2) jk))) (j9 (qA nd (qC cq hr (j5 (cv 2) jk))) (j9 (qA nd (qC aq hr (j5 (cv 3) jk))) (j9 (vY (QW.pt (W2 (kK vzn vwf (j8 (qC ck hr (j5 (cv 3) jk))) (j8 (q_C Zj (λ_=>YZ))) (kq _) vwb) (W2 (vxu (Z0 (j8 (vqh ba (hr.mono (by decide)) K7 (vz1 (vv 5) (vz1 (vv 4) wkz)))))) (Zv (kK (wqc hr.units) wv5 (vv 3) (vv 2) (kq _) wv2))))) (jz (kY (q_C Zj (λ_=>YZ)))) wJ) (j9 (wvr (i:=5) (p:=[1]) (Qq 1 (Z3 K (pv 5)) (λ_ _=>rfl)) (vw (o:=.no) (j5 kI (j5 (vw (o:=.no) jk) jk))) rfl jx8) (j9 (vqf (i:=5) (r:=6) (s:=7) (p:=[0,1]) (j:=2) (qzh ⟨_,_,rfl,rfl⟩) rfl (Qq 1 (Qq 0 (Z3 K (pv 5)) (λ_ _=>rfl)) (λ_ _=>rfl)) (gn nd) (Qq 2 (Z3 K (pv 6)) (λ_ _=>rfl)) (gn nd) (Z3 K (pv 7)) vjw (λ_=>kqo) rfl jx8) (j9 (q_pc (i:=5) (p:=[0,1]) (Qq 1 (Qq 0 (Z3 K (pv 5)) (λ_ _=>rfl)) (λ_ _=>rfl)) rfl qzn) (j9 (wvr (i:=5) (p:=[0,0]) (Qq 0 (Qq 0 (Z3 K (pv 5)) (λ_ _=>rfl)) (λ_ _=>rfl)) kS rfl jx8) (jz (kY (vqi (j8 (qC ba hr (j5 (qC aq hr (j5 (cv 3) jk)) (j5 (cv 4) jk)))) (qqv (xz (v7 hr.units) vj (vv 3) (vv 2) (kq _)))))))))))))))) h
end
theorem all_mk{l:PySem.W.OpenLaw}{w:PySem.World}{K:PySem.W.Frag}{h:Heap}{mg:Str->Option Value}{fa:Addr}(X:K.In h)(G:h.Ns mainGlobals mg)(il:mg "law"=some (.ref fa)){a7:Addr}
  (g0:Gf K "fits" qqi)
  (g1:Gf K "held_by" kj6)
  (g2:Gf K "filled" kql)
  (g3:Gf K "first_standing" jq9)
  (g4:Gf K "steps_at" jxx)
  (g5:Gf K "fitting" kj7)
  (g6:Gf K "behind" kqm)
  (g7:Gf K "names_held" jw0)
  (g8:Gf K "places_among" jqz)
  (g9:Gf K "plain_case" jvz)
  (g10:Gf K "only_behind" jvc)
  (g11:Gf K "plain_cases" jvb)
  (g12:Gf K "plain_of" jxy)
  (g13:Gf K "is_single" jwn)
  (g14:Gf K "_law_draw" jwp)
  (g15:Gf K "_law_digits" jvf)
  (g16:Gf K "_law_signs" jw1)
  (g17:Gf K "_law_asks" jwr)
  (g18:Gf K "_law_fills" jw3)
  (g19:Gf K "_law_single" jvd)
  (g20:Gf K "_law_copy" jwq)
  (g21:Gf K "_law_fits" jwo)
  (g22:Gf K "_law_filled" jve)
  (g23:Gf K "_law_fitting" jv0)
  (g24:Gf K "_law_behind" jvg)
  (g25:Gf K "_law_names_in" jql)
  (g26:Gf K "_law_due" jxz)
  (g27:Gf K "_law_right" jw2)
  (g28:Gf K "law" vq4)
  (z_enumerate:PySem.W.nsIn K mainGlobals "enumerate"=some none)
  (z_int:PySem.W.nsIn K mainGlobals "int"=some none)
  (z_isinstance:PySem.W.nsIn K mainGlobals "isinstance"=some none)
  (z_len:PySem.W.nsIn K mainGlobals "len"=some none)
  (z_list:PySem.W.nsIn K mainGlobals "list"=some none)
  (z_range:PySem.W.nsIn K mainGlobals "range"=some none)
  (z_repr:PySem.W.nsIn K mainGlobals "repr"=some none)
  (z_sorted:PySem.W.nsIn K mainGlobals "sorted"=some none)
  (z_tuple:PySem.W.nsIn K mainGlobals "tuple"=some none)
  (n_NotSingle:PySem.W.nsIn K mainGlobals "NotSingle"=some (some (.ref a7)))
  (ec_NotSingle:PySem.W.excIn K a7 bmV "ValueError.__new__"=true) (ga_NotSingle:PySem.W.findIn K (.ref a7) "__getattribute__"=some (some (.builtin "BaseException.__getattribute__"))) (gt_NotSingle:PySem.W.findIn K (.ref a7) "__getattr__"=some none) (fa_NotSingle:PySem.W.findIn K (.ref a7) "__class__"=some (some (.builtin "object.__class__"))) (fg_NotSingle:PySem.W.specialIn K (.builtin "object.__class__") "__get__"=some (some (.builtin "getset_descriptor.__get__"))) (ft_NotSingle:PySem.W.takesIn K (.builtin "object.__class__")=some true) (ob_NotSingle:PySem.W.mroIn K a7 (.type "object")=some true) (bx_NotSingle:PySem.W.mroIn K a7 (.type "BaseException")=some true) (cl_NotSingle:PySem.W.isClsIn K a7=true)
  (h_NotSingle_NotSingle:PySem.W.exmOne K (.ref a7) (.ref a7)=some true)
  : ∃fd:FuncData,(∀(s:Shared) (v:Value),BindsTo s fd ⟨[v],[]⟩ [("_law_script",v)])/\∀base:Heap,K.In base->base.Ns mainGlobals mg->FnOk l.prog w K mg base (CXE l.prog w) 8 fa fd ["_law_script"] (spF K mg 1 m_law):=by
 have T:Txt K mg a7:=⟨Y8 X G z_enumerate,Y8 X G z_int,Y8 X G z_isinstance,Y8 X G z_len,Y8 X G z_list,Y8 X G z_range,Y8 X G z_repr,Y8 X G z_sorted,Y8 X G z_tuple,n_NotSingle,PySem.W.mg_of X G n_NotSingle,⟨PySem.W.mg_of X G n_NotSingle,ec_NotSingle,vkq ga_NotSingle gt_NotSingle fa_NotSingle fg_NotSingle ft_NotSingle ob_NotSingle bx_NotSingle cl_NotSingle⟩,h_NotSingle_NotSingle⟩;refine g28.law X G il fun {base _ _} F=>?_
 have gz:vkp l.prog w K mg base:=g0.d X G (vvc T );have d9:kx7 l.prog w K mg base:=g1.d X G (qkh T );have eg:qk0 l.prog w K mg base:=g2.d X G (qvh T d9);have b6:jvt l.prog w K mg base:=g3.d X G (jz3 T );have ay:jz8 l.prog w K mg base:=g4.d X G (kxt T );have cy:kx8 l.prog w K mg base:=g5.d X G (qki T ay gz);have ei:qk1 l.prog w K mg base:=g6.d X G (qvi T ay eg);have ag:jqx l.prog w K mg base:=g7.d X G (kqs T );have be:jwk l.prog w K mg base:=g8.d X G (kjd T );have bz:jzf l.prog w K mg base:=g9.d X G (kqr T ag be);have br:jxn l.prog w K mg base:=g10.d X G (kkg T cy ei);have bn:jxm l.prog w K mg base:=g11.d X G (kkf T bz br ag);have aq:jz9 l.prog w K mg base:=g12.d X G (kxu T b6 bn ag);have ck:kk7 l.prog w K mg base:=g13.d X G (kw7 T aq);have ai:jwy l.prog w K mg base:=g14.d X G (kw9 T );have ah:jvr l.prog w K mg base:=g15.d X G (kkj T );have bv:jzg l.prog w K mg base:=g16.d X G (kqt T ah);have cm:kka l.prog w K mg base:=g17.d X G (kwb T );have bu:jzi l.prog w K mg base:=g18.d X G (kqv T );have bq:jxo l.prog w K mg base:=g19.d X G (kkh T ah ai cm bu);have ci:kk9 l.prog w K mg base:=g20.d X G (kwa T );have cg:kk8 l.prog w K mg base:=g21.d X G (kw8 T );have bo:jxp l.prog w K mg base:=g22.d X G (kki T );have bf:jwl l.prog w K mg base:=g23.d X G (kje T cg);have bp:jxq l.prog w K mg base:=g24.d X G (kkk T bo);have aj:jwb l.prog w K mg base:=g25.d X G (jzn T );have cq:kqd l.prog w K mg base:=g26.d X G (kxv T bf bp aj);have ba:jzh l.prog w K mg base:=g27.d X G (kqu T );exact vzs T bv ci cq aq ai bq ba ck F
end Nk33
namespace PySem.W.Fast
theorem tw15482376417412373818:True:=⟨⟩
theorem tw13288491431173080555:True:=⟨⟩
theorem tw7319982273276441823:True:=⟨⟩
theorem tw5448452012657021354:True:=⟨⟩
theorem tw11463531834269217045:True:=⟨⟩
theorem tw9828190314151739045:True:=⟨⟩
theorem tw16541682173478218428:True:=⟨⟩
theorem tw17082112131755827525:True:=⟨⟩
theorem tw1177619646726849379:True:=⟨⟩
theorem tw14415409995061920007:True:=⟨⟩
theorem tw3734179718818569872:True:=⟨⟩
theorem tw5716854560102892283:True:=⟨⟩
theorem tw10922656390657283692:True:=⟨⟩
theorem tw16476114299102582301:True:=⟨⟩
theorem tw8422226370492655485:True:=⟨⟩
theorem tw8678443902538830772:True:=⟨⟩
theorem tw3793240868417150200:True:=⟨⟩
theorem tw277033177038716645:True:=⟨⟩
theorem tw6690644963132943296:True:=⟨⟩
theorem tw2142949647454743234:True:=⟨⟩
theorem tw6634392868477374921:True:=⟨⟩
theorem tw10460553791729713340:True:=⟨⟩
theorem tw12069810867714823819:True:=⟨⟩
theorem tw11759007726635394761:True:=⟨⟩
theorem tw13223509116703030708:True:=⟨⟩
theorem tw8764711867489195904:True:=⟨⟩
theorem tw736687572419188072:True:=⟨⟩
theorem tw4799769617141035980:True:=⟨⟩
theorem tw15140436570535776873:True:=⟨⟩
theorem tw14223241291636032429:True:=⟨⟩
theorem tw16477226320291565875:True:=⟨⟩
theorem tw3390815051738675816:True:=⟨⟩
theorem tw17038350642300579182:True:=⟨⟩
theorem tw3255114471325873059:True:=⟨⟩
theorem tw4734138749595420932:True:=⟨⟩
theorem tw3214982562488348403:True:=⟨⟩
theorem tw13344220911281042490:True:=⟨⟩
theorem tw13235916235252908248:True:=⟨⟩
theorem tw2238940646099819522:True:=⟨⟩
theorem tw4623723415614934470:True:=⟨⟩
theorem tw16760961900191796983:True:=⟨⟩
theorem tw15003184455202938325:True:=⟨⟩
theorem tw8233022157861522099:True:=⟨⟩
theorem tw10480086983118502882:True:=⟨⟩
theorem tw298852022037000389:True:=⟨⟩
theorem tw346056871348713619:True:=⟨⟩
theorem tw14902297950611419207:True:=⟨⟩
theorem tw7547823837997836783:True:=⟨⟩
theorem tw16466715979044434703:True:=⟨⟩
theorem tw255895578545926035:True:=⟨⟩
theorem tw10059604330937175612:True:=⟨⟩
theorem tw247805216263167058:True:=⟨⟩
theorem tw9127915138762257781:True:=⟨⟩
theorem tw17582055690294569417:True:=⟨⟩
theorem tw1889951790456795149:True:=⟨⟩
theorem tw12076821295902301699:True:=⟨⟩
theorem tw17113316036700210905:True:=⟨⟩
theorem tw7215007275443843093:True:=⟨⟩
theorem tw14649133226122284608:True:=⟨⟩
theorem tw8028752767019509893:True:=⟨⟩
theorem tw7260026211597905010:True:=⟨⟩
theorem tw7088198336465870934:True:=⟨⟩
theorem tw16896064880328656229:True:=⟨⟩
theorem tw9500406388205583204:True:=⟨⟩
theorem tw10277831271247834008:True:=⟨⟩
theorem tw10837294867006272530:True:=⟨⟩
theorem tw11323976463510652382:True:=⟨⟩
theorem tw7636408755899651107:True:=⟨⟩
theorem tw11830014748056558705:True:=⟨⟩
theorem tw16014779761081737630:True:=⟨⟩
theorem tw15526667244217094856:True:=⟨⟩
theorem tw16636950088453265199:True:=⟨⟩
theorem tw3099110955408072603:True:=⟨⟩
theorem tw11621694014215370032:True:=⟨⟩
theorem tw9849982922640902887:True:=⟨⟩
theorem tw15966986837876565148:True:=⟨⟩
theorem tw12417575353712797405:True:=⟨⟩
theorem tw17355467906951476990:True:=⟨⟩
theorem tw17488540864834562448:True:=⟨⟩
theorem tw15681031779715429088:True:=⟨⟩
theorem tw5437331848777050284:True:=⟨⟩
theorem tw1715712664240466838:True:=⟨⟩
end PySem.W.Fast
open PySem PySem.W PyProof.Rows
set_option maxRecDepth 100000 in
set_option maxHeartbeats 0 in
theorem PySem.Challenge.cw_freshrooms_k33_the_plain_form_holds : PySem.Challenge.rw_freshrooms_k33_the_plain_form.Holds := by
 w_on;o_law;k_head;(case hw=>w_witness2)
 k_fill
 refine Q.walkQ (l:=PySem.Challenge.rw_freshrooms_k33_the_plain_form) (n:=63) (k:=8) (x:="_law_script") (f:=Nk33.m_law) rfl (by decide) rfl ⟨rfl,by decide,by decide,rfl⟩ (fun w h Y=>PySem.W.kIn_of Y) ?F Nk33.law_true
 case F =>
  intro w mg fa h KX G hmg
  refine' Nk33.all_mk KX G hmg ?_ ?_ ?_ ?_ ?_ ?_ ?_ ?_ ?_ ?_ ?_ ?_ ?_ ?_ ?_ ?_ ?_ ?_ ?_ ?_ ?_ ?_ ?_ ?_ ?_ ?_ ?_ ?_ ?_ ?z_enumerate ?z_int ?z_isinstance ?z_len ?z_list ?z_range ?z_repr ?z_sorted ?z_tuple ?n_NotSingle ?ec_NotSingle ?ga_NotSingle ?gt_NotSingle ?fa_NotSingle ?fg_NotSingle ?ft_NotSingle ?ob_NotSingle ?bx_NotSingle ?cl_NotSingle ?h_NotSingle_NotSingle
  all_goals try (refine' Q.Gf.mk ?a ?b ?c ?d;(case a=>k_is);(case b=>k_is);(case c=>k_is);(case d=>k_is))
  (case z_enumerate=>k_is)
  (case z_int=>k_is)
  (case z_isinstance=>k_is)
  (case z_len=>k_is)
  (case z_list=>k_is)
  (case z_range=>k_is)
  (case z_repr=>k_is)
  (case z_sorted=>k_is)
  (case z_tuple=>k_is)
  (case n_NotSingle=>k_is)
  (case ec_NotSingle=>k_exc)
  (case ga_NotSingle=>k_is)
  (case gt_NotSingle=>k_is)
  (case fa_NotSingle=>k_is)
  (case fg_NotSingle=>k_is)
  (case ft_NotSingle=>k_is)
  (case ob_NotSingle=>k_is)
  (case bx_NotSingle=>k_is)
  (case cl_NotSingle=>k_is)
  (case h_NotSingle_NotSingle=>kts_exm)
