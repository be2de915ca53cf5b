import PyProof.Rows.All
import Wide.All
import OpenK.AllK
import Wide.FinOn
import Lean
import PySem.Challenge.RW_freshrooms_k73_shapes_let_by
set_option Elab.async false
set_option linter.all false
set_option maxRecDepth 100000
namespace L2
open PySem PySem.Spec PyProof.Rows
noncomputable abbrev Key:=Sum Int Str
noncomputable def keyIs:Key->Value->Bool
 | .inl k,v=>Value.isInt k v
 | .inr x,v=>Value.isStrOf x v
noncomputable def keyH (w:World):Key->Int
 | .inl k=>hashInt k
 | .inr x=>hashStr w x
theorem keyIs_shape:∀ {k} {v},keyIs k v=true->(∃ i t,k=Sum.inl i/\v=Value.int i t)\/(∃ x t,k=Sum.inr x/\v=Value.str x t)
 | .inl i,v,h=>by
  obtain ⟨t,e⟩:=Value.isInt_shape h
  exact .inl ⟨i,t,rfl,e⟩
 | .inr x,v,h=>by
  obtain ⟨t,e⟩:=Value.isStrOf_shape h
  exact .inr ⟨x,t,rfl,e⟩
theorem key_ll (a b):decide ((Sum.inl a:Key)=Sum.inl b)=(a == b):=by
 by_cases e:a=b
 ·subst e;simp
 ·grind
theorem key_rr (a b):decide ((Sum.inr a:Key)=Sum.inr b)=decide (a=b):=by
 by_cases e:a=b
 ·subst e;simp
 ·grind
theorem key_lr a b:decide ((Sum.inl a:Key)=Sum.inr b)=false:=decide_eq_false (fun q=>nomatch q)
theorem key_rl a b:decide ((Sum.inr a:Key)=Sum.inl b)=false:=decide_eq_false (fun q=>nomatch q)
noncomputable def mixKind (prog:Program) (w:World):PySem.KeyKind prog w Key where
 is:=keyIs
 hash:=keyH w
 inj:=fun v a b ha hb=>by
  rcases keyIs_shape ha with ⟨i,t,rfl,rfl⟩ | ⟨x,t,rfl,rfl⟩
  ·rcases keyIs_shape hb with ⟨j,u,rfl,e⟩ | ⟨y,u,rfl,e⟩
   ·injection e with e1 _;rw [e1]
   ·exact nomatch e
  ·rcases keyIs_shape hb with ⟨j,u,rfl,e⟩ | ⟨y,u,rfl,e⟩
   ·exact nomatch e
   ·injection e with e1 _;rw [e1]
 byValue:=fun k v h=>by
  rcases keyIs_shape h with ⟨i,t,rfl,rfl⟩ | ⟨x,t,rfl,rfl⟩<;>rfl
 pyHash:=fun hv h=>by
  rcases keyIs_shape hv with ⟨i,t,rfl,rfl⟩ | ⟨x,t,rfl,rfl⟩
  ·exact wpAny_pyHash_int h
  ·exact wpAny_pyHash_str h
 eqBool:=fun hu hv h=>by
  rcases keyIs_shape hu with ⟨i,t,rfl,rfl⟩ | ⟨x,t,rfl,rfl⟩
  ·rcases keyIs_shape hv with ⟨j,u,rfl,rfl⟩ | ⟨y,u,rfl,rfl⟩
   ·rw [key_ll] at h;exact wpAny_eqBool_int h
   ·rw [key_lr] at h;exact SeqAt.EqAt.int_str i t y u _ _ _ _ h
  ·rcases keyIs_shape hv with ⟨j,u,rfl,rfl⟩ | ⟨y,u,rfl,rfl⟩
   ·rw [key_rl] at h;exact SeqAt.EqAt.str_int x t j u _ _ _ _ h
   ·rw [key_rr] at h;exact wpAny_eqBool_str h
 «strs»:=fun k x t v h=>by
  rcases keyIs_shape h with ⟨i,u,rfl,e⟩ | ⟨y,u,rfl,e⟩
  ·exact nomatch e
  ·injection e with e1 _
   subst e1
   cases v<;>rfl
end L2
namespace L2
open PySem PySem.Spec PyProof.Rows
inductive V where
 | non | bl (b:Bool) | int (i:Int) | str (x:Str) | byt (b:Array UInt8) | flt (b:UInt64) | ref (a:Addr) | ty (n:String)
 deriving DecidableEq
noncomputable def RelV:V->Value->Prop
 | .non,u=>u=Value.none
 | .bl b,u=>u=Value.bool b
 | .int i,u=>∃ t,u=Value.int i t
 | .str x,u=>∃ t,u=Value.str x t
 | .byt b,u=>∃ t,u=Value.bytes b t
 | .flt b,u=>∃ t,u=Value.float b t
 | .ref a,u=>u=Value.ref a
 | .ty n,u=>u=Value.type n
noncomputable abbrev Vals:List V->List Value->Prop:=Paired RelV
theorem Vals.length {xs} {us} (r:Vals xs us):xs.length=us.length:=Paired.length r
theorem Vals.get:∀ {xs} {us} {i:Nat} {x},Vals xs us->xs[i]?=some x->∃ u,us[i]?=some u/\RelV x u
 | _,_,_,_,.nil,e=>by simp at e
 | _,_,0,_,.cons r _,e=>by simp at e;subst e;exact ⟨_,rfl,r⟩
 | _,_,i + 1,x,.cons _ t,e=>by
  obtain ⟨u,h1,h2⟩:=Vals.get t (by simpa using e)
  exact ⟨u,by simpa using h1,h2⟩
theorem Vals.set {x} {u} (r:RelV x u):∀ {xs} {us} (i),Vals xs us->Vals (xs.set i x) (us.set i u)
 | _,_,_,.nil=>.nil
 | _,_,0,.cons _ t=>.cons r t
 | _,_,i + 1,.cons q t=>.cons q (Vals.set r i t)
theorem Vals.append:∀ {xs ys} {us ws},Vals xs us->Vals ys ws->Vals (xs++ys) (us++ws)
 | _,_,_,_,.nil,s=>s
 | _,_,_,_,.cons r t,s=>.cons r (Vals.append t s)
theorem Vals.take:∀ {xs} {us} (n),Vals xs us->Vals (xs.take n) (us.take n)
 | _,_,0,_=>.nil
 | _,_,_ + 1,.nil=>.nil
 | _,_,n + 1,.cons r t=>.cons r (Vals.take n t)
theorem Vals.drop:∀ {xs} {us} (n),Vals xs us->Vals (xs.drop n) (us.drop n)
 | _,_,0,r=>r
 | _,_,_ + 1,.nil=>.nil
 | _,_,n + 1,.cons _ t=>Vals.drop n t
noncomputable def RelO:Option V->Option Value->Prop
 | some v,some u=>RelV v u
 | none,none=>True
 | _,_=>False
noncomputable def KV {κ:Type}:List (κ×V)->List (κ×Value)->Prop:=Paired fun (p:κ×V) (q:κ×Value)=>p.1=q.1/\RelV p.2 q.2
noncomputable def kV:Key->V
 | .inl i=>.int i
 | .inr x=>.str x
inductive HO where
 | lst (xs:List V)
 | tup (xs:List V)
 | dK (kvs:List (Key×V)) | dT (kvs:List (List Key×V))
 | set (S:Int->Bool) (n:Nat)
 | ins (C dx:Addr) (fs:List (Str×V))
 | own (x:Addr)
 | xd (fs:List (Str×V))
 | met (f x:Addr)
 | rng (lo hi:Int)
 | frz (o:Obj) (u:HO)
 | tbl (ps:Array Value)
 | ext (φ:World->Heap->Prop)
noncomputable abbrev Hp:=Addr->Option HO
noncomputable def IsTupD (h:Heap) (a:Addr) (items:Array Value):Prop:=∃ o,h.get? a=some o/\o.cls=.type "tuple"/\o.dict=none/\∃ n,o.data=.seq items n
theorem IsTupD.tup {h} {a} {items} (p:IsTupD h a items):IsTup h a items:=by
 obtain ⟨o,e,c,_,n,d⟩:=p;exact ⟨o,e,c,n,d⟩
theorem IsTupD.new (h:Heap) xs:IsTupD (h.push { cls:=.type "tuple",data:=.seq xs }) h.objs.size xs:=⟨_,Heap.get?_push_size _ rfl,rfl,rfl,0,rfl⟩
noncomputable def upd (H:Hp) (a:Addr) (o:HO):Hp:=fun b=>if b=a then some o else H b
theorem upd_same {H} {a} {o}:upd H a o a=some o:=by unfold upd;rw [if_pos rfl]
theorem upd_ne {H} {a b} {o} (h:b≠a):upd H a o b=H b:=by unfold upd;rw [if_neg h]
theorem ne_of_none {H:Hp} {a b} {o} (h:H a=some o) (h':H b=none):a≠b:=by
 grind
section
variable (P:Program) (w:World)
noncomputable def ObjOk (H : Hp) (h : Heap) (a : Addr) : HO → Prop
  | .lst xs => xs.length ≤ sizeLine ∧ ∃ (its : List Value) (n : Nat), Vals xs its ∧ h.get? a = some { cls := .type "list", data := .seq its.toArray n }
  | .tup xs => xs.length ≤ sizeLine ∧ ∃ its : List Value, Vals xs its ∧ IsTupD h a its.toArray
  | .dK kvs => kvs.length ≤ sizeLine ∧ (a == sysModules) = false ∧ ∃ vs, KV kvs vs ∧ h.DictOf (mixKind P w) a vs
  | .dT kvs => kvs.length ≤ sizeLine ∧ (a == sysModules) = false ∧ ∃ xs : List (List Key × Addr × Value),
      Paired (fun (p : List Key × V) (q : List Key × Addr × Value) => p.1 = q.1 ∧ H q.2.1 = some (.tup (p.1.map kV)) ∧ RelV p.2 q.2.2) kvs xs ∧
      ∃ o es ep, h.get? a = some o ∧ o.ExactDict ∧ o.data = .dict es ep ∧ es.toList = xs.map (entryOfKey (tupleKind (mixKind P w))) ∧ (xs.map (·.1)).Nodup
  | .set S n => h.SetOf (intKind P w) a S n
  | .ins C dx fs => H dx = some (.own a) ∧ fs.length ≤ 1000 ∧ dx ≠ a ∧ h.get? a = some (PySem.W.instObj C dx) ∧
      ∃ mA, h.Ns1 dx mA ∧ (∀ f, RelO (fs.lookup f) (mA f)) ∧ PySem.Within mA (fs.map (·.1))
  | .own _ => ∃ o, h.get? a = some o
  | .xd fs => ∃ mA, h.Ns1 a mA ∧ ∀ f, RelO (fs.lookup f) (mA f)
  | .rng lo hi => ∃ t u v, h.get? a = some { cls := .type "range", data := .fields #[.int lo t, .int hi u, .int 1 v] }
  | .frz o u => h.get? a = some o ∧ ObjOk H h a u
  | .tbl ps => h.get? a = some { cls := .none, data := .fields ps }
  | .met f x => h.get? a = some (PySem.W.methodObj (.ref f) (.ref x))
  | .ext φ => φ w h ∧ (∃ o, h.get? a = some o) ∧ ∀ h1 h2 : Heap, φ w h1 → (∀ o, h1.get? a = some o → h2.get? a = some o) → φ w h2
noncomputable def HOk (H:Hp) (h:Heap):Prop:=∀ a o,H a=some o->ObjOk P w H h a o
end
section
variable {P:Program} {w:World} {H H':Hp} {h h':Heap} {a:Addr} {o:HO}
theorem ObjOk.lt (x:ObjOk P w H h a o):a < h.objs.size:=by
 cases o with
 | lst xs=>obtain ⟨_,_,_,_,e⟩:=x;exact Heap.lt_size e
 | tup xs=>obtain ⟨_,_,_,p⟩:=x;exact p.tup.lt
 | dK kvs=>obtain ⟨_,_,_,_,o,_,_,e,_⟩:=x;exact Heap.lt_size e
 | dT kvs=>obtain ⟨_,_,_,_,o,_,_,e,_⟩:=x;exact Heap.lt_size e
 | set S n=>obtain ⟨o,_,_,_,e,_⟩:=x;exact Heap.lt_size e
 | ins C dx fs=>obtain ⟨_,_,_,e,_⟩:=x;exact Heap.lt_size e
 | own y=>obtain ⟨_,e⟩:=x;exact Heap.lt_size e
 | xd fs=>obtain ⟨_,⟨_,_,_,e,_⟩,_⟩:=x;exact Heap.lt_size e
 | rng lo hi=>obtain ⟨_,_,_,e⟩:=x;exact Heap.lt_size e
 | frz ob u=>obtain ⟨e,_⟩:=x;exact Heap.lt_size e
 | tbl ps=>exact Heap.lt_size (x)
 | met f y=>exact Heap.lt_size (x)
 | ext φ=>obtain ⟨_,⟨_,e⟩,_⟩:=x;exact Heap.lt_size e
theorem Paired.mapP {α β} {F G}:∀ {l₁:List α} {l₂:List β},Paired F l₁ l₂->(∀ a b,F a b->G a b)->Paired G l₁ l₂
 | _,_,.nil,_=>.nil
 | _,_,.cons r t,f=>.cons (f _ _ r) (Paired.mapP t f)
theorem ObjOk.stay (x:ObjOk P w H h a o) (k:∀ b u,(b=a\/H b=some (.own a))->h.get? b=some u->h'.get? b=some u)
  (ho:∀ b,H b=some (.own a)->H' b=some (.own a)) (ht:∀ b xs,H b=some (.tup xs)->H' b=some (.tup xs)):ObjOk P w H' h' a o:=by
 induction o with
 | lst xs=>obtain ⟨z,its,n,r,e⟩:=x;exact ⟨z,its,n,r,k _ _ (.inl rfl) e⟩
 | tup xs=>obtain ⟨z,its,r,ob,e,c⟩:=x;exact ⟨z,its,r,ob,k _ _ (.inl rfl) e,c⟩
 | dK kvs=>obtain ⟨z,y,vs,r,ob,es,ep,e,c⟩:=x;exact ⟨z,y,vs,r,ob,es,ep,k _ _ (.inl rfl) e,c⟩
 | dT kvs =>
  obtain ⟨z,y,xs,r,ob,es,ep,e,c⟩:=x
  exact ⟨z,y,xs,Paired.mapP r fun p q z=>⟨z.1,ht _ _ z.2.1,z.2.2⟩,ob,es,ep,k _ _ (.inl rfl) e,c⟩
 | set S n=>obtain ⟨ob,es,ep,t,e,c⟩:=x;exact ⟨ob,es,ep,t,k _ _ (.inl rfl) e,c⟩
 | ins C dx fs =>
  obtain ⟨d,z,ne,e,mA,⟨od,es,ep,e2,c⟩,r⟩:=x
  exact ⟨ho _ d,z,ne,k _ _ (.inl rfl) e,mA,⟨od,es,ep,k _ _ (.inr d) e2,c⟩,r⟩
 | own y=>obtain ⟨ob,e⟩:=x;exact ⟨ob,k _ _ (.inl rfl) e⟩
 | xd fs=>obtain ⟨mA,⟨od,es,ep,e,c⟩,r⟩:=x;exact ⟨mA,⟨od,es,ep,k _ _ (.inl rfl) e,c⟩,r⟩
 | rng lo hi=>obtain ⟨t,u,v,e⟩:=x;exact ⟨t,u,v,k _ _ (.inl rfl) e⟩
 | frz ob u ih=>obtain ⟨e,q⟩:=x;exact ⟨k _ _ (.inl rfl) e,ih q⟩
 | tbl ps =>
  have e:h.get? a=some { cls:=.none,data:=.fields ps }:=x
  exact k a _ (.inl rfl) e
 | met f y =>
  have e:=x
  exact k a _ (.inl rfl) e
 | ext φ=>obtain ⟨p,⟨o,e⟩,st⟩:=x;exact ⟨st _ _ p fun o q=>k _ _ (.inl rfl) q,⟨o,k _ _ (.inl rfl) e⟩,st⟩
theorem HOk.lt (x:HOk P w H h) (e:H a=some o):a < h.objs.size:=(x a o e).lt
theorem HOk.fresh (x:HOk P w H h) (e:h.objs.size<=a):H a=none:=by
 cases q:H a with
 | none=>rfl
 | some u=>exact absurd (Nat.lt_of_lt_of_le (x.lt q) e) (Nat.lt_irrefl _)
theorem HOk.kept (x:HOk P w H h) (k:∀ b u,h.get? b=some u->h'.get? b=some u):HOk P w H h':=fun a o e =>
 (x a o e).stay (fun b u _ q=>k b u q) (fun _ q=>q) fun _ _ q=>q
theorem HOk.laid (x:HOk P w H h) (k:∀ b u,h.get? b=some u->h'.get? b=some u) (hp:h.objs.size<=a) (new:ObjOk P w (upd H a o) h' a o):HOk P w (upd H a o) h':=fun b u e=>by
 have hn:=x.fresh hp
 by_cases hb:b=a
 ·subst hb;rw [upd_same] at e;cases e;exact new
 ·rw [upd_ne hb] at e
  exact (x b u e).stay (fun c v _ q=>k c v q) (fun c q=>by rw [upd_ne (ne_of_none q hn)];exact q) fun c xs q=>by rw [upd_ne (ne_of_none q hn)];exact q
end
noncomputable def Rd (H:Hp) (a:Addr) (u:HO):Prop:=H a=some u\/∃ o,H a=some (.frz o u)
theorem Rd.ok {P} {w} {H} {h} {a} {u} (r:Rd H a u) (x:HOk P w H h):ObjOk P w H h a u:=by
 rcases r with r | ⟨o,r⟩
 ·exact x a u r
 ·obtain ⟨_,q⟩:=x a _ r
  exact q
noncomputable def Mut:Option HO->Prop
 | some (.lst _)=>True
 | some (.dK _)=>True
 | some (.dT _)=>True
 | some (.set _ _)=>True
 | some (.ins _ _ _)=>True
 | some (.ext _)=>True
 | _=>False
section
variable {P:Program} {w:World} {H:Hp} {h h':Heap} {x e:Addr} {o':HO}
theorem HOk.write (ok:HOk P w H h) (mu:Mut (H x)) (he:e=x\/H e=some (.own x)) (k:∀ b u,b≠e->h.get? b=some u->h'.get? b=some u) (heo:∃ u,h'.get? e=some u)
  (new:ObjOk P w (upd H x o') h' x o'):HOk P w (upd H x o') h':=fun b u q=>by
 have nown:∀ c y,H c=some (.own y)->c≠x:=fun c y r z=>by subst z;rw [r] at mu;exact mu
 have ntup:∀ c xs,H c=some (.tup xs)->c≠x:=fun c xs r z=>by subst z;rw [r] at mu;exact mu
 by_cases hb:b=x
 ·subst hb;rw [upd_same] at q;cases q;exact new
 ·rw [upd_ne hb] at q
  by_cases hbe:b=e
  ·have q':H b=some (.own x):=by
    rcases he with z | z
    ·exact absurd (hbe.trans z) hb
    ·rw [hbe];exact z
   rw [q] at q';cases q'
   obtain ⟨v,hv⟩:=heo
   exact ⟨v,by rw [hbe];exact hv⟩
  ·refine (ok b u q).stay (fun c v hc r=>k c v ?_ r) (fun c r=>by rw [upd_ne (nown c b r)];exact r) fun c xs r=>by rw [upd_ne (ntup c xs r)];exact r
   rcases hc with rfl | hc
   ·exact hbe
   ·grind
end
structure Un (fs ex:List Addr) (H H':Hp) (h h':Heap):Prop where
 keep:∀ b o,h.get? b=some o->H b=none->b∉fs->b∉ex->h'.get? b=some o
 slot:∀ b o,h.get? b=some o->H b=none->b∈fs->b∉ex->∃ sl,h'.get? b=some { o with slots:=sl }
 free:∀ b o,h.get? b=some o->H b=none->b∉ex->H' b=none
 there:∀ b o,h.get? b=some o->b∉ex->∃ o',h'.get? b=some o'
 tups:∀ b xs,H b=some (.tup xs)->H' b=some (.tup xs)
 frzs:∀ b o u,H b=some (.frz o u)->H' b=some (.frz o u)
 tbls:∀ b ps,H b=some (.tbl ps)->∃ more,H' b=some (.tbl (ps++more))
section
variable {fs fs' ex ex':List Addr} {H H1 H2:Hp} {h h1 h2 h':Heap} {a x e:Addr} {o:HO}
theorem Un.any (u:Un fs ex H H1 h h1) {b} {ob} (q:h.get? b=some ob) (n:H b=none) (hx:b∉ex):∃ sl,h1.get? b=some { ob with slots:=sl }:=by
 by_cases hb:b∈fs
 ·exact u.slot b ob q n hb hx
 ·exact ⟨ob.slots,u.keep b ob q n hb hx⟩
theorem Un.kept (k:∀ b u,h.get? b=some u->h'.get? b=some u):Un fs ex H H h h' :=
 ⟨fun b ob q _ _ _=>k b ob q,fun b ob q _ _ _=>⟨ob.slots,k b ob q⟩,fun _ _ _ n _=>n,fun b ob q _=>⟨ob,k b ob q⟩,fun _ _ q=>q,fun _ _ _ q=>q,fun _ ps q=>⟨#[],by rw [q];simp⟩⟩
theorem Un.refl:Un fs ex H H h h:=Un.kept fun _ _ q=>q
theorem Un.laid (k:∀ b u,h.get? b=some u->h'.get? b=some u) (hp:h.objs.size<=a) (hn:H a=none):Un fs ex H (upd H a o) h h' where
 keep:=fun b u q _ _ _=>k b u q
 slot:=fun b u q _ _ _=>⟨u.slots,k b u q⟩
 free:=fun b u q n _=>by rw [upd_ne (Nat.ne_of_lt (Nat.lt_of_lt_of_le (Heap.lt_size q) hp))];exact n
 there:=fun b u q _=>⟨u,k b u q⟩
 tups:=fun b xs q=>by rw [upd_ne (ne_of_none q hn)];exact q
 frzs:=fun b u xs q=>by rw [upd_ne (ne_of_none q hn)];exact q
 tbls:=fun b ps q=>⟨#[],by rw [upd_ne (ne_of_none q hn),q];simp⟩
theorem Un.write (mu:Mut (H x)) (he:e=x\/H e=some (.own x)) (k:∀ b u,b≠e->h.get? b=some u->h'.get? b=some u) (heo:∃ u,h'.get? e=some u):Un fs ex H (upd H x o) h h':=by
 have hx:∀ b,H b=none->b≠x:=fun b n z=>by subst z;rw [n] at mu;exact mu
 have hb:∀ b,H b=none->b≠e:=fun b n z=>by
  subst z
  rcases he with r | r
  ·exact hx b n r
  ·grind
 have hm:∀ b u,H b=some u->¬ Mut (some u)->b≠x:=fun b u q nm z=>by subst z;rw [q] at mu;exact nm mu
 refine ⟨fun b u q n _ _=>k b u (hb b n) q,fun b u q n _ _=>⟨u.slots,k b u (hb b n) q⟩,fun b u q n _=>by rw [upd_ne (hx b n)];exact n,fun b u q _=>?_,
  fun b xs q=>by rw [upd_ne (hm b _ q fun z=>z)];exact q,fun b u xs q=>by rw [upd_ne (hm b _ q fun z=>z)];exact q,fun b ps q=>⟨#[],by rw [upd_ne (hm b _ q fun z=>z),q];simp⟩⟩
 by_cases hbe:b=e
 ·grind
 ·exact ⟨u,k b u hbe q⟩
end
noncomputable def trk (h:Heap) (H:Hp):List Addr:=(List.range h.objs.size).filter fun a=>(H a).isSome
noncomputable def hidT (h:Heap) (H:Hp):Heap:=PySem.W.hideAll h (trk h H)
theorem hidT_size h H:(hidT h H).objs.size=h.objs.size:=PySem.W.hideAll_size _ _
theorem hidT_get {h} {H} {b} {o} (e:h.get? b=some o) (n:H b=none):(hidT h H).get? b=some o :=
 PySem.W.hideAll_get _ e fun hm=>by
  have q:=(List.mem_filter.mp hm).2
  rw [n] at q;simp at q
theorem of_hidT {h} {H} {b} {o} (e:(hidT h H).get? b=some o):h.get? b=some o/\H b=none:=by
 have e':=PySem.W.of_hideAll _ e
 refine ⟨e',?_⟩
 cases q:H b with
 | none=>rfl
 | some x =>
  have hm:b∈trk h H:=List.mem_filter.mpr ⟨List.mem_range.mpr (Heap.lt_size e'),by simp [q]⟩
  have z:(hidT h H).get? b=none:=PySem.W.hideAll_none _ hm
  grind
end L2
namespace L2
open PySem PySem.Spec PyProof.Rows
structure Mod (K:PySem.W.Frag) (mg:Str->Option Value) (base:Heap):Prop where
 kin:K.In base
 glob:base.Ns mainGlobals mg
 blt:∃ mb,base.Ns builtinsNs mb/\∀ x:Str,x≠"__name__"->mb x=bootBuiltins x
 nolimit:base.NoLimit
structure Cx where
 prog:Program
 w:World
 K:PySem.W.Frag
 mg:Str->Option Value
 base:Heap
 A:Around
 N:List Str
 s₀:Shared
 H₀:Hp
 env:Env
 outer:List Env
 stack:List Env
 ex:List Addr
 fn:Str->Bool
 calm:Bool
 pn:List (Addr×Obj)
 xe:Value->Shared->Prop
noncomputable def frs (l:List Env):List Addr:=l.filterMap (·.frame)
noncomputable abbrev Cx.fs (X:Cx):List Addr:=frs X.outer
noncomputable def Vis (sc:Scope) (x:Str):Prop:=sc.names.lookup x=some .local\/sc.names.lookup x=some .cell\/sc.names.lookup x=some .free
noncomputable def Loc (sc:Scope) (x:Str):Prop:=sc.names.lookup x=some .local\/sc.names.lookup x=some .cell
noncomputable def Look (env:Env) (h:Heap) (m:Str->Option Value) (x:Str) (u:Value):Prop :=
 (env.kindOf x=some .local/\m x=some u)\/((env.kindOf x=some .cell\/env.kindOf x=some .free)/\∃ c,env.cells.lookup x=some c/\h.IsCell c (some u))
structure Cx.Ok (X:Cx):Prop where
 mod:Mod X.K X.mg X.base
 kind:X.env.scope.kind=.function
 glob:X.env.globals=mainGlobals
 blt:X.env.builtins=builtinsNs
 above:X.s₀.heap.objs.size<=X.env.locals
 inj:∀ x y c,X.env.cells.lookup x=some c->X.env.cells.lookup y=some c->x=y
 has:∀ x,(X.env.kindOf x=some .cell\/X.env.kindOf x=some .free)->∃ c,X.env.cells.lookup x=some c
 cab:∀ x c,X.fn x=true->X.env.cells.lookup x=some c->X.s₀.heap.objs.size<=c
 hd:X.calm=true->X.A.handled=none
 frames:X.A.frames=some X.stack
 stk:X.stack=X.outer\/(X.stack=X.env :: X.outer/\X.env.frame=some X.env.locals)
 exf:∀ b∈X.ex,b≠X.env.locals/\∀ x c,X.env.cells.lookup x=some c->c≠b
 bs:∀ b o,X.base.get? b=some o->X.s₀.heap.get? b=some o/\X.H₀ b=none
 bsz:X.base.objs.size<=X.s₀.heap.objs.size
 noex:∀ b o,X.base.get? b=some o->b∉X.ex
 exfs:∀ b∈X.ex,b∉X.fs
 funs:X.s₀.heap.FunFrames X.base X.outer
 frf:∀ b∈X.fs,X.H₀ b=none
structure Inv (X:Cx) (pins:List (Addr×Obj)) (σ:List (Option V)) (H:Hp) (s:Shared):Prop where
 ok:X.Ok
 os:s.os=X.s₀.os
 bare:AllBare s.gens
 base:Un X.fs X.ex X.H₀ H X.s₀.heap s.heap
 loc:∃ m,s.heap.Ns X.env.locals m/\∀ (i:Nat) (x:Str) (v:V),X.N[i]?=some x->σ[i]?=some (some v)->Vis X.env.scope x->∃ u,RelV v u/\Look X.env s.heap m x u
 cell:∀ x c,X.env.cells.lookup x=some c->∃ v,s.heap.IsCell c v
 free:H X.env.locals=none
 freeC:∀ x c,X.env.cells.lookup x=some c->H c=none
 pin:∀ p∈X.pn++pins,s.heap.get? p.1=some p.2/\H p.1=none/\p.1≠X.env.locals/\p.1∉X.fs/\∀ v,p.2.data≠.cell v
 hok:HOk X.prog X.w H s.heap
 len:σ.length=X.N.length
section
variable {X:Cx} {pins:List (Addr×Obj)} {σ:List (Option V)} {H H':Hp} {s:Shared} {h':Heap}
theorem Cx.Ok.nofr (ok:X.Ok) {b} {o} (e:X.base.get? b=some o):b∉X.fs:=fun hb=>by
 have:=(ok.funs.mem hb).1
 grind
theorem Inv.bs (I:Inv X pins σ H s):∀ b o,X.base.get? b=some o->s.heap.get? b=some o/\H b=none:=fun b o e =>
 ⟨I.base.keep b o (I.ok.bs b o e).1 (I.ok.bs b o e).2 (I.ok.nofr e) (I.ok.noex b o e),I.base.free b o (I.ok.bs b o e).1 (I.ok.bs b o e).2 (I.ok.noex b o e)⟩
theorem Inv.bk (I:Inv X pins σ H s):∀ b o,X.base.get? b=some o->s.heap.get? b=some o:=fun b o e=>(I.bs b o e).1
theorem Inv.mod (I:Inv X pins σ H s):Mod X.K X.mg X.base:=I.ok.mod
theorem Inv.kIn (I:Inv X pins σ H s):X.K.In s.heap:=I.ok.mod.kin.keeps I.bk
theorem Inv.lt (I:Inv X pins σ H s):X.env.locals < s.heap.objs.size:=let ⟨_,hn,_⟩:=I.loc;hn.lt
theorem Inv.sz (I:Inv X pins σ H s):X.s₀.heap.objs.size<=s.heap.objs.size:=Nat.le_trans I.ok.above (Nat.le_of_lt I.lt)
theorem Inv.nofs (I:Inv X pins σ H s) {a:Addr} (h:s.heap.objs.size<=a):a∉X.fs:=fun hb=>by
 obtain ⟨_,o,ho,_⟩:=I.ok.funs.mem hb
 exact absurd (Nat.lt_of_lt_of_le (Heap.lt_size ho) (Nat.le_trans I.sz h)) (Nat.lt_irrefl _)
theorem Inv.cne (I:Inv X pins σ H s):∀ x c,X.env.cells.lookup x=some c->c≠X.env.locals:=fun x c e z=>by
 obtain ⟨v,o,ho,hd⟩:=I.cell x c e
 obtain ⟨m,⟨o',es,ep,ho',hd',_⟩,_⟩:=I.loc
 grind
theorem Inv.funs (I:Inv X pins σ H s):s.heap.FunFrames X.base X.outer:=by
 have all:∀ l,(∀ b∈frs l,b∈X.fs)->X.s₀.heap.FunFrames X.base l->s.heap.FunFrames X.base l:=by
  intro l
  induction l with
  | nil=>intro _ _;trivial
  | cons env r ih =>
   rintro hs ⟨hk,⟨L,o,hf,hn,ho,hd⟩,hr⟩
   have hL:=hs L (by unfold frs;rw [List.filterMap_cons,hf];exact List.mem_cons_self)
   obtain ⟨sl,e⟩:=I.base.slot L o ho (I.ok.frf L hL) hL fun z=>I.ok.exfs L z hL
   exact ⟨hk,⟨L,_,hf,hn,e,hd⟩,ih (fun b hb=>hs b (by unfold frs;rw [List.filterMap_cons,hf];exact List.mem_cons_of_mem _ hb)) hr⟩
 exact all X.outer (fun _ hb=>hb) I.ok.funs
theorem Inv.stack (I:Inv X pins σ H s):s.heap.FunFrames X.base X.stack:=by
 rcases I.ok.stk with e | ⟨e,hf⟩
 ·rw [e];exact I.funs
 ·rw [e]
  obtain ⟨m,hn,_⟩:=I.loc
  exact .cons (by rw [I.ok.kind];decide) hf hn (Heap.get?_none_of_le (Nat.le_trans I.ok.bsz I.ok.above)) I.funs
theorem Inv.stkSub (I:Inv X pins σ H s):∀ b∈frs X.stack,b∈X.env.locals :: X.fs:=fun b hb=>by
 rcases I.ok.stk with e | ⟨e,hf⟩
 ·rw [e] at hb;exact List.mem_cons_of_mem _ hb
 ·rw [e] at hb
  unfold frs at hb
  rw [List.filterMap_cons,hf] at hb
  exact hb
theorem Inv.stkFree (I:Inv X pins σ H s):∀ b∈frs X.stack,H b=none:=fun b hb=>by
 rcases List.mem_cons.mp (I.stkSub b hb) with e | hb
 ·rw [e];exact I.free
 ·obtain ⟨_,o,ho,_⟩:=I.ok.funs.mem hb
  exact I.base.free b o ho (I.ok.frf b hb) fun z=>I.ok.exfs b z hb
theorem Inv.step {g'} {t'} {d'} {ch:List Addr} (I:Inv X pins σ H s)
  (hch:∀ b∈ch,(b∈X.ex\/X.s₀.heap.objs.size<=b)/\b≠X.env.locals/\(∀ x c,X.env.cells.lookup x=some c->c≠b)/\∀ p∈X.pn++pins,p.1≠b)
  (keep:∀ b o,b≠X.env.locals->b∉X.fs->b∉ch->s.heap.get? b=some o->H b=none->h'.get? b=some o)
  (slot:∀ b o,b≠X.env.locals->b∈X.fs->b∉ch->s.heap.get? b=some o->H b=none->∃ sl,h'.get? b=some { o with slots:=sl }) (free:∀ b o,b∉ch->s.heap.get? b=some o->H b=none->H' b=none)
  (there:∀ b o,b∉ch->s.heap.get? b=some o->∃ o',h'.get? b=some o')
  (tups:∀ b xs,H b=some (.tup xs)->H' b=some (.tup xs)) (frzs:∀ b o u,H b=some (.frz o u)->H' b=some (.frz o u)) (tbls:∀ b ps,H b=some (.tbl ps)->∃ more,H' b=some (.tbl (ps++more)))
  (ns:∀ m,s.heap.Ns X.env.locals m->h'.Ns X.env.locals m) (hok:HOk X.prog X.w H' h') (hg:AllBare g') :
  Inv X pins σ H' { s with heap:=h',gens:=g',drawn:=d',toks:=t' }:=by
 have neL:∀ b o,X.s₀.heap.get? b=some o->b≠X.env.locals:=fun b o e=>Nat.ne_of_lt (Nat.lt_of_lt_of_le (Heap.lt_size e) I.ok.above)
 have neC:∀ b o,X.s₀.heap.get? b=some o->b∉X.ex->b∉ch:=fun b o e hx hb=>by
  rcases (hch b hb).1 with z | z
  ·exact hx z
  ·exact absurd (Nat.lt_of_lt_of_le (Heap.lt_size e) z) (Nat.lt_irrefl _)
 have cellK:∀ x c,X.env.cells.lookup x=some c->∀ v,s.heap.IsCell c v->h'.IsCell c v:=fun x c e v ⟨o,ho,hd⟩=>by
  have nch:=fun z=>(hch c z).2.2.1 x c e rfl
  by_cases hc:c∈X.fs
  ·obtain ⟨sl,q⟩:=slot c o (I.cne x c e) hc nch ho (I.freeC x c e)
   exact ⟨_,q,hd⟩
  ·exact ⟨o,keep c o (I.cne x c e) hc nch ho (I.freeC x c e),hd⟩
 refine ⟨I.ok,I.os,hg,⟨fun b o e n hb hx=>?_,fun b o e n hb hx=>?_,fun b o e n hx=>?_,fun b o e hx=>?_,fun b xs e=>tups b xs (I.base.tups b xs e),fun b o xs e=>frzs b o xs (I.base.frzs b o xs e),fun b ps e=>?_⟩,?_,fun x c e=>?_,?_,fun x c e=>?_,fun p hp=>?_,hok,I.len⟩
 ·exact keep b o (neL b o e) hb (neC b o e hx) (I.base.keep b o e n hb hx) (I.base.free b o e n hx)
 ·obtain ⟨sl,e1⟩:=I.base.slot b o e n hb hx
  obtain ⟨sl',e2⟩:=slot b _ (neL b o e) hb (neC b o e hx) e1 (I.base.free b o e n hx)
  exact ⟨sl',e2⟩
 ·obtain ⟨o',e1⟩:=I.base.there b o e hx
  exact free b o' (neC b o e hx) e1 (I.base.free b o e n hx)
 ·obtain ⟨o',e1⟩:=I.base.there b o e hx
  exact there b o' (neC b o e hx) e1
 ·obtain _:=I.base.tbls b ps e
  grind
 ·obtain ⟨m,hn,hl⟩:=I.loc
  refine ⟨m,ns m hn,fun i x v e1 e2 e3=>?_⟩
  obtain ⟨u,r,l⟩:=hl i x v e1 e2 e3
  refine ⟨u,r,?_⟩
  rcases l with l | ⟨k,c,e,z⟩
  ·exact .inl l
  ·exact .inr ⟨k,c,e,cellK x c e _ z⟩
 ·obtain ⟨v,z⟩:=I.cell x c e
  exact ⟨v,cellK x c e v z⟩
 ·obtain ⟨m,⟨o,_,_,ho,_⟩,_⟩:=I.loc
  exact free _ o (fun z=>(hch _ z).2.1 rfl) ho I.free
 ·obtain ⟨v,o,ho,hd⟩:=I.cell x c e
  exact free c o (fun z=>(hch c z).2.2.1 x c e rfl) ho (I.freeC x c e)
 ·obtain ⟨e,n,ne,nf,d⟩:=I.pin p hp
  have nch:=fun z=>(hch p.1 z).2.2.2 p hp rfl
  exact ⟨keep p.1 p.2 ne nf nch e n,free p.1 p.2 nch e n,ne,nf,d⟩
theorem Inv.un {t'} (I:Inv X pins σ H s) (u:Un X.fs [] H H' s.heap h') (hok:HOk X.prog X.w H' h'):Inv X pins σ H' { s with heap:=h',toks:=t' }:=by
 obtain ⟨m,⟨o,es,ep,ho,r⟩,_⟩:=id I.loc
 obtain ⟨sl,hL⟩:=u.any ho I.free (by simp)
 exact I.step (g':=s.gens) (d':=s.drawn) (ch:=[]) (fun _ z=>nomatch z) (fun b o _ hb _ e n=>u.keep b o e n hb (by simp)) (fun b o _ hb _ e n=>u.slot b o e n hb (by simp)) (fun b o _ e n=>u.free b o e n (by simp)) (fun b o _ e=>u.there b o e (by simp)) u.tups u.frzs u.tbls (fun m' hm=>by
  obtain ⟨o',es',ep',ho',r'⟩:=hm
  rw [ho] at ho';cases ho'
  exact ⟨_,es',ep',hL,r'⟩) hok I.bare
theorem Inv.call {g'} {t'} {d'} {ch} (I:Inv X pins σ H s) (u:Un (frs X.stack) ch H H' s.heap h') (hok:HOk X.prog X.w H' h') (hg:AllBare g')
  (hch:∀ b∈ch,(b∈X.ex\/X.s₀.heap.objs.size<=b)/\b≠X.env.locals/\(∀ x c,X.env.cells.lookup x=some c->c≠b)/\∀ p∈X.pn++pins,p.1≠b) :
  Inv X pins σ H' { s with heap:=h',gens:=g',drawn:=d',toks:=t' }:=by
 obtain ⟨m,⟨o,es,ep,ho,r⟩,_⟩:=id I.loc
 obtain ⟨sl,hL⟩:=u.any ho I.free fun z=>(hch _ z).2.1 rfl
 exact I.step hch (fun b o hL hb hc e n=>u.keep b o e n (fun z=>(List.mem_cons.mp (I.stkSub b z)).elim hL hb) hc) (fun b o _ _ hc e n=>u.any e n hc) (fun b o hc e n=>u.free b o e n hc) (fun b o hc e=>u.there b o e hc) u.tups u.frzs u.tbls (fun m' hm=>by
  obtain ⟨o',es',ep',ho',r'⟩:=hm
  rw [ho] at ho';cases ho'
  exact ⟨_,es',ep',hL,r'⟩) hok hg
theorem Inv.turned {t'} {it} (I:Inv X pins σ H s) (k:∀ b o,b≠it->s.heap.get? b=some o->h'.get? b=some o) (hn:H it=none) (hL:it≠X.env.locals)
  (h1:it∈X.ex\/X.s₀.heap.objs.size<=it) (h2:∀ x c,X.env.cells.lookup x=some c->c≠it) (h3:∀ p∈X.pn++pins,p.1≠it):Inv X pins σ H { s with heap:=h',toks:=t' }:=by
 have nit:∀ b u,H b=some u->b≠it:=fun b u e z=>by rw [z,hn] at e;cases e
 refine I.step (g':=s.gens) (d':=s.drawn) (ch:=[it]) (fun b hb=>?_) (fun b o _ _ hc e _=>k b o (fun z=>hc (by simp [z])) e) (fun b o _ _ hc e _=>⟨o.slots,k b o (fun z=>hc (by simp [z])) e⟩) (fun _ _ _ _ n=>n)
  (fun b o hc e=>⟨o,k b o (fun z=>hc (by simp [z])) e⟩) (fun _ _ e=>e) (fun _ _ _ e=>e) (fun b ps e=>⟨#[],by rw [e];simp⟩) (fun m hm=>?_) (fun b u e=>?_) I.bare
 ·have e:b=it:=by simpa using hb
  subst e
  exact ⟨h1,hL,h2,h3⟩
 ·obtain ⟨o,es,ep,ho,r⟩:=hm
  exact ⟨o,es,ep,k _ o (Ne.symm hL) ho,r⟩
 ·refine (I.hok b u e).stay (fun c v hc q=>k c v ?_ q) (fun _ q=>q) fun _ _ q=>q
  rcases hc with z | z
  ·rw [z];exact nit b u e
  ·exact nit c _ z
theorem Inv.tok (I:Inv X pins σ H s) t:Inv X pins σ H { s with toks:=t }:=I.un (h':=s.heap) (t':=t) Un.refl I.hok
theorem Inv.kept {t'} (I:Inv X pins σ H s) (k:∀ b u,s.heap.get? b=some u->h'.get? b=some u):Inv X pins σ H { s with heap:=h',toks:=t' }:=I.un (Un.kept k) (I.hok.kept k)
theorem Inv.laid {a:Addr} {o} {t'} (I:Inv X pins σ H s) (k:∀ b u,s.heap.get? b=some u->h'.get? b=some u) (hp:s.heap.objs.size<=a) (new:ObjOk X.prog X.w (upd H a o) h' a o) :
  Inv X pins σ (upd H a o) { s with heap:=h',toks:=t' }:=I.un (Un.laid k hp (I.hok.fresh hp)) (I.hok.laid k hp new)
theorem Inv.write {x e} {o} {t'} (I:Inv X pins σ H s) (mu:Mut (H x)) (he:e=x\/H e=some (.own x)) (k:∀ b u,b≠e->s.heap.get? b=some u->h'.get? b=some u) (heo:∃ u,h'.get? e=some u)
  (new:ObjOk X.prog X.w (upd H x o) h' x o):Inv X pins σ (upd H x o) { s with heap:=h',toks:=t' }:=I.un (Un.write mu he k heo) (I.hok.write mu he k heo new)
theorem Inv.pins_of {pins'} (I:Inv X pins σ H s) (h:∀ p∈pins',s.heap.get? p.1=some p.2/\H p.1=none/\p.1≠X.env.locals/\p.1∉X.fs/\∀ v,p.2.data≠.cell v):Inv X pins' σ H s :=
 ⟨I.ok,I.os,I.bare,I.base,I.loc,I.cell,I.free,I.freeC,fun p hp=>(List.mem_append.mp hp).elim (fun z=>I.pin p (List.mem_append_left _ z)) (h p),I.hok,I.len⟩
theorem nodup_ix {N:List Str} (hN:N.Nodup) {i j:Nat} {x} (a:N[i]?=some x) (b:N[j]?=some x):i=j:=by
 obtain ⟨h1,e1⟩:=List.getElem?_eq_some_iff.mp a
 obtain ⟨h2,e2⟩:=List.getElem?_eq_some_iff.mp b
 exact (List.getElem_inj hN).mp (e1.trans e2.symm)
theorem store_ok2 {M} {A} {E} {i} {x} {v} {u} {Q} (I:Inv X pins σ H s) (hN:X.N.Nodup) (hi:X.N[i]?=some x) (hx:Loc X.env.scope x) (r:RelV v u)
  (h:∀ s',Inv X pins (σ.set i (some v)) H s'->(∃ a,Heap.SameBut a s.heap s'.heap/\(a=X.env.locals\/X.env.cells.lookup x=some a))->Q () s') (hf:X.fn x=true\/X.env.scope.names.lookup x=some .local:=by first | exact .inl rfl | exact .inr rfl | assumption):wpAny M A (storeName X.env x u) Q E s:=by
 obtain ⟨m,hn,hl⟩:=id I.loc
 have hcls:(X.env.scope.kind == .class || (X.env.scope.kind == .module && X.env.locals != X.env.globals))=false:=by rw [I.ok.kind];rfl
 have hiσ:i < σ.length:=by rw [I.len];exact (List.getElem?_eq_some_iff.mp hi).1
 have cne:=I.cne
 have tracked:∀ {a} {h'},(∃ o,s.heap.get? a=some o/\H a=none)->Heap.SameBut a s.heap h'->HOk X.prog X.w H h':=fun {a h'} ha hs b ob e=>by
  refine (I.hok b ob e).stay (fun c w' hc q=>(hs.2 c ?_).trans q) (fun _ q=>q) fun _ _ q=>q
  rintro rfl
  rcases hc with rfl | hc
  ·grind
  ·grind
 rcases hx with hk | hk
 ·refine wpAny_storeName_local hk hn (fun h' hn' hs=>?_) hcls
  obtain ⟨oL,_,_,hoL,_⟩:=id hn
  refine h _ ⟨I.ok,I.os,I.bare,⟨fun b o e n hb hx=>?_,fun b o e n hb hx=>?_,I.base.free,fun b o e hx=>?_,I.base.tups,I.base.frzs,I.base.tbls⟩,⟨_,hn',fun j y v' e1 e2 e3=>?_⟩,fun y c e=>?_,I.free,I.freeC,fun p hp=>?_,tracked ⟨oL,hoL,I.free⟩ hs,by simpa using I.len⟩ ⟨_,hs,.inl rfl⟩
  ·exact (hs.2 b (Nat.ne_of_lt (Nat.lt_of_lt_of_le (Heap.lt_size e) I.ok.above))).trans (I.base.keep b o e n hb hx)
  ·obtain ⟨sl,e1⟩:=I.base.slot b o e n hb hx
   exact ⟨sl,(hs.2 b (Nat.ne_of_lt (Nat.lt_of_lt_of_le (Heap.lt_size e) I.ok.above))).trans e1⟩
  ·obtain ⟨o',e1⟩:=I.base.there b o e hx
   exact ⟨o',(hs.2 b (Nat.ne_of_lt (Nat.lt_of_lt_of_le (Heap.lt_size e) I.ok.above))).trans e1⟩
  ·by_cases hj:j=i
   ·subst hj
    rw [hi] at e1;cases e1
    rw [List.getElem?_set_self hiσ] at e2
    cases e2
    exact ⟨u,r,.inl ⟨hk,by simp⟩⟩
   ·rw [List.getElem?_set_ne (Ne.symm hj)] at e2
    obtain ⟨u',r',q⟩:=hl j y v' e1 e2 e3
    refine ⟨u',r',?_⟩
    rcases q with ⟨k,e⟩ | ⟨k,c,e,z⟩
    ·refine .inl ⟨k,?_⟩
     have:y≠x:=fun e=>hj (nodup_ix hN e1 (e▸hi))
     simp [this,e]
    ·exact .inr ⟨k,c,e,z.sameBut hs (cne y c e)⟩
  ·obtain ⟨w',z⟩:=I.cell y c e
   exact ⟨w',z.sameBut hs (cne y c e)⟩
  ·obtain ⟨e,n,ne,nf,d⟩:=I.pin p hp
   exact ⟨(hs.2 p.1 ne).trans e,n,ne,nf,d⟩
 ·have hfn:X.fn x=true:=by
   rcases hf with z | z
   ·exact z
   ·grind
  obtain ⟨c,hc⟩:=I.ok.has x (.inl hk)
  obtain ⟨w',z⟩:=I.cell x c hc
  refine wpAny_storeName_cell I.ok.kind hk hc z (fun h' hc' hs=>?_)
  obtain ⟨oc,hoc,hocd⟩:=id z
  refine h { s with heap:=h' } ⟨I.ok,I.os,I.bare,⟨fun b o e n hb hx=>?_,fun b o e n hb hx=>?_,I.base.free,fun b o e hx=>?_,I.base.tups,I.base.frzs,I.base.tbls⟩,⟨m,hn.sameBut hs (Ne.symm (cne x c hc)),fun j y v' e1 e2 e3=>?_⟩,fun y c' e=>?_,I.free,I.freeC,fun p hp=>?_,tracked ⟨oc,hoc,I.freeC x c hc⟩ hs,by simpa using I.len⟩ ⟨c,hs,.inr hc⟩
  ·exact (hs.2 b (Nat.ne_of_lt (Nat.lt_of_lt_of_le (Heap.lt_size e) (I.ok.cab x c hfn hc)))).trans (I.base.keep b o e n hb hx)
  ·obtain ⟨sl,e1⟩:=I.base.slot b o e n hb hx
   exact ⟨sl,(hs.2 b (Nat.ne_of_lt (Nat.lt_of_lt_of_le (Heap.lt_size e) (I.ok.cab x c hfn hc)))).trans e1⟩
  ·obtain ⟨o',e1⟩:=I.base.there b o e hx
   exact ⟨o',(hs.2 b (Nat.ne_of_lt (Nat.lt_of_lt_of_le (Heap.lt_size e) (I.ok.cab x c hfn hc)))).trans e1⟩
  ·by_cases hj:j=i
   ·subst hj
    rw [hi] at e1;cases e1
    rw [List.getElem?_set_self hiσ] at e2
    cases e2
    exact ⟨u,r,.inr ⟨.inl hk,c,hc,hc'⟩⟩
   ·rw [List.getElem?_set_ne (Ne.symm hj)] at e2
    obtain ⟨u',r',q⟩:=hl j y v' e1 e2 e3
    refine ⟨u',r',?_⟩
    rcases q with q | ⟨k,c',e,z'⟩
    ·exact .inl q
    ·refine .inr ⟨k,c',e,z'.sameBut hs ?_⟩
     rintro rfl
     exact hj (nodup_ix hN e1 (I.ok.inj _ _ _ e hc▸hi))
  ·by_cases hcc:c'=c
   ·subst hcc;exact ⟨_,hc'⟩
   ·obtain ⟨w2,z2⟩:=I.cell y c' e
    exact ⟨w2,z2.sameBut hs hcc⟩
  ·obtain ⟨e,n,ne,nf,d⟩:=I.pin p hp
   refine ⟨(hs.2 p.1 ?_).trans e,n,ne,nf,d⟩
   intro q
   rw [q,hoc] at e
   have q':oc=p.2:=Option.some.inj e
   exact d w' (q'▸hocd)
theorem store_ok {M} {A} {E} {i} {x} {v} {u} {Q} (I:Inv X pins σ H s) (hN:X.N.Nodup) (hi:X.N[i]?=some x) (hx:Loc X.env.scope x) (r:RelV v u)
  (h:∀ s',Inv X pins (σ.set i (some v)) H s'->Q () s') (hf:X.fn x=true\/X.env.scope.names.lookup x=some .local:=by first | exact .inl rfl | exact .inr rfl | assumption):wpAny M A (storeName X.env x u) Q E s :=
 store_ok2 I hN hi hx r (fun s' I' _=>h s' I') hf
theorem Inv.call' {s'} {ch} (I:Inv X pins σ H s) (ho:s'.os=s.os) (u:Un (frs X.stack) ch H H' s.heap s'.heap) (hok:HOk X.prog X.w H' s'.heap) (hg:AllBare s'.gens)
  (hch:∀ b∈ch,(b∈X.ex\/X.s₀.heap.objs.size<=b)/\b≠X.env.locals/\(∀ x c,X.env.cells.lookup x=some c->c≠b)/\∀ p∈X.pn++pins,p.1≠b):Inv X pins σ H' s':=by
 obtain ⟨h',g',d',t',o'⟩:=s'
 subst ho
 exact I.call (g':=g') (t':=t') (d':=d') u hok hg hch
end
noncomputable abbrev XK:=Value->Option Addr->Hp->Prop
noncomputable abbrev St:=List (Option V)
noncomputable abbrev VK:=V->Hp->Prop
noncomputable abbrev TE:=St->Hp->VK->Prop
noncomputable abbrev TT:=St->Hp->(Bool->Hp->Prop)->Prop
noncomputable abbrev TA:=St->Hp->(List V->Hp->Prop)->Prop
structure Ends where
 nx:St->Hp->Prop
 rt:VK
 bk:St->Hp->Prop:=fun _ _=>False
 ct:St->Hp->Prop:=fun _ _=>False
noncomputable abbrev TS:=Ends->St->Hp->Prop
noncomputable def EP (X:Cx) (pins:List (Addr×Obj)) (σ:St) (Q:VK) (u:Value) (s':Shared):Prop:=∃ v H',Inv X pins σ H' s'/\RelV v u/\Q v H'
noncomputable def TP (X:Cx) (pins:List (Addr×Obj)) (σ:St) (Q:Bool->Hp->Prop) (b:Bool) (s':Shared):Prop:=∃ H',Inv X pins σ H' s'/\Q b H'
noncomputable def AP (X:Cx) (pins:List (Addr×Obj)) (σ:St) (Q:List V->Hp->Prop) (us:List Value) (s':Shared):Prop:=∃ vs H',Inv X pins σ H' s'/\Vals vs us/\Q vs H'
noncomputable def SP (X:Cx) (pins:List (Addr×Obj)) (D:Ends) (f:Flow) (s':Shared):Prop :=
 match f with
 | .next=>∃ σ' H',Inv X pins σ' H' s'/\D.nx σ' H'
 | .brk=>∃ σ' H',Inv X pins σ' H' s'/\D.bk σ' H'
 | .cont=>∃ σ' H',Inv X pins σ' H' s'/\D.ct σ' H'
 | .ret u=>∃ v σ' H',Inv X pins σ' H' s'/\RelV v u/\D.rt v H'
noncomputable def PE (X:Cx) (e:Expr) (t:TE):Prop :=
 ∀ (pins:List (Addr×Obj)) (s:Shared) (σ:St) (H:Hp) (Q:VK),Inv X pins σ H s->t σ H Q->wpAny (model X.prog X.w) X.A (eval e X.env) (EP X pins σ Q) X.xe s
noncomputable def PT (X:Cx) (e:Expr) (t:TT):Prop :=
 ∀ (pins:List (Addr×Obj)) (s:Shared) (σ:St) (H:Hp) (Q:Bool->Hp->Prop),Inv X pins σ H s->t σ H Q->wpAny (model X.prog X.w) X.A (isTrue e X.env (eval e X.env)) (TP X pins σ Q) X.xe s
noncomputable def PW (X:Cx) (e:Expr) (t:TT):Prop :=
 ∀ (whole:Sem Value) (pins:List (Addr×Obj)) (s:Shared) (σ:St) (H:Hp) (Q:Bool->Hp->Prop),Inv X pins σ H s->t σ H Q->wpAny (model X.prog X.w) X.A (isTrue e X.env whole) (TP X pins σ Q) X.xe s
theorem PW.pt {X} {e} {t} (h:PW X e t):PT X e t:=h _
noncomputable def PA (X:Cx) (es:List Expr) (t:TA):Prop :=
 ∀ (pos:Pos) (pins:List (Addr×Obj)) (s:Shared) (σ:St) (H:Hp) (Q:List V->Hp->Prop),Inv X pins σ H s->t σ H Q->wpAny (model X.prog X.w) X.A (spliced (backTo pos (starEach es X.env))) (AP X pins σ Q) X.xe s
noncomputable def PS (X:Cx) (st:Stmt) (t:TS):Prop :=
 ∀ (pins:List (Addr×Obj)) (s:Shared) (σ:St) (H:Hp) (D:Ends),Inv X pins σ H s->t D σ H->wpAny (model X.prog X.w) X.A (exec st X.env) (SP X pins D) X.xe s
noncomputable def PSs (X:Cx) (st:List Stmt) (t:TS):Prop :=
 ∀ (pins:List (Addr×Obj)) (s:Shared) (σ:St) (H:Hp) (D:Ends),Inv X pins σ H s->t D σ H->wpAny (model X.prog X.w) X.A (execs st X.env) (SP X pins D) X.xe s
theorem thn {α} {t} {Q Q':α->Shared->Prop} {M} {A} {E} {s} (h:wpAny M A t Q E s) (hQ:∀ a s,Q a s->Q' a s):wpAny M A t Q' E s:=wpAny_mono h hQ fun _ _ x=>x
end L2
namespace L2
open PySem PySem.Spec PyProof.Rows
section
variable {X:Cx}
noncomputable abbrev tVar (i:Nat):TE:=fun σ H Q=>∃ v,σ[i]?=some (some v)/\Q v H
noncomputable abbrev tC (v:V):TE:=fun _ H Q=>Q v H
theorem pe_var {i} {x} {pos} (hN:X.N[i]?=some x) (hv:Vis X.env.scope x) (hd:(x == ("__debug__":Str))=false:=by decide) (hcd:(x == ("__classdict__":Str))=false:=by decide):PE X (.Name x pos) (tVar i):=by
 rintro pins s σ H Q I ⟨v,e,h⟩
 obtain ⟨m,hn,hl⟩:=I.loc
 obtain ⟨u,r,l⟩:=hl i x v hN e hv
 have fin:EP X pins σ Q u s:=⟨v,H,I,r,h⟩
 rcases l with ⟨hk,hm⟩ | ⟨hk,c,hc,hcell⟩
 ·exact wpAny_Name (wpAny_loadName_local I.ok.kind hk hn hm fin) hd
 ·rcases hk with hk | hk
  ·exact wpAny_Name (wpAny_loadName_cell I.ok.kind hk hc hcell fin) hd
  ·exact wpAny_Name (wpAny_loadName_free I.ok.kind hk hc hcell fin hcd) hd
theorem pe_int {i j pos}:PE X (.Constant (.int i) j pos) (tC (.int i)):=fun _ _ _ H _ I h=>wpAny_Constant_int ⟨.int i,H,I.tok _,⟨_,rfl⟩,h⟩
theorem pe_bl {b j pos}:PE X (.Constant (.bool b) j pos) (tC (.bl b)):=fun _ _ _ H _ I h=>Constant_bool ⟨.bl b,H,I,rfl,h⟩
theorem pe_non {j pos}:PE X (.Constant .none j pos) (tC .non):=fun _ _ _ H _ I h=>Constant_none ⟨.non,H,I,rfl,h⟩
theorem pe_str {x j pos}:PE X (.Constant (.str x) j pos) (tC (.str x)):=fun _ _ _ H _ I h=>Calls.Constant_str ⟨.str x,H,I.tok _,⟨_,rfl⟩,h⟩
noncomputable def Gl (X:Cx) (x:Str):Prop:=X.env.kindOf x=some .globalImplicit
theorem ld_glob {E} {pins} {s} {σ:St} {H} {x} {u} {pos} {Q} (I:Inv X pins σ H s) (hg:Gl X x) (hm:X.mg x=some u) (h:Q u s)
  (hd:(x == ("__debug__":Str))=false:=by decide):wpAny (model X.prog X.w) X.A (eval (.Name x pos) X.env) Q E s :=
 Calls.Name_function_global I.ok.kind hg (Calls.loadGlobal_global (I.ok.glob▸I.mod.glob.keeps I.bk) hm h) hd
theorem ld_blt {E} {pins} {s} {σ:St} {H} {x} {u} {pos} {Q} (I:Inv X pins σ H s) (hg:Gl X x) (hm:X.mg x=none) (hv:bootBuiltins x=some u) (h:Q u s)
  (hn:x≠"__name__":=by decide) (hd:(x == ("__debug__":Str))=false:=by decide):wpAny (model X.prog X.w) X.A (eval (.Name x pos) X.env) Q E s:=by
 obtain ⟨mb,h1,h2⟩:=I.mod.blt
 exact Calls.Name_function_global I.ok.kind hg (Calls.loadGlobal_builtin (I.ok.glob▸I.mod.glob.keeps I.bk) hm (I.ok.blt▸h1.keeps I.bk) ((h2 x hn).trans hv) h) hd
theorem pe_glob {x} {v} {u} {pos} (hg:Gl X x) (hm:X.mg x=some u) (r:RelV v u) (hd:(x == ("__debug__":Str))=false:=by decide):PE X (.Name x pos) (tC v) :=
 fun _ _ _ H _ I h=>ld_glob I hg hm ⟨v,H,I,r,h⟩ hd
theorem pe_bltn {x} {v} {u} {pos} (hg:Gl X x) (hm:X.mg x=none) (hv:bootBuiltins x=some u) (r:RelV v u) (hn:x≠"__name__":=by decide) (hd:(x == ("__debug__":Str))=false:=by decide):PE X (.Name x pos) (tC v) :=
 fun _ _ _ H _ I h=>ld_blt I hg hm hv ⟨v,H,I,r,h⟩ hn hd
variable {a b:Expr} {ta tb:TE} {pos:Pos}
variable {tA tB':TT} {rest:List Expr}
noncomputable abbrev tOr (t u:TT):TT:=fun σ H Q=>t σ H fun c H1=>if c=true then Q true H1 else u σ H1 Q
noncomputable abbrev tNot (t:TT):TT:=fun σ H Q=>t σ H fun c H1=>Q (!c) H1
theorem pw_or1 (ha:PT X a tA):PW X (.BoolOp .Or [a] pos) tA:=by
 intro wh pins s σ H Q I h
 refine isTrue_or (thn (ha pins s σ H Q I h) fun c s1 e=>?_)
 cases c with
 | false=>exact isTrue_or_nil e
 | true=>exact e
theorem pw_or (ha:PT X a tA) (hb:PW X (.BoolOp .Or (b :: rest) pos) tB'):PW X (.BoolOp .Or (a :: b :: rest) pos) (tOr tA tB'):=by
 intro wh pins s σ H Q I h
 refine isTrue_or (thn (ha pins s σ H _ I h) fun c s1 ⟨H1,I1,q1⟩=>?_)
 cases c with
 | true=>exact ⟨H1,I1,q1⟩
 | false=>exact hb wh pins s1 σ H1 Q I1 q1
theorem pt_not (ha:PT X a tA):PT X (.UnaryOp .Not a pos) (tNot tA):=by
 intro pins s σ H Q I h
 exact isTrue_not (ha pins s σ H _ I h)
noncomputable abbrev tAndV (ta tb:TE):TE:=fun σ H Q=>ta σ H fun x H1=>∃ c,x=.bl c/\if c=true then tb σ H1 Q else Q (.bl false) H1
theorem pe_one {op} {t} (h:PE X a t):PE X (.BoolOp op [a] pos) t:=fun pins s σ H Q I hw=>BoolOp_one (h pins s σ H Q I hw)
theorem pe_and (ha:PE X a ta) (hb:PE X (.BoolOp .And (b :: rest) pos) tb):PE X (.BoolOp .And (a :: b :: rest) pos) (tAndV ta tb):=by
 intro pins s σ H Q I h
 refine BoolOp_and (thn (ha pins s σ H _ I h) fun v s1 ⟨x,H1,I1,r1,q1⟩=>?_)
 obtain ⟨c,rfl,q1⟩:=q1
 cases r1
 refine wpAny_truthy_bool ?_
 cases c with
 | true=>exact hb pins s1 σ H1 Q I1 q1
 | false=>exact ⟨.bl false,H1,I1,rfl,q1⟩
noncomputable abbrev tIf (t:TT) (ta tb:TE):TE:=fun σ H Q=>t σ H fun c H1=>if c=true then ta σ H1 Q else tb σ H1 Q
theorem pe_ifExp {c} (hc:PT X c tA) (ha:PE X a ta) (hb:PE X b tb):PE X (.IfExp c a b pos) (tIf tA ta tb):=by
 intro pins s σ H Q I h
 refine wpAny_IfExp (thn (hc pins s σ H _ I h) fun d s1 ⟨H1,I1,q1⟩=>?_)
 cases d with
 | true=>exact ha pins s1 σ H1 Q I1 q1
 | false=>exact hb pins s1 σ H1 Q I1 q1
end
end L2
namespace L2
open PySem PySem.Spec PyProof.Rows
noncomputable def SqL (K:PySem.W.Frag) (H:Hp) (a:Addr) (xs:List V):Prop :=
 Rd H a (.lst xs) \/
  ∃ (o:Obj) (its:Array Value) (n:Nat),K.lookup a=some o/\o.cls=.type "list"/\o.dict=none/\o.data=.seq its n/\its.size<=sizeLine/\Vals xs its.toList
noncomputable def SqT (K:PySem.W.Frag) (H:Hp) (a:Addr) (xs:List V):Prop :=
 Rd H a (.tup xs) \/
  ∃ (o:Obj) (its:Array Value) (n:Nat),K.lookup a=some o/\o.cls=.type "tuple"/\o.dict=none/\o.data=.seq its n/\its.size<=sizeLine/\Vals xs its.toList
noncomputable def absV:Value->Option V
 | .none=>some .non
 | .bool b=>some (.bl b)
 | .int i _=>some (.int i)
 | .str x _=>some (.str x)
 | .bytes b _=>some (.byt b)
 | .float b _=>some (.flt b)
 | .ref a=>some (.ref a)
 | .type n=>some (.ty n)
 | _=>none
theorem RelV.abs {x} {u} (r:RelV x u):absV u=some x:=by
 cases x with
 | non=>cases r;rfl
 | bl _=>cases r;rfl
 | int _=>obtain ⟨t,rfl⟩:=r;rfl
 | str _=>obtain ⟨t,rfl⟩:=r;rfl
 | byt _=>obtain ⟨t,rfl⟩:=r;rfl
 | flt _=>obtain ⟨t,rfl⟩:=r;rfl
 | ref _=>cases r;rfl
 | ty _=>cases r;rfl
theorem RelV.inj {x y} {u} (r:RelV x u) (q:RelV y u):x=y:=Option.some.inj (r.abs.symm.trans q.abs)
theorem Vals.inj:∀ {xs ys} {us},Vals xs us->Vals ys us->xs=ys
 | _,_,_,.nil,.nil=>rfl
 | _,_,_,.cons r t,.cons r' t'=>by rw [r.inj r',Vals.inj t t']
section
variable {X:Cx} {pins:List (Addr×Obj)} {σ:St} {H:Hp} {s:Shared} {a:Addr} {xs ys:List V}
theorem SqL.of {K} (h:H a=some (.lst xs)):SqL K H a xs:=.inl (.inl h)
theorem SqT.of {K} (h:H a=some (.tup xs)):SqT K H a xs:=.inl (.inl h)
theorem Inv.list (I:Inv X pins σ H s) (h:SqL X.K H a xs):∃ its,Vals xs its/\PlainL s.heap a its.toArray/\xs.length<=sizeLine:=by
 rcases h with h | ⟨o,its,n,hk,hc,hd,hs,hz,r⟩
 ·obtain ⟨z,its,n,r,e⟩:=h.ok I.hok
  exact ⟨its,r,⟨_,n,e,rfl,rfl,rfl⟩,z⟩
 ·refine ⟨its.toList,r,⟨o,n,I.kIn a o hk,hc,hd,by simpa using hs⟩,?_⟩
  have e:=r.length
  simp at e
  lia
theorem Inv.tuple (I:Inv X pins σ H s) (h:SqT X.K H a xs):∃ its,Vals xs its/\IsTup s.heap a its.toArray/\xs.length<=sizeLine:=by
 rcases h with h | ⟨o,its,n,hk,hc,_,hs,hz,r⟩
 ·obtain ⟨z,its,r,p⟩:=h.ok I.hok
  exact ⟨its,r,p.tup,z⟩
 ·refine ⟨its.toList,r,⟨o,I.kIn a o hk,hc,n,by simpa using hs⟩,?_⟩
  have e:=r.length
  simp at e
  lia
theorem Inv.tupleD (I:Inv X pins σ H s) (h:SqT X.K H a xs):∃ o,s.heap.get? a=some o/\o.dict=none:=by
 rcases h with h | ⟨o,its,n,hk,hc,hd,hs,hz,r⟩
 ·obtain ⟨z,its,r,o,e,_,d,_⟩:=h.ok I.hok
  exact ⟨o,e,d⟩
 ·exact ⟨o,I.kIn a o hk,hd⟩
theorem Inv.list_inj (I:Inv X pins σ H s) (h:SqL X.K H a xs) (h':SqL X.K H a ys):xs=ys:=by
 obtain ⟨its,r,⟨o,n,e,_,_,d⟩,_⟩:=I.list h
 obtain ⟨its',r',⟨o',n',e',_,_,d'⟩,_⟩:=I.list h'
 rw [e] at e';cases e'
 rw [d] at d'
 injection d' with d1 _
 have:its=its':=by simpa using congrArg Array.toList d1
 subst this
 exact r.inj r'
theorem Inv.tuple_inj (I:Inv X pins σ H s) (h:SqT X.K H a xs) (h':SqT X.K H a ys):xs=ys:=by
 obtain ⟨its,r,⟨o,e,_,n,d⟩,_⟩:=I.tuple h
 obtain ⟨its',r',⟨o',e',_,n',d'⟩,_⟩:=I.tuple h'
 rw [e] at e';cases e'
 rw [d] at d'
 injection d' with d1 _
 have:its=its':=by simpa using congrArg Array.toList d1
 subst this
 exact r.inj r'
end
noncomputable abbrev Cx.wish (X:Cx) (E:Value->Shared->Prop):Cx:={ X with xe:=E }
noncomputable abbrev Cx.nox (X:Cx):Cx:=X.wish fun _ _=>False
theorem Cx.Ok.wish {X:Cx} (ok:X.Ok) E:(X.wish E).Ok :=
 ⟨ok.mod,ok.kind,ok.glob,ok.blt,ok.above,ok.inj,ok.has,ok.cab,ok.hd,ok.frames,ok.stk,ok.exf,ok.bs,ok.bsz,ok.noex,ok.exfs,ok.funs,ok.frf⟩
theorem Cx.Ok.unwish {X:Cx} {E} (ok:(X.wish E).Ok):X.Ok :=
 ⟨ok.mod,ok.kind,ok.glob,ok.blt,ok.above,ok.inj,ok.has,ok.cab,ok.hd,ok.frames,ok.stk,ok.exf,ok.bs,ok.bsz,ok.noex,ok.exfs,ok.funs,ok.frf⟩
section
variable {X:Cx} {pins:List (Addr×Obj)} {σ:St} {H:Hp} {s:Shared} {E:Value->Shared->Prop}
theorem Inv.wish (I:Inv X pins σ H s) E:Inv (X.wish E) pins σ H s:=⟨I.ok.wish E,I.os,I.bare,I.base,I.loc,I.cell,I.free,I.freeC,I.pin,I.hok,I.len⟩
theorem Inv.unwish (I:Inv (X.wish E) pins σ H s):Inv X pins σ H s:=⟨I.ok.unwish,I.os,I.bare,I.base,I.loc,I.cell,I.free,I.freeC,I.pin,I.hok,I.len⟩
theorem SP.unwish {D} {f} {s'} (h:SP (X.wish E) pins D f s'):SP X pins D f s':=by
 cases f with
 | next=>obtain ⟨σ',H',I,q⟩:=h;exact ⟨σ',H',I.unwish,q⟩
 | brk=>obtain ⟨σ',H',I,q⟩:=h;exact ⟨σ',H',I.unwish,q⟩
 | cont=>obtain ⟨σ',H',I,q⟩:=h;exact ⟨σ',H',I.unwish,q⟩
 | ret u=>obtain ⟨v,σ',H',I,r,q⟩:=h;exact ⟨v,σ',H',I.unwish,r,q⟩
end
section
variable {X:Cx} {st:Stmt} {rest:List Stmt} {t u:TS} {e:Expr} {te:TE} {pos:Pos}
noncomputable abbrev tNext:TS:=fun D σ H=>D.nx σ H
noncomputable abbrev tSeq (t u:TS):TS:=fun D σ H=>t { D with nx:=u D } σ H
theorem pss_nil:PSs X [] tNext:=fun _ _ σ H _ I h=>wpAny_execs_nil ⟨σ,H,I,h⟩
theorem pss_cons (h1:PS X st t) (h2:PSs X rest u):PSs X (st :: rest) (tSeq t u):=by
 intro pins s σ H D I h
 refine wpAny_execs_cons (thn (h1 pins s σ H { D with nx:=u D } I h) fun f s1 q=>?_)
 cases f with
 | next =>
  obtain ⟨σ',H',I',q⟩:=q
  exact h2 pins s1 σ' H' D I' q
 | ret v=>exact q
 | brk=>exact q
 | cont=>exact q
theorem pss_one (h1:PS X st t):PSs X [st] t:=by
 intro pins s σ H D I h
 refine wpAny_execs_cons (thn (h1 pins s σ H D I h) fun f s1 q=>?_)
 cases f with
 | next=>exact wpAny_execs_nil q
 | ret v=>exact q
 | brk=>exact q
 | cont=>exact q
theorem Inv.quiet {pins} {σ:St} {H} {s} (I:Inv X pins σ H s):interactive X.env=false:=by simp [interactive,I.ok.kind]
noncomputable abbrev tDrop (te:TE):TS:=fun D σ H=>te σ H fun _ H1=>D.nx σ H1
theorem ps_expr (he:PE X e te) (hs:swapsWith e none pos.line X.env=pure false:=by rfl):PS X (.Expr e pos) (tDrop te):=by
 intro pins s σ H D I h
 exact wpAny_Expr_any (thn (he pins s σ H _ I h) fun v s1 ⟨x,H1,I1,r1,q1⟩=>⟨σ,H1,I1,q1⟩) I.quiet hs
noncomputable abbrev tRet (te:TE):TS:=fun D σ H=>te σ H D.rt
theorem ps_ret (he:PE X e te):PS X (.Return (some e) pos) (tRet te):=by
 intro pins s σ H D I h
 exact wpAny_Return_some (thn (he pins s σ H _ I h) fun v s1 ⟨x,H1,I1,r1,q1⟩=>⟨x,σ,H1,I1,r1,q1⟩)
noncomputable abbrev tIfS (c:TT) (t u:TS):TS:=fun D σ H=>c σ H fun b H1=>if b=true then t D σ H1 else u D σ H1
theorem ps_if {c} {a b} {tc} (hc:PT X c tc) (ha:PSs X a t) (hb:PSs X b u):PS X (.If c a b pos) (tIfS tc t u):=by
 intro pins s σ H D I h
 refine wpAny_If (thn (hc pins s σ H _ I h) fun d s1 ⟨H1,I1,q1⟩=>?_)
 cases d with
 | true=>exact ha pins s1 σ H1 D I1 q1
 | false=>exact hb pins s1 σ H1 D I1 q1
end
noncomputable abbrev TG:=V->St->Hp->(St->Hp->Prop)->Prop
noncomputable abbrev TGs:=List V->St->Hp->(St->Hp->Prop)->Prop
noncomputable def PG (X:Cx) (target:Expr) (t:TG):Prop :=
 ∀ (pins:List (Addr×Obj)) (s:Shared) (σ:St) (H:Hp) (v:V) (u:Value) (Q:St->Hp->Prop),Inv X pins σ H s->RelV v u->t v σ H Q ->
  wpAny (model X.prog X.w) X.A (assign target X.env u) (fun _ s'=>∃ σ' H',Inv X pins σ' H' s'/\Q σ' H') X.xe s
noncomputable def PGs (X:Cx) (ts:List Expr) (t:TGs):Prop :=
 ∀ (pins:List (Addr×Obj)) (s:Shared) (σ:St) (H:Hp) (vs:List V) (us:List Value) (Q:St->Hp->Prop),Inv X pins σ H s->Vals vs us->t vs σ H Q ->
  wpAny (model X.prog X.w) X.A (assignInOrder ((assignEach ts X.env).map (·.2)) us) (fun _ s'=>∃ σ' H',Inv X pins σ' H' s'/\Q σ' H') X.xe s
section
variable {X:Cx} {pos:Pos}
noncomputable abbrev gName (i:Nat):TG:=fun v σ H Q=>Q (σ.set i (some v)) H
theorem pg_name {i} {x} (hN:X.N.Nodup) (hi:X.N[i]?=some x) (hx:Loc X.env.scope x) (hf:X.fn x=true\/X.env.scope.names.lookup x=some .local:=by first | exact .inl rfl | exact .inr rfl | assumption):PG X (.Name x pos) (gName i):=by
 intro pins s σ H v u Q I r h
 exact wpAny_assign_Name (store_ok I hN hi hx r (fun s' I'=>⟨_,H,I',h⟩) hf)
noncomputable abbrev gNil:TGs:=fun vs σ H Q=>vs=[]/\Q σ H
noncomputable abbrev gCons (t:TG) (u:TGs):TGs:=fun vs σ H Q=>∃ v r,vs=v :: r/\t v σ H fun σ' H'=>u r σ' H' Q
theorem pgs_nil:PGs X [] gNil:=by
 rintro pins s σ H vs us Q I r ⟨e,h⟩
 subst e
 exact assignInOrder_nil ⟨σ,H,I,h⟩
theorem pgs_cons {e} {es} {t} {u} (h1:PG X e t) (h2:PGs X es u)
  (hs:(assignEach (e :: es) X.env).map (·.2)=assign e X.env :: (assignEach es X.env).map (·.2):=by rfl):PGs X (e :: es) (gCons t u):=by
 rintro pins s σ H vs us Q I r ⟨v,vr,e1,h⟩
 subst e1
 cases r with
 | cons r rr =>
  rw [hs]
  exact assignInOrder_cons (thn (h1 pins s σ H _ _ _ I r h) fun _ s1 ⟨σ1,H1,I1,q1⟩=>(h2 pins s1 σ1 H1 _ _ Q I1 rr q1))
noncomputable abbrev tAsg (te:TE) (g:TG):TS:=fun D σ H=>te σ H fun x H1=>g x σ H1 D.nx
theorem ps_set {i} {x} {e} {te} {pos'} (hN:X.N.Nodup) (hi:X.N[i]?=some x) (hx:Loc X.env.scope x) (he:PE X e te) (hs:swapsWith e (some (.Name x pos')) pos.line X.env=pure false:=by rfl) (hf:X.fn x=true\/X.env.scope.names.lookup x=some .local:=by first | exact .inl rfl | exact .inr rfl | assumption) :
  PS X (.Assign [.Name x pos'] e pos) (tAsg te (gName i)):=by
 intro pins s σ H D I h
 exact wpAny_Assign_Name (thn (he pins s σ H _ I h) fun v s1 ⟨y,H1,I1,r1,q1⟩=>(store_ok I1 hN hi hx r1 (fun s2 I2=>⟨_,H1,I2,q1⟩) hf)) hs
end
structure It where
 go:Nat->Hp->Prop
 yld:Nat->Hp->V->Hp->Prop
 stop:Nat->Hp->Prop
noncomputable def FpOk (X:Cx) (pins:List (Addr×Obj)) (H:Hp) (b:Addr):Prop :=
 H b=none/\b≠X.env.locals/\b∉X.fs/\(b∈X.ex\/X.s₀.heap.objs.size<=b)/\(∀ x c,X.env.cells.lookup x=some c->c≠b)/\∀ p∈X.pn++pins,p.1≠b
theorem Inv.fpOk {X} {pins} {σ:St} {H H'} {s} {b:Addr} (I:Inv X pins σ H s) (hb:s.heap.objs.size<=b) (hn:H' b=none):FpOk X pins H' b:=by
 refine ⟨hn,Nat.ne_of_gt (Nat.lt_of_lt_of_le I.lt hb),I.nofs hb,.inr (Nat.le_trans I.sz hb),fun x c e z=>?_,fun p hp z=>?_⟩
 ·obtain ⟨v,q⟩:=I.cell x c e
  exact absurd (Nat.lt_of_lt_of_le q.lt (z▸hb)) (Nat.lt_irrefl _)
 ·exact absurd (Nat.lt_of_lt_of_le (Heap.lt_size (I.pin p hp).1) (z▸hb)) (Nat.lt_irrefl _)
structure Turn (P:Program) (w:World) (K:PySem.W.Frag) (tg:Expr) (J:It) (fp:List Addr) (it:Addr) (tn:Nat->Heap->Prop):Prop where
 mem:it∈fp
 obj:∀ i h,tn i h->∀ b∈fp,∃ o,h.get? b=some o/\∀ v,o.data≠.cell v
 keep:∀ i h h',tn i h->(∀ b∈fp,∀ o,h.get? b=some o->h'.get? b=some o)->tn i h'
 item:∀ (X:Cx),X.prog=P->X.w=w->X.K=K->X.calm=true->∀ (i:Nat) (pins:List (Addr×Obj)) (s:Shared) (σ:St) (H:Hp) (E:Value->Shared->Prop),Inv X pins σ H s->(∀ b∈fp,FpOk X pins H b)->tn i s.heap->J.go i H ->
  wpAny (model P w) X.A (pyNext (.ref it)) (fun r s1=>∃ u,r=some u /\
   wpAny (model P w) X.A (letOwnedTupleGo tg (.ref it) u) (fun _ s2=>∃ x H',Inv X pins σ H' s2/\RelV x u/\J.yld i H x H'/\tn (i + 1) s2.heap/\∀ b∈fp,H' b=none) E s1) E s
 done:∀ (X:Cx),X.prog=P->X.w=w->X.K=K->X.calm=true->∀ (i:Nat) (pins:List (Addr×Obj)) (s:Shared) (σ:St) (H:Hp) (E:Value->Shared->Prop),Inv X pins σ H s->(∀ b∈fp,FpOk X pins H b)->tn i s.heap->J.stop i H ->
  wpAny (model P w) X.A (pyNext (.ref it)) (fun r s1=>r=none/\Inv X pins σ H s1) E s
 self:∀ (A:Around) (i:Nat) (s:Shared) (Q:Value->Shared->Prop) (E:Value->Shared->Prop),tn i s.heap->Q (.ref it) s->wpAny (model P w) A (pyIter (.ref it)) Q E s
noncomputable abbrev TI:=St->Hp->(It->Hp->Prop)->Prop
noncomputable def PIE (X:Cx) (pins:List (Addr×Obj)) (σ:St) (tg:Expr) (R:It->Hp->Prop) (itv:Value) (s2:Shared):Prop :=
 ∃ (it:Addr) (fp:List Addr) (tn:Nat->Heap->Prop) (J:It) (H':Hp),itv=.ref it/\Inv X pins σ H' s2/\Turn X.prog X.w X.K tg J fp it tn/\tn 0 s2.heap/\(∀ b∈fp,FpOk X pins H' b)/\R J H'
noncomputable def PI (X:Cx) (tg iter:Expr) (wi:TI):Prop :=
 ∀ (pins:List (Addr×Obj)) (s:Shared) (σ:St) (H:Hp) (R:It->Hp->Prop),Inv X pins σ H s->wi σ H R ->
  wpAny (model X.prog X.w) X.A (eval iter X.env) (fun v s1=>wpAny (model X.prog X.w) X.A (pyIter v) (PIE X pins σ tg R) X.xe s1) X.xe s
theorem go_of {M} {A} {E} {s} {tg} {it} {u} {o} {n} {vs} {Q} (ho : s.heap.get? it = some o) (hc : o.cls = .type n) (hd : o.data = .fields vs)
    (hn : ["enumerate", "zip", "dict_itemiterator", "dict_reverseitemiterator", "odict_iterator", "itertools.zip_longest", "itertools.pairwise"].contains n = false) (hQ : Q () s) : wpAny M A (letOwnedTupleGo tg (.ref it) u) Q E s := by
  cases tg <;> first
    | exact wpAny_pure hQ
    | (cases u <;> first
        | exact wpAny_pure hQ
        | (refine wpAny_bind (wpAny_load ho ?_)
           rw [hc, hd]
           show wpAny M A (if _ = true then _ else _) Q E s
           rw [if_neg (by grind)]
           exact wpAny_pure hQ))
noncomputable def Itl (K:PySem.W.Frag) (a:Addr):It :=
 ⟨fun i H=>∃ xs x,SqL K H a xs/\xs[i]?=some x,fun i H x H'=>H'=H/\∀ xs,SqL K H a xs->xs[i]?=some x,fun i H=>∃ xs,SqL K H a xs/\xs.length<=i⟩
noncomputable def Itt (K:PySem.W.Frag) (a:Addr):It :=
 ⟨fun i H=>∃ xs x,SqT K H a xs/\xs[i]?=some x,fun i H x H'=>H'=H/\∀ xs,SqT K H a xs->xs[i]?=some x,fun i H=>∃ xs,SqT K H a xs/\xs.length<=i⟩
noncomputable def Itr (lo:Int) (n:Nat):It:=⟨fun i _=>i < n,fun i H x H'=>H'=H/\x=.int (lo + i),fun i _=>n<=i⟩
theorem turn_list {P} {w} {K} {tg} (a it):Turn P w K tg (Itl K a) [it] it (fun i h=>h.IsListIter it a i) where
 mem:=by simp
 obj:=fun i h st b hb=>by
  have e:b=it:=by simpa using hb
  subst e
  obtain ⟨o,e,c,d⟩:=st
  exact ⟨o,e,fun v z=>by rw [d] at z;cases z⟩
 keep:=fun i h h' st k=>st.at fun o e=>k it (by simp) o e
 item:=by
  intro X hP hw hK hc i pins s σ H E I hf st hg
  subst hP hw hK
  obtain ⟨xs,x,hq,hx⟩:=hg
  obtain ⟨its,rv,p,hz⟩:=I.list hq
  obtain ⟨u,hu,ru⟩:=rv.get hx
  obtain ⟨f0,f1,f2,f3,f4,f5⟩:=hf it (by simp)
  refine wpAny_pyNext_list_item st p.isList (by simpa using hu) fun h' st' sb=>?_
  have I1:Inv X pins σ H { s with heap:=h' }:=I.turned (t':=s.toks) (fun b o hb e=>(sb.2 b hb).trans e) f0 f1 f3 f4 f5
  obtain ⟨o,e,c,d⟩:=id st'
  exact ⟨u,rfl,go_of e c d (by decide) ⟨x,H,I1,ru,⟨rfl,fun ys hy=>by rw [I.list_inj hy hq];exact hx⟩,st',fun b hb=>(hf b hb).1⟩⟩
 done:=by
  intro X hP hw hK hc i pins s σ H E I hf st hg
  subst hP hw hK
  obtain ⟨xs,hq,hx⟩:=hg
  obtain ⟨its,rv,p,hz⟩:=I.list hq
  obtain ⟨f0,f1,f2,f3,f4,f5⟩:=hf it (by simp)
  have hl:=rv.length
  exact wpAny_pyNext_list_end (I.ok.hd hc) st p.isList (by simp;lia) fun h' eb=>⟨rfl,I.turned (t':=s.toks) (fun b o hb e=>eb b o hb e) f0 f1 f3 f4 f5⟩
 self:=fun _ _ _ _ _ st h=>wpAny_pyIter_listiter st h
theorem turn_tuple {P} {w} {K} {tg} (a it):Turn P w K tg (Itt K a) [it] it (fun i h=>h.IsTupleIter it a i) where
 mem:=by simp
 obj:=fun i h st b hb=>by
  have e:b=it:=by simpa using hb
  subst e
  obtain ⟨o,e,c,d⟩:=st
  exact ⟨o,e,fun v z=>by rw [d] at z;cases z⟩
 keep:=fun i h h' st k=>st.at fun o e=>k it (by simp) o e
 item:=by
  intro X hP hw hK hc i pins s σ H E I hf st hg
  subst hP hw hK
  obtain ⟨xs,x,hq,hx⟩:=hg
  obtain ⟨its,rv,p,hz⟩:=I.tuple hq
  obtain ⟨u,hu,ru⟩:=rv.get hx
  obtain ⟨f0,f1,f2,f3,f4,f5⟩:=hf it (by simp)
  refine wpAny_pyNext_tuple_item st (p) (x:=u) (by simpa using hu) fun h' st' sb=>?_
  have I1:Inv X pins σ H { s with heap:=h' }:=I.turned (t':=s.toks) (fun b o hb e=>(sb.2 b hb).trans e) f0 f1 f3 f4 f5
  obtain ⟨o,e,c,d⟩:=id st'
  exact ⟨u,rfl,go_of e c d (by decide) ⟨x,H,I1,ru,⟨rfl,fun ys hy=>by rw [I.tuple_inj hy hq];exact hx⟩,st',fun b hb=>(hf b hb).1⟩⟩
 done:=by
  intro X hP hw hK hc i pins s σ H E I hf st hg
  subst hP hw hK
  obtain ⟨xs,hq,hx⟩:=hg
  obtain ⟨its,rv,p,hz⟩:=I.tuple hq
  obtain ⟨f0,f1,f2,f3,f4,f5⟩:=hf it (by simp)
  have hl:=rv.length
  exact wpAny_pyNext_tuple_end (I.ok.hd hc) st (p) (by simp;lia) fun h' eb=>⟨rfl,I.turned (t':=s.toks) (fun b o hb e=>eb b o hb e) f0 f1 f3 f4 f5⟩
 self:=fun _ _ _ _ _ st h=>wpAny_pyIter_tupleiter st h
theorem turn_range {P} {w} {K} {tg} (it) (lo) (n):Turn P w K tg (Itr lo n) [it] it (fun i h=>IsRangeIter h it (lo + (i) * 1) ((n) - (i)) 1) where
 mem:=by simp
 obj:=fun i h st b hb=>by
  have e:b=it:=by simpa using hb
  subst e
  exact ⟨_,st,fun v z=>by
   cases z⟩
 keep:=fun i h h' st k=>k it (by simp) _ st
 item:=by
  intro X hP hw hK hc i pins s σ H E I hf st hg
  subst hP hw hK
  obtain ⟨f0,f1,f2,f3,f4,f5⟩:=hf it (by simp)
  refine (Walks.range (prog:=X.prog) (w:=X.w) (I.ok.hd hc) it lo 1 n).item i s _ _ hg st fun v h' tk hv st' kk=>?_
  obtain ⟨t,rfl⟩:=hv
  have I1:Inv X pins σ H { s with heap:=h',toks:=tk }:=I.turned (fun b o hb e=>kk b o (by simpa using hb) e) f0 f1 f3 f4 f5
  refine ⟨_,rfl,go_of st' rfl rfl (by decide) ⟨.int _,H,I1,⟨t,?_⟩,⟨rfl,rfl⟩,st',fun b hb=>(hf b hb).1⟩⟩
  rw [Int.mul_one]
 done:=by
  intro X hP hw hK hc i pins s σ H E I hf st hg
  obtain ⟨f0,f1,f2,f3,f4,f5⟩:=hf it (by simp)
  exact wpAny_pyNext_range_end (I.ok.hd hc) st (by have:n<=i:=hg;lia) fun h' eb=>⟨rfl,I.turned (t':=s.toks) (fun b o hb e=>eb b o hb e) f0 f1 f3 f4 f5⟩
 self:=fun _ _ _ _ _ st h=>wpAny_pyIter_rangeiter st h
end L2
namespace L2
open PySem PySem.Spec PyProof.Rows
section
variable {X:Cx} {tg:Expr}
noncomputable abbrev iList (K:PySem.W.Frag) (tl:TE):TI:=fun σ H R=>tl σ H fun x H1=>∃ a,x=.ref a/\(∃ xs,SqL K H1 a xs)/\R (Itl K a) H1
theorem pi_list {l:Expr} {tl:TE} (hl:PE X l tl):PI X tg l (iList X.K tl):=by
 intro pins s σ H R I h
 refine thn (hl pins s σ H _ I h) fun v s1 ⟨x,H1,I1,r1,q1⟩=>?_
 obtain ⟨a,e,⟨xs,hq⟩,q⟩:=q1
 subst e
 cases r1
 obtain ⟨its,rv,p,hz⟩:=I1.list hq
 refine wpAny_pyIter_list p.isList ?_
 refine ⟨s1.heap.objs.size,[s1.heap.objs.size],_,_,H1,rfl,I1.kept (t':=s1.toks) fun b o e=>Heap.get?_push_of_some _ e,turn_list a _,⟨_,Heap.get?_push_size _ rfl,rfl,rfl⟩,fun b hb=>?_,q⟩
 have e:b=s1.heap.objs.size:=by simpa using hb
 subst e
 exact I1.fpOk (Nat.le_refl _) (I1.hok.fresh (Nat.le_refl _))
theorem range_it {pins} {σ:St} {H} {s} {R} {E} {lo hi} {t u v} {tk} (I:Inv X pins σ H s) (h1:-(2 ^ 62)<=lo) (h2:lo < 2 ^ 62) (h3:-(2 ^ 62)<=hi) (h4:hi < 2 ^ 62)
  (q:R (Itr lo (hi - lo).toNat) H):wpAny (model X.prog X.w) X.A (pyIter (.ref s.heap.objs.size)) (PIE X pins σ tg R) E { s with heap:=s.heap.push { cls:=.type "range",data:=.fields #[.int lo t,.int hi u,.int 1 v] },toks:=tk }:=by
 refine wpAny_pyIter_range (IsRange.new ..) (small_one h1 h2 h3 h4) ?_
 have I1:Inv X pins σ H { s with heap:=s.heap.push { cls:=.type "range",data:=.fields #[.int lo t,.int hi u,.int 1 v] },toks:=tk }:=I.kept fun b o e=>Heap.get?_push_of_some _ e
 refine ⟨(s.heap.push { cls:=.type "range",data:=.fields #[.int lo t,.int hi u,.int 1 v] }).objs.size,[(s.heap.push { cls:=.type "range",data:=.fields #[.int lo t,.int hi u,.int 1 v] }).objs.size],_,_,H,rfl,
  I1.kept (t':=tk) fun b o e=>Heap.get?_push_of_some _ e,turn_range _ lo (hi - lo).toNat,?_,fun b hb=>?_,q⟩
 ·have e1:lo + ((0:Nat):Int) * 1=lo:=by simp
  have e2:(((hi - lo).toNat:Nat):Int) - ((0:Nat):Int)=Builtin.Range.rangeSize lo hi 1:=by rw [rangeSize_one];split<;>lia
  rw [e1,e2]
  exact Heap.get?_push_size _ rfl
 ·have e:b=(s.heap.push { cls:=.type "range",data:=.fields #[.int lo t,.int hi u,.int 1 v] }).objs.size:=by simpa using hb
  subst e
  exact I1.fpOk (Nat.le_refl _) (I1.hok.fresh (Nat.le_refl _))
noncomputable abbrev iRng1 (ta:TA):TI:=fun σ H R=>ta σ H fun vs H1=>∃ j:Int,vs=[.int j]/\-(2 ^ 62)<=j/\j < 2 ^ 62/\R (Itr 0 j.toNat) H1
noncomputable abbrev iRng2 (ta:TA):TI:=fun σ H R=>ta σ H fun vs H1=>∃ i j:Int,vs=[.int i,.int j]/\(-(2 ^ 62)<=i/\i < 2 ^ 62/\-(2 ^ 62)<=j/\j < 2 ^ 62)/\R (Itr i (j - i).toNat) H1
theorem pi_range1 {a} {ta} {p pos} (hg:Gl X "range") (hm:X.mg "range"=none) (ha:PA X [a] ta) (hs:starEach [a] X.env=[(false,eval a X.env)]:=by rfl):PI X tg (.Call (.Name "range" p) [a] [] pos) (iRng1 ta):=by
 intro pins s σ H R I h
 refine Call_ (ld_blt I hg hm boot_range (PyProof.Rows.callWith_type1 (thn (ha pos pins s σ H _ I h) fun us s1 ⟨vs,H1,I1,r1,q1⟩=>?_) hs rfl))
 obtain ⟨j,e,q1,q2,q⟩:=q1
 subst e
 cases r1 with
 | cons r rr =>
  cases rr
  obtain ⟨t,rfl⟩:=r
  exact call_range_1 (range_it I1 (by lia) (by lia) q1 q2 (by simpa using q))
theorem pi_range2 {a b:Expr} {ta:TA} {p pos:Pos} (hg:Gl X "range") (hm:X.mg "range"=none) (ha:PA X [a,b] ta) (hs:starEach [a,b] X.env=[(false,eval a X.env),(false,eval b X.env)]:=by rfl) (hs2:starEach [b] X.env=[(false,eval b X.env)]:=by rfl) :
  PI X tg (.Call (.Name "range" p) [a,b] [] pos) (iRng2 ta):=by
 intro pins s σ H R I h
 refine Call_ (ld_blt I hg hm boot_range (PyProof.Rows.callWith_type1 (thn (ha pos pins s σ H _ I h) fun us s1 ⟨vs,H1,I1,r1,q1⟩=>?_) (by rw [hs,hs2]) (by rw [hs2];rfl)))
 obtain ⟨i,j,e,⟨q1,q2,q3,q4⟩,q⟩:=q1
 subst e
 cases r1 with
 | cons r rr =>
  cases rr with
  | cons r' rr =>
   cases rr
   obtain ⟨t,rfl⟩:=r
   obtain ⟨t',rfl⟩:=r'
   exact call_range_2 (range_it I1 q1 q2 q3 q4 q)
noncomputable abbrev tFor (wi:TI) (g:TG) (tb:TS):TS:=fun D σ H=>wi σ H fun J H1=>∃ W:Nat->Nat->St->Hp->Prop,(∃ m,W 0 m σ H1)/\∀ i m σ H,W i m σ H ->
 (J.stop i H/\D.nx σ H)\/(J.go i H/\∃ N:St->Hp->Prop,(∀ σ' H',N σ' H'->∃ m',m' < m/\W (i + 1) m' σ' H')/\∀ x H',J.yld i H x H'->g x σ H' fun σ2 H2=>tb { D with nx:=N,ct:=N,bk:=D.nx } σ2 H2)
noncomputable def pinsAt (fp:List Addr) (h:Heap):List (Addr×Obj):=fp.filterMap fun b=>(h.get? b).map fun o=>(b,o)
theorem mem_pinsAt {fp} {h} {b} {o} (hb:b∈fp) (e:h.get? b=some o):(b,o)∈pinsAt fp h:=List.mem_filterMap.mpr ⟨b,hb,by rw [e];rfl⟩
theorem of_pinsAt {fp} {h} {p} (hp:p∈pinsAt fp h):p.1∈fp/\h.get? p.1=some p.2:=by
 obtain ⟨b,hb,e⟩:=List.mem_filterMap.mp hp
 cases q:h.get? b with
 | none=>rw [q] at e;cases e
 | some o =>
  rw [q] at e
  have e':=Option.some.inj e
  subst e'
  exact ⟨hb,q⟩
theorem Inv.pinned {pins} {σ:St} {H} {s} {fp} (I:Inv X pins σ H s) (hf:∀ b∈fp,FpOk X pins H b) (ho:∀ b∈fp,∃ o,s.heap.get? b=some o/\∀ v,o.data≠.cell v):Inv X (pins++pinsAt fp s.heap) σ H s :=
 I.pins_of fun p hp=>(List.mem_append.mp hp).elim (fun z=>I.pin p (List.mem_append_right _ z)) fun z=>by
  obtain ⟨hb,e⟩:=of_pinsAt z
  obtain ⟨f0,f1,f2,_⟩:=hf p.1 hb
  obtain ⟨o,e',d⟩:=ho p.1 hb
  rw [e] at e';cases e'
  exact ⟨e,f0,f1,f2,d⟩
theorem Inv.unpinned {pins pl} {σ:St} {H} {s} (I:Inv X (pins++pl) σ H s):Inv X pins σ H s:=I.pins_of fun p hp=>I.pin p (List.mem_append_right _ (List.mem_append_left _ hp))
theorem ps_for {iter:Expr} {body:List Stmt} {wi:TI} {g:TG} {tb:TS} {pos:Pos} (hp:PassesOwn (model X.prog X.w) X.A X.env X.xe) (hc:X.calm=true) (hi:PI X tg iter wi) (hg:PG X tg g) (hb:PSs X body tb)
  (hs:∀ x,foldedSetIterable iter X.env x=pure x:=by intro _;rfl):PS X (.For tg iter body [] pos) (tFor wi g tb):=by
 intro pins s σ H D I h
 refine wpAny_For (thn (hi pins s σ H _ I h) fun v s1 h1=>thn h1 fun itv s2 h2=>?_) hs
 obtain ⟨it,fp,tn,J,H2,e,I2,T,st2,f2,W,⟨m0,w0⟩,turn⟩:=h2
 subst e
 have stat:∀ {H':Hp},(∀ b∈fp,H' b=none)->∀ b∈fp,FpOk X pins H' b:=fun hn b hb=>⟨hn b hb,(f2 b hb).2⟩
 refine codeAny_forLoop_any (fun n s'=>∃ i σ' H',Inv X pins σ' H' s'/\tn i s'.heap/\(∀ b∈fp,H' b=none)/\W i n σ' H') ?_ m0 ⟨0,σ,H2,I2,st2,fun b hb=>(f2 b hb).1,w0⟩
 rintro n s3 ⟨i,σ3,H3,I3,st3,fr3,w3⟩
 rcases turn i n σ3 H3 w3 with ⟨stop,qn⟩ | ⟨go,N,hN,step⟩
 ·refine wpAny_passesOwn hp (thn (T.done X rfl rfl rfl hc i pins s3 σ3 H3 X.xe I3 (stat fr3) st3 stop) fun r s4 ⟨hr,I4⟩=>?_)
  subst hr
  exact wpAny_execs_nil ⟨σ3,H3,I4,qn⟩
 ·refine wpAny_passesOwn hp (thn (T.item X rfl rfl rfl hc i pins s3 σ3 H3 X.xe I3 (stat fr3) st3 go) fun r s4 ⟨u,hr,h4⟩=>?_)
  subst hr
  refine wpAny_passesOwn hp (thn h4 fun _ s5 ⟨x,H5,I5,r5,y5,st5,fr5⟩=>?_)
  have I5':=I5.pinned (stat fr5) (T.obj _ _ st5)
  refine wpAny_passesOwn hp (thn (hg _ s5 σ3 H5 x u _ I5' r5 (step x H5 y5)) fun _ s6 ⟨σ6,H6,I6,q6⟩=>?_)
  refine wpAny_passesOwn hp (thn (hb _ s6 σ6 H6 _ I6 q6) fun f s7 q7=>?_)
  have again:∀ {σ7:St} {H7:Hp},Inv X (pins++pinsAt fp s5.heap) σ7 H7 s7->N σ7 H7->∃ m,m < n/\∃ i σ' H',Inv X pins σ' H' s7/\tn i s7.heap/\(∀ b∈fp,H' b=none)/\W i m σ' H':=fun {σ7 H7} I7 n7=>by
   obtain ⟨m',hm,w7⟩:=hN σ7 H7 n7
   refine ⟨m',hm,i + 1,σ7,H7,I7.unpinned,T.keep _ _ _ st5 fun b hb o e=>(I7.pin (b,o) (List.mem_append_right _ (List.mem_append_right _ (mem_pinsAt hb e)))).1,fun b hb=>?_,w7⟩
   obtain ⟨o,e,d⟩:=T.obj _ _ st5 b hb
   exact (I7.pin (b,o) (List.mem_append_right _ (List.mem_append_right _ (mem_pinsAt hb e)))).2.1
  cases f with
  | next=>obtain ⟨σ7,H7,I7,n7⟩:=q7;exact again I7 n7
  | cont=>obtain ⟨σ7,H7,I7,n7⟩:=q7;exact again I7 n7
  | brk=>obtain ⟨σ7,H7,I7,q7⟩:=q7;exact ⟨σ7,H7,I7.unpinned,q7⟩
  | ret v=>obtain ⟨x7,σ7,H7,I7,r7,q7⟩:=q7;exact ⟨x7,σ7,H7,I7.unpinned,r7,q7⟩
end
end L2
namespace L2
open PySem PySem.Spec PyProof.Rows
noncomputable abbrev R2:=V->V->Hp->VK->Prop
noncomputable def OpR (X:Cx) (f:Value->Value->Sem Value) (r:R2):Prop :=
 ∀ (pins:List (Addr×Obj)) (s:Shared) (σ:St) (H:Hp) (x y:V) (v u:Value) (Q:VK),Inv X pins σ H s->RelV x v->RelV y u->r x y H Q ->
  wpAny (model X.prog X.w) X.A (f v u) (EP X pins σ Q) X.xe s
noncomputable def UnR (X:Cx) (f:Value->Sem Value) (r:V->Hp->VK->Prop):Prop :=
 ∀ (pins:List (Addr×Obj)) (s:Shared) (σ:St) (H:Hp) (x:V) (v:Value) (Q:VK),Inv X pins σ H s->RelV x v->r x H Q ->
  wpAny (model X.prog X.w) X.A (f v) (EP X pins σ Q) X.xe s
noncomputable def CallR (X:Cx) (f:Value) (r:List V->Hp->VK->Prop):Prop :=
 ∀ (pins:List (Addr×Obj)) (s:Shared) (σ:St) (H:Hp) (xs:List V) (us:List Value) (Q:VK),Inv X pins σ H s->Vals xs us->r xs H Q ->
  wpAny (model X.prog X.w) X.A (call f us) (EP X pins σ Q) X.xe s
noncomputable def TruR (X:Cx) (r:V->Hp->(Bool->Hp->Prop)->Prop):Prop :=
 ∀ (pins:List (Addr×Obj)) (s:Shared) (σ:St) (H:Hp) (x:V) (v:Value) (Q:Bool->Hp->Prop),Inv X pins σ H s->RelV x v->r x H Q ->
  wpAny (model X.prog X.w) X.A (truthy v) (TP X pins σ Q) X.xe s
noncomputable abbrev tOp (r:R2) (ta tb:TE):TE:=fun σ H Q=>ta σ H fun x H1=>tb σ H1 fun y H2=>r x y H2 Q
noncomputable abbrev tUn (r:V->Hp->VK->Prop) (ta:TE):TE:=fun σ H Q=>ta σ H fun x H1=>r x H1 Q
noncomputable def rI (C:Int->Int->Prop) (g:Int->Int->V):R2:=fun x y H Q=>∃ i j,x=.int i/\y=.int j/\C i j/\Q (g i j) H
noncomputable def rI0 (g:Int->Int->V):R2:=fun x y H Q=>∃ i j,x=.int i/\y=.int j/\Q (g i j) H
noncomputable def rU (g:Int->V):V->Hp->VK->Prop:=fun x H Q=>∃ i,x=.int i/\Q (g i) H
section
variable {X:Cx} {a b c:Expr} {ta tb tc:TE} {pos:Pos}
theorem binT (ha:PE X a ta) (hb:PE X b tb) {pins} {s} {σ:St} {H} {R:V->V->Hp->Prop} (I:Inv X pins σ H s)
  (h:ta σ H fun x H1=>tb σ H1 fun y H2=>R x y H2) {Q} {f:Value->Value->Sem Value}
  (hf:∀ v u s2 x y H2,Inv X pins σ H2 s2->RelV x v->RelV y u->R x y H2->wpAny (model X.prog X.w) X.A (f v u) Q X.xe s2) :
  wpAny (model X.prog X.w) X.A (eval a X.env) (fun v s₁=>wpAny (model X.prog X.w) X.A (eval b X.env) (fun u s₂=>wpAny (model X.prog X.w) X.A (f v u) Q X.xe s₂) X.xe s₁) X.xe s:=by
 exact thn (ha pins s σ H _ I h) fun v s1 ⟨x,H1,I1,r1,q1⟩=>(thn (hb pins s1 σ H1 _ I1 q1) fun u s2 ⟨y,H2,I2,r2,q2⟩=>(hf v u s2 x y H2 I2 r1 r2 q2))
theorem pe_op {op} {r} (ho:OpR X (binaryOp op) r) (ha:PE X a ta) (hb:PE X b tb):PE X (.BinOp a op b pos) (tOp r ta tb):=by
 intro pins s σ H Q I h
 exact wpAny_BinOp (binT ha hb I h fun v u s2 x y H2 I2 rx ry q=>ho pins s2 σ H2 x y v u Q I2 rx ry q)
theorem pe_un {op} {r} (ho:UnR X (unaryOp op) r) (ha:PE X a ta):PE X (.UnaryOp op a pos) (tUn r ta):=by
 intro pins s σ H Q I h
 exact UnaryOp_ (thn (ha pins s σ H _ I h) fun v s1 ⟨x,H1,I1,r1,q1⟩=>ho pins s1 σ H1 x v Q I1 r1 q1)
theorem opI {f} {C} {g:Int->Int->Int}
  (rule:∀ i j (t u) s Q E,C i j->Q (.int (g i j) s.toks) { s with toks:=s.toks + 1 }->wpAny (model X.prog X.w) X.A (f (.int i t) (.int j u)) Q E s) :
  OpR X f (rI C fun i j=>.int (g i j)):=by
 rintro pins s σ H x y v u Q I rx ry ⟨i,j,rfl,rfl,hc,q⟩
 obtain ⟨t,rfl⟩:=rx
 obtain ⟨t',rfl⟩:=ry
 exact rule i j t t' s _ _ hc ⟨.int _,H,I.tok _,⟨_,rfl⟩,q⟩
theorem opI0 {f} {g:Int->Int->Int}
  (rule:∀ i j (t u) s Q E,Q (.int (g i j) s.toks) { s with toks:=s.toks + 1 }->wpAny (model X.prog X.w) X.A (f (.int i t) (.int j u)) Q E s) :
  OpR X f (rI0 fun i j=>.int (g i j)):=by
 rintro pins s σ H x y v u Q I rx ry ⟨i,j,rfl,rfl,q⟩
 obtain ⟨t,rfl⟩:=rx
 obtain ⟨t',rfl⟩:=ry
 exact rule i j t t' s _ _ ⟨.int _,H,I.tok _,⟨_,rfl⟩,q⟩
theorem opB0 {f} {g:Int->Int->Bool}
  (rule:∀ i j (t u) (s) (Q) (E),Q (.bool (g i j)) s->wpAny (model X.prog X.w) X.A (f (.int i t) (.int j u)) Q E s) :
  OpR X f (rI0 fun i j=>.bl (g i j)):=by
 rintro pins s σ H x y v u Q I rx ry ⟨i,j,rfl,rfl,q⟩
 obtain ⟨t,rfl⟩:=rx
 obtain ⟨t',rfl⟩:=ry
 exact rule i j t t' s _ _ ⟨.bl _,H,I,rfl,q⟩
noncomputable def CPow (i j:Int):Prop:=0<=j/\j<=1000000/\i.natAbs < 2 ^ 64
theorem op_add:OpR X (binaryOp .Add) (rI0 fun i j=>.int (i + j)):=opI0 fun _ _ _ _ _ _ _ q=>add_int q
theorem op_sub:OpR X (binaryOp .Sub) (rI0 fun i j=>.int (i - j)):=opI0 fun _ _ _ _ _ _ _ q=>sub_int q
theorem op_mod:OpR X (binaryOp .Mod) (rI (fun _ j=>0 < j) fun i j=>.int (i % j)):=opI fun i j _ _ _ _ _ hc q=>by
 exact mod_int' (by lia) (by rw [Int.fmod_eq_emod_of_nonneg i (by lia)];exact q)
theorem op_pow:OpR X (binaryOp .Pow) (rI CPow fun i j=>.int (i ^ j.toNat)):=opI fun _ _ _ _ _ _ _ hc q=>pow_int_small hc.1 hc.2.1 hc.2.2 q
theorem op_shl:OpR X (binaryOp .LShift) (rI CPow fun i j=>.int (i * 2 ^ j.toNat)):=opI fun _ _ _ _ _ _ _ hc q=>lshift_int_small hc.1 hc.2.1 hc.2.2 q
theorem unI {f} {g:Int->Int}
  (rule:∀ i t s Q E,Q (.int (g i) s.toks) { s with toks:=s.toks + 1 }->wpAny (model X.prog X.w) X.A (f (.int i t)) Q E s) :
  UnR X f (rU fun i=>.int (g i)):=by
 rintro pins s σ H x v Q I rx ⟨i,rfl,q⟩
 obtain ⟨t,rfl⟩:=rx
 exact rule i t s _ _ ⟨.int _,H,I.tok _,⟨_,rfl⟩,q⟩
theorem un_neg:UnR X (unaryOp .USub) (rU fun i=>.int (-i)):=unI fun _ _ _ _ _ q=>neg_int q
end
section
variable {X:Cx} {a b c:Expr} {ta tb tc:TE} {pos:Pos}
theorem fin_bl {pins} {σ:St} {H} {s} {Q} {k k'} (I:Inv X pins σ H s) (q:Q (.bl k) H) (e:k=k'):EP X pins σ Q (.bool k') s:=by
 subst e
 exact ⟨.bl k,H,I,rfl,q⟩
theorem op_lt:OpR X (compareOp .Lt) (rI0 fun i j=>.bl (decide (i < j))):=opB0 fun _ _ _ _ _ _ _ q=>lt_int q
theorem op_le:OpR X (compareOp .LtE) (rI0 fun i j=>.bl (decide (i<=j))):=opB0 fun _ _ _ _ _ _ _ q=>le_int q
theorem op_gt:OpR X (compareOp .Gt) (rI0 fun i j=>.bl (decide (j < i))):=opB0 fun _ _ _ _ _ _ _ q=>gt_int q
theorem op_in_str:OpR X (compareOp .In) (fun x y H Q=>∃ i j,x=.str i/\y=.str j/\Q (.bl (!(Builtin.Str.occurrences j i 0 j.length 1).isEmpty)) H):=by
 rintro pins s σ H x y v u Q I rx ry ⟨i,j,rfl,rfl,q⟩
 obtain ⟨t,rfl⟩:=rx
 obtain ⟨t',rfl⟩:=ry
 exact in_str (fin_bl I q rfl)
theorem op_isN:OpR X (compareOp .Is) (fun x y H Q=>y=.non/\Q (.bl (decide (x=.non))) H):=by
 rintro pins s σ H x y v u Q I rx ry ⟨rfl,q⟩
 cases ry
 refine is_none_gen (fin_bl I q ?_)
 cases x<;>first
  | (obtain ⟨t,rfl⟩:=rx;rfl)
theorem op_notN:OpR X (compareOp .IsNot) (fun x y H Q=>y=.non/\Q (.bl (!decide (x=.non))) H):=by
 rintro pins s σ H x y v u Q I rx ry ⟨rfl,q⟩
 cases ry
 refine isnot_none_gen (fin_bl I q ?_)
 cases x<;>first
  | (obtain ⟨t,rfl⟩:=rx;rfl)
theorem OpR.or {f} {r r'} (h:OpR X f r) (h':OpR X f r'):OpR X f (fun x y H Q=>r x y H Q\/r' x y H Q):=by
 intro pins s σ H x y v u Q I rx ry q
 rcases q with q | q
 ·exact h pins s σ H x y v u Q I rx ry q
 ·exact h' pins s σ H x y v u Q I rx ry q
theorem nomark b {op} (h:op≠.In:=by decide) (h2:op≠.NotIn:=by decide):behindInMarks op b=false:=by
 have e1:(op == CmpOp.In)=false:=by cases op<;>first | rfl | exact absurd rfl h
 have e2:(op == CmpOp.NotIn)=false:=by cases op<;>first | rfl | exact absurd rfl h2
 cases b<;>simp [behindInMarks,e1,e2]
theorem pe_cmpR {op} {r} (ho:OpR X (compareOp op) r) (ha:PE X a ta) (hb:PE X b tb) (hm:behindInMarks op b=false):PE X (.Compare a [op] [b] pos) (tOp r ta tb):=by
 intro pins s σ H Q I h
 exact wpAny_Compare1 (binT ha hb I h fun v u s2 x y H2 I2 rx ry q=>ho pins s2 σ H2 x y v u Q I2 rx ry q) hm
noncomputable abbrev tTest (t:TE):TT:=fun σ H Q=>t σ H fun x H'=>∃ k,x=.bl k/\Q k H'
theorem pt_cmpR {op} {r} (ho:OpR X (compareOp op) r) (ha:PE X a ta) (hb:PE X b tb) (hm:behindInMarks op b=false):PT X (.Compare a [op] [b] pos) (tTest (tOp r ta tb)):=by
 intro pins s σ H Q I h
 refine wpAny_isTrue_Compare1 (thn (ha pins s σ H _ I h) fun v s1 ⟨x,H1,I1,r1,q1⟩=>thn (hb pins s1 σ H1 _ I1 q1) fun u s2 ⟨y,H2,I2,r2,q2⟩ =>
  thn (ho pins s2 σ H2 x y v u _ I2 r1 r2 q2) fun c s3 ⟨z,H3,I3,r3,k,e,q3⟩=>?_) hm
 subst e
 cases r3
 exact wpAny_truthy_bool ⟨H3,I3,q3⟩
noncomputable abbrev tChain (r r':R2) (ta tb tc:TE):TE:=fun σ H Q=>ta σ H fun x H1=>tb σ H1 fun y H2=>r x y H2 fun z H3=>∃ k,z=.bl k /\
 (if k=true then tc σ H3 fun w' H4=>r' y w' H4 Q else Q (.bl false) H3)
theorem pt_chain {op op'} {r r'} (ho:OpR X (compareOp op) r) (ho':OpR X (compareOp op') r') (ha:PE X a ta) (hb:PE X b tb) (hc:PE X c tc)
  (hm:lastMarks [op,op'] [b,c]=false:=by with_unfolding_all rfl):PT X (.Compare a [op,op'] [b,c] pos) (tTest (tChain r r' ta tb tc)):=by
 intro pins s σ H Q I h
 refine isTrue_chain (thn (ha pins s σ H _ I h) fun v s1 ⟨x,H1,I1,r1,q1⟩=>test_link (thn (hb pins s1 σ H1 _ I1 q1) fun u s2 ⟨y,H2,I2,r2,q2⟩ =>
  thn (ho pins s2 σ H2 x y v u _ I2 r1 r2 q2) fun d s3 ⟨z,H3,I3,r3,k,e,q3⟩=>?_)) hm
 subst e
 cases r3
 refine wpAny_truthy_bool ?_
 cases k with
 | false =>
  obtain ⟨k',e',q'⟩:=q3
  cases e'
  exact ite_ff ⟨H3,I3,q'⟩
 | true =>
  refine ite_tt (test_last (thn (hc pins s3 σ H3 _ I3 q3) fun w' s4 ⟨z',H4,I4,r4,q4⟩=>thn (ho' pins s4 σ H4 y z' u w' _ I4 r2 r4 q4) fun d' s5 ⟨z2,H5,I5,r5,k2,e2,q5⟩=>?_))
  subst e2
  cases r5
  exact wpAny_truthy_bool ⟨H5,I5,q5⟩
noncomputable def TruV (K:PySem.W.Frag) (x:V) (H:Hp) (k:Bool):Prop :=
 match x with
 | .non=>k=false
 | .bl b=>k=b
 | .int i=>k=(i != 0)
 | .str y=>y.length<=sizeLine/\k=((y.length:Int) != 0)
 | .byt y=>y.size<=sizeLine/\k=((y.size:Int) != 0)
 | .ref p=>(∃ xs,SqL K H p xs/\k=!xs.isEmpty)\/(∃ xs,SqT K H p xs/\k=!xs.isEmpty)\/∃ kvs,H p=some (.dK kvs)/\k=!kvs.isEmpty
 | _=>False
theorem isEmpty_kv {κ} {kvs} {vs:List (κ×Value)} (r:KV kvs vs):(!vs.isEmpty)=!kvs.isEmpty:=by
 cases r<;>rfl
theorem isEmpty_of {xs} {its} (r:Vals xs its):(!its.toArray.isEmpty)=!xs.isEmpty:=by
 cases r<;>simp
theorem line63:(sizeLine) < 2 ^ 63:=by decide
theorem tru_ok:TruR X (fun x H Q=>∃ k,TruV X.K x H k/\Q k H):=by
 rintro pins s σ H x v Q I rx ⟨k,e,q⟩
 have hl:=line63
 have hs:sizeLine=16777216:=sizeLine_eq
 cases x with
 | non =>
  cases rx
  have e':k=false:=e
  subst e'
  exact truthy_none ⟨H,I,q⟩
 | bl b =>
  cases rx
  have e':k=b:=e
  subst e'
  exact wpAny_truthy_bool ⟨H,I,q⟩
 | int i =>
  obtain ⟨t,rfl⟩:=rx
  have e':k=(i != 0):=e
  subst e'
  exact PySem.P.truthy_int ⟨H,I,q⟩
 | str y =>
  obtain ⟨t,rfl⟩:=rx
  obtain ⟨hy,e'⟩:y.length<=sizeLine/\k=((y.length:Int) != 0):=e
  subst e'
  exact PySem.P.truthy_str (by lia) ⟨H,I.tok _,q⟩
 | byt y =>
  obtain ⟨t,rfl⟩:=rx
  obtain ⟨hy,e'⟩:y.size<=sizeLine/\k=((y.size:Int) != 0):=e
  subst e'
  exact PySem.W.truthy_bytes (by lia) ⟨H,I.tok _,q⟩
 | ref p =>
  cases rx
  have e':(∃ xs,SqL X.K H p xs/\k=!xs.isEmpty)\/(∃ xs,SqT X.K H p xs/\k=!xs.isEmpty)\/∃ kvs,H p=some (.dK kvs)/\k=!kvs.isEmpty:=e
  rcases e' with ⟨xs,hx,e'⟩ | ⟨xs,hx,e'⟩ | ⟨kvs,hx,e'⟩
  ·subst e'
   obtain ⟨its,r,pl,hz⟩:=I.list hx
   have hlen:=r.length
   exact wpAny_truthy_list pl.isList (by simp only [List.size_toArray];lia) ⟨H,I.tok _,by rw [isEmpty_of r];exact q⟩
  ·subst e'
   obtain ⟨its,r,pl,hz⟩:=I.tuple hx
   have hlen:=r.length
   exact truthy_tuple pl (by simp only [List.size_toArray];lia) ⟨H,I.tok _,by rw [isEmpty_of r];exact q⟩
  ·subst e'
   obtain ⟨hz,hS,vs,r,m⟩:kvs.length<=sizeLine/\(p == sysModules)=false/\∃ vs,KV kvs vs/\s.heap.DictOf (mixKind X.prog X.w) p vs:=I.hok p _ hx
   have hlen:kvs.length=vs.length:=Paired.length r
   exact wpAny_truthy_dict hS m (by lia) ⟨H,I.tok _,by rw [isEmpty_kv r];exact q⟩
 | _=>exact (show False from e).elim
theorem pt_truth (ha:PE X a ta) (he:∀ whole,isTrue a X.env whole=(do let v ← whole;standAt a.pos;holding [v] (truthy v))) :
  PT X a (fun σ H Q=>ta σ H fun x H'=>∃ k,TruV X.K x H' k/\Q k H'):=by
 intro pins s σ H Q I h
 exact isTrue_plain (thn (ha pins s σ H _ I h) fun v s1 ⟨x,H1,I1,r1,q1⟩=>tru_ok pins s1 σ H1 x v Q I1 r1 q1) (he _)
theorem op_add_str:OpR X (binaryOp .Add) (fun x y H Q=>∃ i j,x=.str i/\y=.str j/\i.length + j.length<=sizeLine/\Q (.str (i++j)) H):=by
 rintro pins s σ H x y v u Q I rx ry ⟨i,j,rfl,rfl,hz,q⟩
 obtain ⟨t,rfl⟩:=rx
 obtain ⟨t',rfl⟩:=ry
 exact add_str (fun t' tk=>⟨.str (i++j),H,I.tok _,⟨_,rfl⟩,q⟩) hz
theorem vals1 {x} {us} (r:Vals [x] us):∃ u,us=[u]/\RelV x u:=by
 cases r with
 | cons r1 r2=>cases r2;exact ⟨_,rfl,r1⟩
theorem vals2 {x y} {us} (r:Vals [x,y] us):∃ u w',us=[u,w']/\RelV x u/\RelV y w':=by
 cases r with
 | cons r1 r2 =>
  cases r2 with
  | cons r3 r4=>cases r4;exact ⟨_,_,rfl,r1,r3⟩
theorem call_max2 (hc:X.calm=true):CallR X (.builtin "max") (fun xs H Q=>∃ i j,xs=[.int i,.int j]/\Q (.int (if j > i then j else i)) H):=by
 intro pins s σ H xs us Q I r h
 obtain ⟨i,j,rfl,q⟩:=h
 obtain ⟨u,w',rfl,⟨t,rfl⟩,⟨t',rfl⟩⟩:=vals2 r
 refine max_two_ints (I.ok.hd hc) fun h' tk k=>⟨_,H,I.kept k,?_,q⟩
 by_cases hj:j > i
 ·rw [if_pos hj,if_pos hj];exact ⟨_,rfl⟩
 ·rw [if_neg hj,if_neg hj];exact ⟨_,rfl⟩
end
end L2
namespace L2
open PySem PySem.Spec PyProof.Rows
structure ObjM (h:Heap) (x dx C:Addr) (mA:Str->Option Value):Prop where
 obj:h.get? x=some (PySem.W.instObj C dx)
 ns:h.Ns1 dx mA
 ne:dx≠x
theorem lookIn_ns {h:Heap} {dx} {mA} (n:h.Ns1 dx mA):∃ od,h.get? dx=some od/\∀ name,PySem.W.lookIn name od=some (mA name):=by
 obtain ⟨o,es,ep,ho,hd,hk,_,hm⟩:=n
 refine ⟨o,ho,fun name=>?_⟩
 have e:=hm name
 unfold nsFind findBy at e
 rw [← Array.find?_toList] at e
 unfold PySem.W.lookIn
 rw [hd]
 dsimp only
 split
 ·rename_i y q
  rw [q] at e
  exact congrArg some e
 ·rename_i q
  have a:es.toList.any (·.refKey)=false:=by
   rw [List.any_eq_false]
   intro y hy
   obtain ⟨z,t,hkey⟩:=hk y (Array.mem_toList_iff.mp hy)
   simp [DictEntry.refKey,hkey]
  grind
theorem ObjM.look {h} {x dx C} {mA} (I:ObjM h x dx C mA):∃ od,PySem.W.InstAt h x (PySem.W.instObj C dx) C (some od)/\∀ name,PySem.W.lookIn name od=some (mA name) :=
 let ⟨od,ho,hl⟩:=lookIn_ns I.ns
 ⟨od,⟨I.obj,rfl,rfl,ho⟩,hl⟩
section
variable {P:Program} {w:World} {H H':Hp} {h h':Heap} {a C dx:Addr} {fs fs':List (Str×V)}
theorem ins_get (hok:HOk P w H h) (e:H a=some (.ins C dx fs)):∃ mA,ObjM h a dx C mA/\(∀ f,RelO (fs.lookup f) (mA f))/\PySem.Within mA (fs.map (·.1))/\fs.length<=1000/\H dx=some (.own a):=by
 obtain ⟨d,z,ne,ob,mA,n,r,q⟩:=(hok a _ e)
 exact ⟨mA,⟨ob,n,ne⟩,r,q,z,d⟩
end
structure Cls (K:PySem.W.Frag) (C:Addr):Prop where
 pg:PySem.W.plainGet K C Str.empty=true
 hd:PySem.W.hasDictIn K C=true
 po:PySem.W.plainOver K C=true
 sa:PySem.W.findIn K (.ref C) "__setattr__"=some (some (.builtin "object.__setattr__"))
theorem Cls.get {K} {C} (c:Cls K C) f:PySem.W.plainGet K C f=true:=c.pg
section
variable {X:Cx} {pins:List (Addr×Obj)} {σ:St} {H:Hp} {s:Shared} {A:Around} {E:Value->Shared->Prop} {Q:Value->Shared->Prop} {c:Value} {b:Bool}
inductive TyOf (K:PySem.W.Frag) (H:Hp):V->Value->Prop where
 | non:TyOf K H .non (.type "NoneType")
 | bl (x:Bool):TyOf K H (.bl x) (.type "bool")
 | int (i:Int):TyOf K H (.int i) (.type "int")
 | str (x:Str):TyOf K H (.str x) (.type "str")
 | flt (x:UInt64):TyOf K H (.flt x) (.type "float")
 | lst {a:Addr} {xs:List V} (e:H a=some (.lst xs)):TyOf K H (.ref a) (.type "list")
 | frz {a:Addr} {o:Obj} {xs:List V} (e:H a=some (.frz o (.lst xs))):TyOf K H (.ref a) (.type "list")
 | tup {a:Addr} {xs:List V} (e:H a=some (.tup xs)):TyOf K H (.ref a) (.type "tuple")
 | dK {a:Addr} {kvs:List (Key×V)} (e:H a=some (.dK kvs)):TyOf K H (.ref a) (.type "dict")
 | dT {a:Addr} {kvs:List (List Key×V)} (e:H a=some (.dT kvs)):TyOf K H (.ref a) (.type "dict")
 | ins {a C dx:Addr} {fs:List (Str×V)} (e:H a=some (.ins C dx fs)) (cl:Cls K C) (ha:PySem.W.findIn K (.ref C) "__class__"=some (some (.builtin "object.__class__")))
   (hn:PySem.W.specialIn K (.builtin "object.__class__") "__get__"=some (some (.builtin "getset_descriptor.__get__"))) (htk:PySem.W.takesIn K (.builtin "object.__class__")=some true)
   (hm:PySem.W.mroIn K C (.type "object")=some true):TyOf K H (.ref a) (.ref C)
theorem isinst_ok {x} {u t} (I:Inv X pins σ H s) (rx:RelV x u) (ty:TyOf X.K H x t) (e:PySem.W.kitOne X.K t c=some b) (h:∀ tk,Q (.bool b) { s with toks:=tk }) :
  wpAny (model X.prog X.w) A (call (.builtin "isinstance") [u,c]) Q E s:=by
 cases ty with
 | non=>cases (rx);exact PySem.W.kia_one PySem.W.kitx_none I.kIn True.intro e (fun z=>nomatch z) h
 | bl y=>cases (rx);exact PySem.W.kia_one PySem.W.kitx_bool I.kIn True.intro e (fun z=>nomatch z) h
 | int i=>obtain ⟨t,q⟩:=(rx);cases q;exact PySem.W.kia_one PySem.W.kitx_int I.kIn True.intro e (fun z=>nomatch z) h
 | str y=>obtain ⟨t,q⟩:=(rx);cases q;exact PySem.W.kia_one PySem.W.kitx_str I.kIn True.intro e (fun z=>nomatch z) h
 | flt y=>obtain ⟨t,q⟩:=(rx);cases q;exact PySem.W.kia_one PySem.W.kitx_float I.kIn True.intro e (fun z=>nomatch z) h
 | @lst a xs ea =>
  cases (show u=Value.ref a from rx)
  obtain ⟨_,_,n,_,h1⟩:=(I.hok a _ ea)
  exact PySem.W.kia_one PySem.W.kitx_list I.kIn ⟨_,h1,rfl⟩ e (fun z=>nomatch z) h
 | @frz a ob xs ea =>
  cases (rx)
  obtain ⟨_,_,_,n,_,h1⟩:=(I.hok a _ ea)
  exact PySem.W.kia_one PySem.W.kitx_list I.kIn ⟨_,h1,rfl⟩ e (fun z=>nomatch z) h
 | @tup a xs ea =>
  cases (show u=Value.ref a from rx)
  obtain ⟨_,_,_,p⟩:=(I.hok a _ ea)
  obtain ⟨o,h1,h2,_⟩:=p
  exact PySem.W.kia_one PySem.W.kitx_tuple I.kIn ⟨o,h1,h2⟩ e (fun z=>nomatch z) h
 | @dK a kvs ea =>
  cases (show u=Value.ref a from rx)
  obtain ⟨_,_,vs,_,p⟩:=(I.hok a _ ea)
  obtain ⟨o,es,ep,h1,h2,_⟩:=p
  exact PySem.W.kia_one PySem.W.kitx_dict I.kIn ⟨o,h1,h2.1⟩ e (fun z=>nomatch z) h
 | @dT a kvs ea =>
  cases (show u=Value.ref a from rx)
  obtain ⟨_,_,xs,_,o,es,ep,h1,h2,_⟩:=(I.hok a _ ea)
  exact PySem.W.kia_one PySem.W.kitx_dict I.kIn ⟨o,h1,h2.1⟩ e (fun z=>nomatch z) h
 | @ins a C dx fs ea cl ha hn htk hm =>
  cases (rx)
  obtain ⟨mA,O,_⟩:=ins_get I.hok ea
  obtain ⟨od,J,_⟩:=O.look
  exact PySem.W.kia_one (PySem.W.kitx_own (cl.get _) cl.hd ha hn htk hm) I.kIn J e (fun z=>nomatch z) h
end
end L2
namespace L2
open PySem PySem.Spec PyProof.Rows
structure Room (k:Nat) (A:Around):Prop where
 hd:A.handled=none
 dp:A.depth + 3 * k + 5 < recursionLimit
 un:A.units + 16 * k + 200 < cLine
 gd:A.guards=some []
theorem Room.mono {j k} {A} (r:Room k A) (h:j<=k):Room j A:=⟨r.hd,by have:=r.dp;lia,by have:=r.un;lia,r.gd⟩
theorem Room.deeper {k} {A} (r:Room (k + 1) A) env:Room k (A.deeper env) :=
 ⟨r.hd,by have:=r.dp;show A.depth + 1 + 3 * k + 5 < _;lia,by have:=r.un;show A.units + 3 + 16 * k + 200 < _;lia,r.gd⟩
theorem Room.depth {k} {A} (r:Room k A):A.depth < recursionLimit:=by have:=r.dp;lia
theorem Room.units {k} {A} (r:Room k A):A.units + 64 < cLine:=by have:=r.un;lia
noncomputable abbrev tNil:TA:=fun _ H Q=>Q [] H
noncomputable abbrev tCons (ta:TE) (tr:TA):TA:=fun σ H Q=>ta σ H fun x H1=>tr σ H1 fun xs H2=>Q (x :: xs) H2
section
variable {X:Cx} {e:Expr} {es:List Expr} {te:TE} {t:TA} {pos:Pos}
theorem pa_nil:PA X [] tNil:=fun _ _ _ _ H Q I h=>Calls.spliced_nil ⟨[],H,I,.nil,h⟩
theorem pa_cons (ha:PE X e te) (hr:PA X es t) (hs:starEach (e :: es) X.env=(false,eval e X.env) :: starEach es X.env:=by rfl):PA X (e :: es) (tCons te t):=by
 intro pos pins s σ H Q I h
 rw [hs]
 exact Calls.spliced_cons (thn (ha pins s σ H _ I h) fun u s1 ⟨x,H1,I1,r1,q1⟩=>(thn (hr pos pins s1 σ H1 _ I1 q1) fun us s2 ⟨xs,H2,I2,r2,q2⟩=>⟨x :: xs,H2,I2,.cons r1 r2,q2⟩))
noncomputable abbrev tTup (t:TA):TE:=fun σ H Q=>t σ H fun xs H1=>xs.length<=sizeLine/\∀ p,H1 p=none->Q (.ref p) (upd H1 p (.tup xs))
noncomputable abbrev tLst (t:TA):TE:=fun σ H Q=>t σ H fun xs H1=>xs.length<=sizeLine/\∀ p,H1 p=none->Q (.ref p) (upd H1 p (.lst xs))
theorem pe_tup {x1} (h:PA X es t):PE X (.Tuple es x1 pos) (tTup t):=by
 intro pins s σ H Q I hq
 refine wpAny_Tuple_spliced (thn (h pos pins s σ H _ I hq) fun us s1 ⟨xs,H1,I1,r,z,q⟩=>⟨by rw [← r.length];exact z,(⟨.ref s1.heap.objs.size,upd H1 s1.heap.objs.size _,I1.laid (t':=s1.toks) (fun b u e=>Heap.get?_push_of_some _ e) (Nat.le_refl _) ?_,rfl,q _ (I1.hok.fresh (Nat.le_refl _))⟩)⟩)
 exact ⟨z,us,r,⟨_,Heap.get?_push_size _ rfl,rfl,rfl,_,rfl⟩⟩
theorem pe_lst (h:PA X es t):PE X (.List es pos) (tLst t):=by
 intro pins s σ H Q I hq
 refine wpAny_List_spliced (thn (h pos pins s σ H _ I hq) fun us s1 ⟨xs,H1,I1,r,z,q⟩=>⟨by rw [← r.length];exact z,(⟨.ref s1.heap.objs.size,upd H1 s1.heap.objs.size _,I1.laid (t':=s1.toks) (fun b u e=>Heap.get?_push_of_some _ e) (Nat.le_refl _) ?_,rfl,q _ (I1.hok.fresh (Nat.le_refl _))⟩)⟩)
 exact ⟨z,us,0,r,Heap.get?_push_size _ rfl⟩
end
noncomputable abbrev Sp:=List V->Hp->VK->XK->Prop
noncomputable abbrev CXT:=List Env->Hp->Shared->XK->Value->Shared->Prop
structure Env0 (P:Program) (w:World) (K:PySem.W.Frag) (mg:Str->Option Value) (base:Heap) (A:Around) (outer:List Env) (s:Shared) (H:Hp):Prop where
 frames:A.frames=some outer
 mod:Mod K mg base
 bs:∀ b o,base.get? b=some o->s.heap.get? b=some o/\H b=none
 bsz:base.objs.size<=s.heap.objs.size
 funs:s.heap.FunFrames base outer
 frf:∀ b∈frs outer,H b=none
 hok:HOk P w H s.heap
 bare:AllBare s.gens
noncomputable def CE (outer:List Env) (P:Program) (w:World) (H:Hp) (s:Shared) (Q:VK) (u:Value) (s':Shared):Prop :=
 ∃ v H',s'.os=s.os/\AllBare s'.gens/\Un (frs outer) [] H H' s.heap s'.heap/\HOk P w H' s'.heap/\RelV v u/\Q v H'
noncomputable def CR (CX:CXT) (outer:List Env) (P:Program) (w:World) (H:Hp) (s:Shared) (Q:VK) (E:XK) (r:Result) (s':Shared):Prop :=
 match r with
 | .ok (.ret u)=>CE outer P w H s Q u s'
 | .ok _=>False
 | .error e=>CX outer H s E e s'
structure FnOk (P:Program) (w:World) (K:PySem.W.Frag) (mg:Str->Option Value) (base:Heap) (CX:CXT) (k:Nat) (f:Addr) (fd:FuncData) (ps:List Str) (sp:Sp):Prop where
 len:∀ vs H Q E,sp vs H Q E->vs.length=ps.length
 run:∀ (A:Around) (outer:List Env) (s:Shared) (H:Hp) (args:Args) (us:List Value) (vs:List V) (Q:VK) (E:XK),Room k A->Env0 P w K mg base A outer s H->BindsTo s fd args (ps.zip us)->Vals vs us->sp vs H Q E ->
  codeAny (model P w) A (.call (.ref f) args) (CR CX outer P w H s Q E) s
section
variable {X:Cx} {pins:List (Addr×Obj)} {σ:St} {H:Hp} {s s':Shared}
theorem Inv.env0 (I:Inv X pins σ H s):Env0 X.prog X.w X.K X.mg X.base X.A X.stack s H :=
 ⟨I.ok.frames,I.ok.mod,I.bs,Nat.le_trans I.ok.bsz I.sz,I.stack,I.stkFree,I.hok,I.bare⟩
theorem Inv.after {Q} {u} (I:Inv X pins σ H s) (h:CE X.stack X.prog X.w H s Q u s'):EP X pins σ Q u s':=by
 obtain ⟨v,H',os,bare,un,hok,r,q⟩:=h
 obtain ⟨hh,g,d,t,os'⟩:=s'
 obtain rfl:os'=s.os:=os
 exact ⟨v,H',I.call (h':=hh) (g':=g) (d':=d) (t':=t) un hok bare (fun b z=>absurd z (by simp)),r,q⟩
end
noncomputable abbrev tCall (sp:Sp) (dvs:List V) (E:XK) (t:TA):TE:=fun σ H Q=>t σ H fun vs H1=>sp (vs++dvs) H1 Q E
noncomputable def Binds (K:PySem.W.Frag) (fd:FuncData) (ps:List Str) (ds:List Value):Prop :=
 ∀ (s:Shared) (us:List Value),K.In s.heap->(us++ds).length=ps.length->BindsTo s fd ⟨us,[]⟩ (ps.zip (us++ds))
theorem Binds.all {K} {fd} {ps} (h:∀ us,us.length=ps.length->bindArgs fd ⟨us,[]⟩=pure (ps.zip us)):Binds K fd ps []:=fun s us _ hl=>by
 rw [List.append_nil] at hl ⊢
 exact .of_eq (h us hl)
noncomputable def Passes (CX:CXT) (X:Cx) (E:XK):Prop:=∀ (pins:List (Addr×Obj)) (σ:St) (H:Hp) (s:Shared) (e:Value) (s':Shared),Inv X pins σ H s->CX X.stack H s E e s'->X.xe e s'
section
variable {X:Cx} {CX:CXT} {k:Nat} {f C:Addr} {fd:FuncData} {ps:List Str} {sp:Sp} {dvs:List V} {ds:List Value} {E:XK} {x m:Str} {p pos apos:Pos} {e o:Expr} {es:List Expr} {ta:TE} {t:TA}
theorem run_fn {pins} {σ:St} {H} {s} {Q} {us} {vs} (F:FnOk X.prog X.w X.K X.mg X.base CX k f fd ps sp) (hr:Room k X.A) (hb:Binds X.K fd ps ds) (hd:Vals dvs ds) (hx:Passes CX X E)
  (I:Inv X pins σ H s) (r:Vals vs us) (h:sp (vs++dvs) H Q E):wpAny (model X.prog X.w) X.A (call (.ref f) us) (EP X pins σ Q) X.xe s:=by
 have r2:=r.append hd
 have hl:(us++ds).length=ps.length:=by rw [← r2.length];exact F.len _ _ _ _ h
 refine wpAny_call (codeAny_mono (F.run X.A X.stack s H _ _ _ Q E hr I.env0 (hb s us I.kIn hl) r2 h) fun r s' hq=>?_)
 cases r with
 | error e=>exact hx pins σ H s e s' I hq
 | ok fl =>
  cases fl with
  | ret u=>exact I.after hq
  | next=>exact False.elim hq
  | brk=>exact False.elim hq
  | cont=>exact False.elim hq
theorem pe_call (F:FnOk X.prog X.w X.K X.mg X.base CX k f fd ps sp) (hr:Room k X.A) (hg:Gl X x) (hm:X.mg x=some (.ref f)) (hk:PySem.W.keepIn X.K (.ref f)=true) (hb:Binds X.K fd ps ds) (hd:Vals dvs ds) (hx:Passes CX X E)
  (ha:PA X (e :: es) t) (hdb:(x == ("__debug__":Str))=false:=by decide) (he:starEach (e :: es) X.env=(false,eval e X.env) :: starEach es X.env:=by rfl) (hpl:(backTo pos (starEach es X.env)).any (·.1)=false:=by rfl) :
  PE X (.Call (.Name x p) (e :: es) [] pos) (tCall sp dvs E t):=by
 intro pins s σ H Q I h
 exact wpAny_Call_Name_kw (ld_glob I hg hm (PySem.W.callWith_K I.ok.mod.kin hk (thn (ha pos pins s σ H _ I h) fun us s1 ⟨vs,H1,I1,r,q⟩=>⟨I1.kIn,(run_fn F hr hb hd hx I1 r q)⟩) he hpl) hdb)
end
structure FnScope (N P:List Str) (sc:Scope):Prop where
 kind:sc.kind=.function
 co:sc.isCoroutine=false
 gen:sc.isGenerator=false
 nd:N.Nodup
 pre:N.take P.length=P
 par:∀ x∈P,sc.names.lookup x=some .local\/sc.names.lookup x=some .cell
 nofree:∀ y∈sc.names,y.2≠.free
theorem bindL_out {kindOf} {x} : ∀ {binds} {m}, (∀ v, (x, v) ∉ binds) → bindL kindOf binds m x = m x
  | [], _, _ => rfl
  | (n, v) :: r, m, h => by
    unfold bindL
    rw [bindL_out fun w hw => h w (List.mem_cons_of_mem _ hw)]
    split
    · have : x ≠ n := by rintro rfl; exact h v List.mem_cons_self
      simp [this]
    · rfl
theorem bindC_out {kindOf} {x} : ∀ {binds} {m}, (∀ v, (x, v) ∉ binds) → bindC kindOf binds m x = m x
  | [], _, _ => rfl
  | (n, v) :: r, m, h => by
    unfold bindC
    rw [bindC_out fun w hw => h w (List.mem_cons_of_mem _ hw)]
    split
    · rfl
    · have : x ≠ n := by rintro rfl; exact h v List.mem_cons_self
      simp [this]
theorem bindL_get {kindOf} {x} {v}:∀ {P:List Str} {vs} {i:Nat} {m},P.Nodup->P[i]?=some x->vs[i]?=some v->kindOf x=some .local ->
  bindL kindOf (P.zip vs) m x=some v
 | [],_,_,_,_,h,_,_=>by simp at h
 | p :: P,w :: vs,0,m,nd,h1,h2,hk=>by
  simp at h1 h2;subst h1;subst h2
  show bindL kindOf (_ :: P.zip vs) m p=_
  unfold bindL
  rw [bindL_out fun v hv=>(List.nodup_cons.mp nd).1 (List.of_mem_zip hv).1,if_pos hk]
  simp
 | p :: P,w :: vs,i + 1,m,nd,h1,h2,hk=>by
  unfold bindL
  exact bindL_get (List.nodup_cons.mp nd).2 (by simpa using h1) (by simpa using h2) hk
theorem bindC_get {kindOf} {x} {v}:∀ {P:List Str} {vs} {i:Nat} {m},P.Nodup->P[i]?=some x->vs[i]?=some v->kindOf x≠some .local ->
  bindC kindOf (P.zip vs) m x=some v
 | [],_,_,_,_,h,_,_=>by simp at h
 | p :: P,w :: vs,0,m,nd,h1,h2,hk=>by
  simp at h1 h2;subst h1;subst h2
  show bindC kindOf (_ :: P.zip vs) m p=_
  unfold bindC
  rw [bindC_out fun v hv=>(List.nodup_cons.mp nd).1 (List.of_mem_zip hv).1,if_neg hk]
  simp
 | p :: P,w :: vs,i + 1,m,nd,h1,h2,hk=>by
  unfold bindC
  exact bindC_get (List.nodup_cons.mp nd).2 (by simpa using h1) (by simpa using h2) hk
noncomputable def start (N:List Str) (vs:List V):St:=vs.map some++List.replicate (N.length - vs.length) none
noncomputable def cxOf (CX:CXT) (P:Program) (w:World) (K:PySem.W.Frag) (mg:Str->Option Value) (base:Heap) (N:List Str) (qual:Str) (scope:Scope) (f:Addr) (cd:Value) (A:Around) (outer:List Env) (s:Shared) (H:Hp) (E:XK):Cx where
 prog:=P
 w:=w
 K:=K
 mg:=mg
 base:=base
 A:=A.deeper (envOfC qual scope s.heap.objs.size f cd)
 N:=N
 s₀:=s
 H₀:=H
 env:=envOfC qual scope s.heap.objs.size f cd
 outer:=outer
 stack:=envOfC qual scope s.heap.objs.size f cd :: outer
 ex:=[]
 calm:=true
 fn:=fun _=>true
 pn:=[]
 xe:=fun e s'=>wpAny (model P w) (A.deeper (envOfC qual scope s.heap.objs.size f cd)) (leaving (envOfC qual scope s.heap.objs.size f cd) e) (fun _ s''=>CX outer H s E e s'') (fun e' s''=>CX outer H s E e' s'') s'
theorem cell_has {sc:Scope} {n} {x} (h:sc.names.lookup x=some .cell):∃ c,(cellsFrom n sc.names []).lookup x=some c:=by
 exact Option.isSome_iff_exists.mp (PySem.W.cellsFrom_some sc.names n [] (.inl h))
theorem inv_start {CX} {P} {w} {K} {mg} {base} {N ps} {qual} {scope} {f} {cd} {A} {outer} {s s1} {H} {E} {us} {vs}
  (S:FnScope N ps scope) (hd:A.handled=none) (e0:Env0 P w K mg base A outer s H) (hl:vs.length=ps.length) (r:Vals vs us)
  (x:InCallC s s.heap.objs.size (bindL (envOfC qual scope s.heap.objs.size f cd).kindOf (ps.zip us) fun _=>none) (cellsFrom (s.heap.objs.size + 1) scope.names []) (bindC (envOfC qual scope s.heap.objs.size f cd).kindOf (ps.zip us) fun _=>none) s1) :
  Inv (cxOf CX P w K mg base N qual scope f cd A outer s H E) [] (start N vs) H s1:=by
 have hpl:ps.length<=N.length:=by have:=congrArg List.length S.pre;rw [List.length_take] at this;lia
 obtain ⟨h1,tk,rfl,hk⟩:=x.done
 have noA:∀ b,b∉(cxOf CX P w K mg base N qual scope f cd A outer s H E).ex:=fun b z=>absurd (show b∈([]:List Addr) from z) (by simp)
 refine ⟨⟨e0.mod,S.kind,rfl,rfl,Nat.le_refl _,fun y z c h1 h2=>?_,fun y hy=>?_,fun y c _ h=>?_,fun _=>hd,Around.frames_deeper e0.frames,.inr ⟨rfl,rfl⟩,fun b z=>absurd z (noA b),e0.bs,e0.bsz,fun b _ _=>noA b,fun b z=>absurd z (noA b),e0.funs,e0.frf⟩,
  rfl,e0.bare,Un.kept hk,⟨_,x.toInCall.ns,fun i y v h1 h2 h3=>?_⟩,fun y c h=>⟨_,x.cell y c h⟩,e0.hok.fresh (Nat.le_refl _),fun y c h=>?_,fun p hp=>absurd (show p∈([]:List _) from hp) (by simp),e0.hok.kept hk,?_⟩
 ·exact name_of_addr x.apart (PySem.mem_of_lookup h1) (PySem.mem_of_lookup h2)
 ·rcases hy with hy | hy
  ·exact cell_has hy
  ·exact absurd rfl (S.nofree _ (PySem.mem_of_lookup hy))
 ·exact Nat.le_of_lt (x.above y c (PySem.mem_of_lookup h))
 ·have hi:i < vs.length:=by
   unfold start at h2
   by_cases hi:i < vs.length
   ·exact hi
   ·rw [List.getElem?_append_right (by simpa using hi),List.getElem?_replicate] at h2
    split at h2<;>cases h2
  have ha:vs[i]?=some v:=by
   unfold start at h2
   rw [List.getElem?_append_left (by simpa using hi),List.getElem?_map] at h2
   cases e:vs[i]? with
   | none=>rw [e] at h2;cases h2
   | some a=>rw [e] at h2;cases h2;rfl
  obtain ⟨u,hu,rv⟩:=r.get ha
  have hp:ps[i]?=some y:=by
   rw [← S.pre,List.getElem?_take_of_lt (by lia)];exact h1
  have ndP:ps.Nodup:=by rw [← S.pre];exact S.nd.sublist (List.take_sublist _ _)
  refine ⟨u,rv,?_⟩
  rcases S.par y (List.mem_of_getElem? hp) with k | k
  ·exact .inl ⟨k,bindL_get ndP hp hu k⟩
  ·obtain ⟨c,e⟩:=cell_has k
   refine .inr ⟨.inl k,c,e,?_⟩
   have q:=x.cell y c e
   rw [bindC_get ndP hp hu (by show scope.names.lookup y≠_;rw [k];decide)] at q
   exact q
 ·exact e0.hok.fresh (Nat.le_of_lt (x.above y c (PySem.mem_of_lookup h)))
 ·unfold start
  show _=N.length
  rw [List.length_append,List.length_map,List.length_replicate]
  lia
theorem fn_of {CX} {P} {w} {K} {mg} {base} {k} {f} {name qual} {params} {body} {scope} {dV kV doc pm cdv ct oc} {an od}
  {osl} {N ps} {sp} (lk:K.lookup f=some ⟨oc,od,.func (PySem.W.fnOf name qual params body scope dV kV doc pm an cdv ct),osl⟩) (hcd:PySem.W.codeIn K cdv qual=true) (S:FnScope N ps scope)
  (len:∀ vs H Q E,sp vs H Q E->vs.length=ps.length)
  (hbody:∀ A (outer) (s) (H) (vs) (Q) (E),Room k (A.deeper (envOfC qual scope s.heap.objs.size f cdv))->sp vs H Q E ->
   ∃ t,PSs (cxOf CX P w K mg base N qual scope f cdv A outer s H E) body t/\t { nx:=fun _ H'=>Q .non H',rt:=Q } (start N vs) H) :
  FnOk P w K mg base CX (k + 1) f (PySem.W.fnOf name qual params body scope dV kV doc pm an cdv ct) ps sp:=by
 refine ⟨len,fun A outer s H args us vs Q E hr e0 hb r hsp=>?_⟩
 have KX:=e0.mod.kin.keeps fun b o e=>(e0.bs b o e).1
 have hkind:∀ y∈ps.zip us,scope.names.lookup y.1=some .local\/(scope.names.lookup y.1=some .cell/\((cellsFrom (s.heap.objs.size + 1) scope.names []).lookup y.1).isSome=true):=fun ⟨n,v⟩ hy=>by
  rcases S.par n (List.of_mem_zip hy).1 with q | q
  ·exact .inl q
  ·exact .inr ⟨q,PySem.W.cellsFrom_some _ _ _ (.inl q)⟩
 refine codeAny_call_function hr.depth (KX _ _ lk) rfl S.co S.gen rfl (PySem.W.codeRec_of KX hcd) (hb _ _ _ _ (wpAny_newFunctionEnv_cells S.kind hkind fun env he s1 x=>?_))
 subst he
 refine ⟨(e0.mod.nolimit.keeps fun b o e=>(e0.bs b o e).1).keeps x.toInCall.keep,codeAny_func ?_⟩
 obtain ⟨t,ht,hq⟩:=hbody A outer s H vs Q E (hr.deeper _) hsp
 have I:Inv (cxOf CX P w K mg base N qual scope f cdv A outer s H E) [] _ H s1:=inv_start S hr.hd e0 (len _ _ _ _ hsp) r x
 refine wpAny_mono (ht [] s1 _ H _ I hq) (fun fl s' hs=>?_) fun e s' hs=>hs
 have fin:∀ {σ'} {H'} {v} {u},Inv (cxOf CX P w K mg base N qual scope f cdv A outer s H E) [] σ' H' s'->RelV v u->Q v H'->CE outer P w H s Q u s' :=
  fun {σ' H' v u} J rv q=>⟨v,H',J.os,J.bare,J.base,J.hok,rv,q⟩
 cases fl with
 | ret u =>
  obtain ⟨v,σ',H',J,rv,q⟩:=hs
  exact fin J rv q
 | next =>
  obtain ⟨σ',H',J,q⟩:=hs
  exact fin (v:=V.non) J rfl q
 | brk =>
  obtain ⟨_,_,_,q⟩:=hs
  exact False.elim q
 | cont =>
  obtain ⟨_,_,_,q⟩:=hs
  exact False.elim q
end L2
namespace L2
open PySem PySem.Spec PyProof.Rows
section
variable {X:Cx} {x:Str} {p pos:Pos} {e:Expr} {es:List Expr} {t:TA} {id T:String} {r:List V->Hp->VK->Prop}
noncomputable abbrev tCB (r:List V->Hp->VK->Prop) (t:TA):TE:=fun σ H Q=>t σ H fun vs H1=>r vs H1 Q
theorem pe_callB (hc:CallR X (.builtin id) r) (hg:Gl X x) (hm:X.mg x=none) (hv:bootBuiltins x=some (.builtin id)) (ha:PA X (e :: es) t) (hn:x≠"__name__":=by decide) (hdb:(x == ("__debug__":Str))=false:=by decide)
  (he:starEach (e :: es) X.env=(false,eval e X.env) :: starEach es X.env:=by rfl) (hpl:(backTo pos (starEach es X.env)).any (·.1)=false:=by rfl):PE X (.Call (.Name x p) (e :: es) [] pos) (tCB r t):=by
 intro pins s σ H Q I h
 exact wpAny_Call_Name_kw (ld_blt I hg hm hv (PyProof.Rows.callWith_builtin1 (thn (ha pos pins s σ H _ I h) fun us s1 ⟨vs,H1,I1,r1,q1⟩=>hc pins s1 σ H1 vs us Q I1 r1 q1) he hpl) hn hdb)
theorem pe_callTy (hc:CallR X (.type T) r) (hg:Gl X x) (hm:X.mg x=none) (hv:bootBuiltins x=some (.type T)) (ha:PA X (e :: es) t) (hn:x≠"__name__":=by decide) (hdb:(x == ("__debug__":Str))=false:=by decide)
  (he:starEach (e :: es) X.env=(false,eval e X.env) :: starEach es X.env:=by rfl) (hpl:(backTo pos (starEach es X.env)).any (·.1)=false:=by rfl):PE X (.Call (.Name x p) (e :: es) [] pos) (tCB r t):=by
 intro pins s σ H Q I h
 exact wpAny_Call_Name_kw (ld_blt I hg hm hv (PyProof.Rows.callWith_type1 (thn (ha pos pins s σ H _ I h) fun us s1 ⟨vs,H1,I1,r1,q1⟩=>hc pins s1 σ H1 vs us Q I1 r1 q1) he hpl) hn hdb)
end
end L2
namespace HT
open PySem PyProof.Rows
section
variable {prog:Program} {w:World} {A:Around} {E:Value->Shared->Prop} {s:Shared}
theorem cat_tup {t b} {vs ws} {Q} (ht:IsTup s.heap t vs.toArray) (hb:IsTup s.heap b ws.toArray) (hv:vs≠[])
  (h1:ws=[]->Q (.ref t) s) (h2:ws≠[]->Q (.ref s.heap.objs.size) { s with heap:=s.heap.push { cls:=.type "tuple",data:=.seq (vs++ws).toArray } })
  (hsz:vs.length + ws.length<=sizeLine):wpAny (model prog w) A (binaryOp .Add (.ref t) (.ref b)) Q E s:=by
 obtain ⟨⟨cls,dd,data,sl⟩,ho,hc,n,hd⟩:=id ht
 obtain ⟨⟨cls2,dd2,data2,sl2⟩,ho2,hc2,n2,hd2⟩:=id hb
 subst hc hd hc2 hd2
 have e:vs.toArray++ws.toArray=(vs++ws).toArray:=by simp
 by_cases hw:ws=[]
 ·exact concat_meets ⟨_,ho,rfl⟩ ⟨_,ho2,rfl⟩ noFill_tuple_add seq_tuple_add PySem.F.slot_tuple_add PySem.F.entry_tuple_add (PySem.F.args_tuple_add_2 _ _)
   (tuple_addW1 t b vs.toArray ws.toArray n n2 dd dd2 sl sl2 (by simpa using hv) (by simp [hw])) ⟨ho,ho2,h1 hw⟩
 ·refine concat_meets ⟨_,ho,rfl⟩ ⟨_,ho2,rfl⟩ noFill_tuple_add seq_tuple_add PySem.F.slot_tuple_add PySem.F.entry_tuple_add (PySem.F.args_tuple_add_2 _ _)
   (tuple_addW2 t b vs.toArray ws.toArray n n2 dd dd2 sl sl2 (by simpa using hv) (by simpa using hw) (hsz)) ⟨ho,ho2,?_⟩
  rw [e]
  exact h2 hw
noncomputable def sIx (n d:Nat):Option Int->Nat
 | none=>d
 | some v=>if v < 0 then (v + (n:Int)).toNat else min v.toNat n
theorem clip_eq v (n d:Nat):(if v < 0 then max (v + (n:Int)) 0 else min v n)=((sIx n d (some v):Nat):Int):=by
 show _=(((if v < 0 then (v + n).toNat else min v.toNat n):Nat):Int)
 by_cases hv:v < 0
 ·simp only [if_pos hv];lia
 ·grind
theorem adjust_gen (lo hi) (n:Nat):Builtin.Slice.sliceAdjust lo hi 1 n=(((sIx n 0 lo:Nat):Int),((sIx n n hi):Int)):=by
 have h1:¬ ((1:Int) < 0):=by lia
 unfold Builtin.Slice.sliceAdjust
 refine Prod.ext ?_ ?_
 ·cases lo with
  | none=>rfl
  | some v=>exact clip_eq v n 0
 ·cases hi with
  | none=>rfl
  | some v=>exact clip_eq v n n
theorem places_gen (i j:Nat):Builtin.Slice.slicePlaces i j 1=j - i:=by
 unfold Builtin.Slice.slicePlaces
 have h1:1 > 0:=by lia
 simp
 split<;>lia
theorem slicePart_ {v} {o} {Q} (p:IsPart v o) (h:Q o s):wpAny (model prog w) A (Builtin.Slice.slicePartIndex v) Q E s:=by
 cases p with
 | none=>exact slicePart_none h
 | int i t=>exact slicePart_int h
theorem sliceApplied_gen {sl} {vl vu} {lo hi} {n} {Q:Int×Int×Nat->Shared->Prop} (hs:s.heap.IsSliceOf sl vl vu .none) (pl:IsPart vl lo) (pu:IsPart vu hi)
  (h:Q (((sIx n 0 lo:Nat):Int),1,sIx n n hi - sIx n 0 lo) s):wpAny (model prog w) A (Builtin.Slice.sliceApplied (.ref sl) (pure n)) Q E s:=by
 obtain ⟨os,hos,hcs,hds⟩:=id hs
 refine wpAny_bind (wpAny_bind (wpAny_field hos hds (x:=vl) rfl (wpAny_bind (wpAny_field hos hds (x:=vu) rfl (wpAny_bind (wpAny_field hos hds (x:=.none) rfl (wpAny_pure (wpAny_bind (slicePart_none (wpAny_bind (slicePart_ pl (wpAny_bind (slicePart_ pu (wpAny_bind (wpAny_pure ?_)))))))))))))))
 show wpAny _ _ (match Builtin.Slice.sliceAdjust lo hi 1 n with | (lo,hi)=>pure (lo,_,Builtin.Slice.slicePlaces lo hi 1)) _ _ s
 rw [adjust_gen lo hi n]
 show wpAny _ _ (pure _) _ _ s
 rw [places_gen]
 exact wpAny_pure h
theorem pick_gen (xs:Array Value) (i k:Nat):((List.range k).filterMap fun (m:Nat)=>xs[(i + (m:Int) * 1).toNat]?).toArray=((xs.toList.drop i).take k).toArray:=by
 have e:(fun (m:Nat)=>xs[(i + (m:Int) * 1).toNat]?)=fun m=>xs[i + m]?:=by
  funext m
  have:(i + (m:Int) * 1).toNat=i + m:=by lia
  rw [this]
 rw [e]
 have:=pick_run xs i k
 rw [List.filterMap_map] at this
 have e2:(_∘fun x=>i + x)=fun m=>xs[i + m]?:=rfl
 rw [e2] at this
 rw [this]
theorem getItem_tuple_cut {t sl} {items} {vl vu} {lo hi} {Q} (ht:IsTup s.heap t items) (hs:s.heap.IsSliceOf sl vl vu .none) (pl:IsPart vl lo) (pu:IsPart vu hi)
  (hw:¬ (sIx items.size 0 lo=0/\sIx items.size items.size hi=items.size))
  (h:Q (.ref s.heap.objs.size) { s with heap:=s.heap.push { cls:=.type "tuple",data:=.seq ((items.toList.drop (sIx items.size 0 lo)).take (sIx items.size items.size hi - sIx items.size 0 lo)).toArray } })
  (hsz:items.size<=sizeLine):wpAny (model prog w) A (getItem (.ref t) (.ref sl)) Q E s:=by
 have htake:sizeOk (.seq ((items.toList.drop (sIx items.size 0 lo)).take (sIx items.size items.size hi - sIx items.size 0 lo)).toArray):=by
  show ((items.toList.drop _).take _).toArray.size<=sizeLine
  rw [List.size_toArray,List.length_take,List.length_drop,Array.length_toList]
  lia
 obtain ⟨os,hos,hcs,hds⟩:=id hs
 have hTs:s.TypeIs (.ref sl) "slice":=⟨os,hos,hcs⟩
 unfold getItem
 try with_reducible refine wpAny_holding ?_
 refine wpAny_bind (wpAny_sequenceKey ht.typeIs (by decide) ?_)
 refine wpAny_bind (wpAny_callSpecial?_slot ht.typeIs PyProof.Rows.slot_tuple_getitem
  (wpAny_call_entry PyProof.Rows.slot_tuple_getitem ht.typeIs entry_tuple_getitem ?_ (args_tuple_getitem _ _)))
 show wpAny _ _ (Builtin.Tuple.tupleItemsOf _ >>= _) _ _ s
 refine wpAny_bind (tupleItemsOf_ ht (wpAny_bind (wpAny_typeOf hTs (wpAny_bind (sliceApplied_gen hs pl pu ?_)))))
 have hno:¬ ((((sIx items.size 0 lo:Nat):Int) == 0 && (1:Int) == 1 && (sIx items.size items.size hi - sIx items.size 0 lo) == items.size)=true):=by
  grind
 show wpAny _ _ (if _=true then _ else _) _ _ s
 rw [if_neg hno,pick_gen]
 first
  | exact wpAny_bind (wpAny_newObj_type (wpAny_bind (wpAny_pure (wpAny_pure ⟨_,rfl,wpAny_pure h⟩))) htake)
end
end HT
namespace L2
open PySem PySem.Spec PyProof.Rows
noncomputable abbrev TO:=St->Hp->(Option Int->Hp->Prop)->Prop
noncomputable def PO (X:Cx) (e:Option Expr) (t:TO):Prop :=
 ∀ (pins:List (Addr×Obj)) (s:Shared) (σ:St) (H:Hp) (Q:Option Int->Hp->Prop),Inv X pins σ H s->t σ H Q ->
  wpAny (model X.prog X.w) X.A (evalPart e X.env) (fun u s'=>∃ o H',Inv X pins σ H' s'/\IsPart u o/\Q o H') X.xe s
noncomputable abbrev tNoPart:TO:=fun _ H Q=>Q none H
noncomputable abbrev tPart (t:TE):TO:=fun σ H Q=>t σ H fun x H1=>∃ i,x=.int i/\Q (some i) H1
theorem intsAre_of {ns}:∀ {us},Vals (ns.map V.int) us->IntsAre us ns:=by
 induction ns with
 | nil=>intro us r;cases r;exact .nil
 | cons n ns ih =>
  intro us r
  cases r with
  | cons r1 r2 =>
   obtain ⟨t,e⟩:=r1
   subst e
   exact .cons n t (ih r2)
section
variable {X:Cx} {e:Expr} {te:TE} {lo hi:Option Expr} {tl th:TO} {pos p2:Pos}
theorem po_none:PO X none tNoPart:=by
 intro pins s σ H Q I h
 exact wpAny_pure ⟨none,H,I,.none,h⟩
theorem po_some (h:PE X e te):PO X (some e) (tPart te):=by
 intro pins s σ H Q I hw
 refine thn (h pins s σ H _ I hw) fun u s1 ⟨x,H1,I1,r1,q1⟩=>?_
 obtain ⟨i,rfl,q⟩:=q1
 obtain ⟨t,rfl⟩:=r1
 exact ⟨some i,H1,I1,.int i t,q⟩
noncomputable def SlR (X:Cx) (r:V->Option Int->Option Int->Hp->VK->Prop):Prop :=
 ∀ (pins:List (Addr×Obj)) (s:Shared) (σ:St) (H:Hp) (x:V) (v vl vu:Value) (lo hi:Option Int) (sl:Addr) (Q:VK),Inv X pins σ H s->RelV x v->s.heap.IsSliceOf sl vl vu .none->IsPart vl lo->IsPart vu hi->r x lo hi H Q ->
  ∃ T id,typeLookup (.type T) "__getitem__"=pure (some (.builtin id))/\s.TypeIs v T/\wpAny (model X.prog X.w) X.A (getItem v (.ref sl)) (EP X pins σ Q) X.xe s
theorem SlR.or {r r'} (h:SlR X r) (h':SlR X r'):SlR X (fun x lo hi H Q=>r x lo hi H Q\/r' x lo hi H Q):=by
 intro pins s σ H x v vl vu lo hi sl Q I rx hs pl pu q
 rcases q with q | q
 ·exact h pins s σ H x v vl vu lo hi sl Q I rx hs pl pu q
 ·exact h' pins s σ H x v vl vu lo hi sl Q I rx hs pl pu q
noncomputable abbrev tSl (r:V->Option Int->Option Int->Hp->VK->Prop) (te:TE) (tl th:TO):TE:=fun σ H Q=>te σ H fun x H1=>tl σ H1 fun l H2=>th σ H2 fun u H3=>r x l u H3 Q
theorem pe_slice {r} (hr:SlR X r) (he:PE X e te) (hl:PO X lo tl) (hu:PO X hi th):PE X (.Subscript e (.Slice lo hi none p2) pos) (tSl r te tl th):=by
 intro pins s σ H Q I h
 refine Subscript_ (thn (he pins s σ H _ I h) fun v s1 ⟨x,H1,I1,r1,q1⟩=>(wpAny_Slice (thn (hl pins s1 σ H1 _ I1 q1) fun vl s2 ⟨l,H2,I2,pl,q2⟩=>thn (hu pins s2 σ H2 _ I2 q2) fun vu s3 ⟨u,H3,I3,pu,q3⟩=>(wpAny_pure ?_))))
 have I4:Inv X pins σ H3 { s3 with heap:=s3.heap.push { cls:=.type "slice",data:=.fields #[vl,vu,.none] } }:=I3.kept (t':=s3.toks) fun b ob q=>Heap.get?_push_of_some _ q
 obtain ⟨T,id,hT,ht,hg⟩:=hr pins { s3 with heap:=s3.heap.push { cls:=.type "slice",data:=.fields #[vl,vu,.none] } } σ H3 x v vl vu l u s3.heap.objs.size Q I4 r1 (Heap.IsSliceOf.new ..) pl pu q3
 exact tail_any ht hT hg (by with_unfolding_all rfl)
noncomputable def cutV (xs:List V) (lo hi:Option Int):List V:=(xs.drop (HT.sIx xs.length 0 lo)).take (HT.sIx xs.length xs.length hi - HT.sIx xs.length 0 lo)
theorem cutV_length xs (lo hi):(cutV xs lo hi).length<=xs.length:=by
 unfold cutV
 rw [List.length_take,List.length_drop]
 lia
noncomputable def rSlT (K:PySem.W.Frag):V->Option Int->Option Int->Hp->VK->Prop:=fun x lo hi H Q=>∃ a xs,x=.ref a/\SqT K H a xs /\
 ¬ (HT.sIx xs.length 0 lo=0/\HT.sIx xs.length xs.length hi=xs.length)/\∀ p,H p=none->Q (.ref p) (upd H p (.tup (cutV xs lo hi)))
theorem sl_tup:SlR X (rSlT X.K):=by
 rintro pins s σ H x v vl vu lo hi sl Q I rx hs pl pu ⟨a,xs,rfl,hx,hw,q⟩
 cases rx
 obtain ⟨its,r,ht,hz⟩:=I.tuple hx
 have hlen:its.toArray.size=xs.length:=r.length.symm
 refine ⟨"tuple",_,PyProof.Rows.slot_tuple_getitem.lookup,ht.typeIs,(HT.getItem_tuple_cut ht hs pl pu (hlen▸hw) ?_ (hlen▸hz))⟩
 rw [hlen]
 refine ⟨.ref s.heap.objs.size,_,I.laid (t':=s.toks) (fun b ob q=>Heap.get?_push_of_some _ q) (Nat.le_refl _) ?_,rfl,q _ (I.hok.fresh (Nat.le_refl _))⟩
 exact ⟨Nat.le_trans (cutV_length xs lo hi) hz,_,(r.drop _).take _,IsTupD.new _ _⟩
noncomputable def rCatT (K:PySem.W.Frag):R2:=fun x y H Q=>∃ a b xs ys,x=.ref a/\y=.ref b/\SqT K H a xs/\SqT K H b ys/\xs≠[]/\xs.length + ys.length<=sizeLine /\
 (ys=[]->Q (.ref a) H)/\(ys≠[]->∀ p,H p=none->Q (.ref p) (upd H p (.tup (xs++ys))))
theorem Vals.nil_iff {xs} {us} (r:Vals xs us):us=[]↔xs=[]:=by
 cases r with
 | nil=>simp
 | cons _ _=>simp
theorem op_catT:OpR X (binaryOp .Add) (rCatT X.K):=by
 rintro pins s σ H x y v u Q I rx ry ⟨a,b,xs,ys,rfl,rfl,ha,hb,hx,hz,q1,q2⟩
 cases rx
 cases ry
 obtain ⟨its,r1,p1,_⟩:=I.tuple ha
 obtain ⟨its2,r2,p2,_⟩:=I.tuple hb
 refine HT.cat_tup p1 p2 (fun z=>hx (r1.nil_iff.mp z)) (fun z=>⟨.ref a,H,I,rfl,q1 (r2.nil_iff.mp z)⟩) (fun z=>(⟨.ref s.heap.objs.size,_,I.laid (t':=s.toks) (fun b ob q=>Heap.get?_push_of_some _ q) (Nat.le_refl _) ?_,rfl,q2 (fun w=>z (r2.nil_iff.mpr w)) _ (I.hok.fresh (Nat.le_refl _))⟩)) (by rw [← r1.length,← r2.length];exact hz)
 exact ⟨by rw [List.length_append];exact hz,_,r1.append r2,IsTupD.new _ _⟩
end
end L2
namespace L2
open PySem PySem.Spec PyProof.Rows
noncomputable def ixN (n:Nat) (i:Int):Option Nat:=if 0<=i then (if i < n then some i.toNat else none) else if -(n:Int)<=i then some (i + n).toNat else none
noncomputable def atI {α:Type} (xs:List α) (i:Int):Option α:=(ixN xs.length i).bind fun j=>xs[j]?
theorem ixN_seq {n} {i} {j} (h:ixN n i=some j):seqIndex? i n=some j/\j < n/\-n<=i/\i < n:=by
 unfold ixN at h
 by_cases h0:0<=i
 ·rw [if_pos h0] at h
  by_cases h1:i < n
  ·rw [if_pos h1] at h
   exact ⟨by rw [seqIndex_of h0 h1,(Option.some.inj h)],by lia,by lia,h1⟩
  ·rw [if_neg h1] at h;cases h
 ·rw [if_neg h0] at h
  by_cases h1:-n<=i
  ·rw [if_pos h1] at h
   exact ⟨by rw [seqIndex_neg (by lia) h1,(Option.some.inj h)],by lia,h1,by lia⟩
  ·rw [if_neg h1] at h;cases h
theorem atI_get {α} {xs} {i} {v:α} (h:atI xs i=some v):∃ j,seqIndex? i xs.length=some j/\xs[j]?=some v/\j < xs.length/\-(xs.length:Int)<=i/\i < xs.length:=by
 unfold atI at h
 cases e:ixN xs.length i with
 | none=>rw [e] at h;cases h
 | some j =>
  rw [e] at h
  obtain ⟨h1,h2,h3,h4⟩:=ixN_seq e
  exact ⟨j,h1,h,h2,h3,h4⟩
noncomputable def PlainIx (b:Expr):Prop:=∀ o i,subscripted b false o i=operate [o,i] (getItem o i)
noncomputable def IxR (X:Cx) (r:R2):Prop :=
 ∀ (value slice:Expr) (pins:List (Addr×Obj)) (s:Shared) (σ:St) (H:Hp) (x y:V) (v u:Value) (Q:VK),Inv X pins σ H s->RelV x v->RelV y u->r x y H Q ->
  subscripted slice false v u=operate [v,u] (getItem v u)->wpAny (model X.prog X.w) X.A (subscriptTail value slice v u) (EP X pins σ Q) X.xe s
noncomputable def MtR (X:Cx) (id:String) (r:V->List V->Hp->VK->Prop):Prop :=
 ∀ (pins:List (Addr×Obj)) (s:Shared) (σ:St) (H:Hp) (x:V) (xs:List V) (v:Value) (us:List Value) (Q:VK),Inv X pins σ H s->RelV x v->Vals xs us->r x xs H Q ->
  wpAny (model X.prog X.w) X.A (call (.builtin id) (v :: us)) (EP X pins σ Q) X.xe s
section
variable {X:Cx} {a b:Expr} {ta tb:TE} {pos:Pos}
theorem IxR.or {r r'} (h:IxR X r) (h':IxR X r'):IxR X (fun x y H Q=>r x y H Q\/r' x y H Q):=by
 intro value slice pins s σ H x y v u Q I rx ry q hs
 rcases q with q | q
 ·exact h value slice pins s σ H x y v u Q I rx ry q hs
 ·exact h' value slice pins s σ H x y v u Q I rx ry q hs
theorem pe_ix {r} (hr:IxR X r) (ha:PE X a ta) (hb:PE X b tb) (hs:PlainIx b):PE X (.Subscript a b pos) (tOp r ta tb):=by
 intro pins s σ H Q I h
 exact Subscript_ (binT ha hb I h fun v u s2 x y H2 I2 rx ry q=>hr a b pins s2 σ H2 x y v u Q I2 rx ry q (hs _ _))
noncomputable def rIxL (K:PySem.W.Frag):R2:=fun x y H Q=>∃ p xs i v,x=.ref p/\y=.int i/\SqL K H p xs/\atI xs i=some v/\Q v H
noncomputable def rIxT (K:PySem.W.Frag):R2:=fun x y H Q=>∃ p xs i v,x=.ref p/\y=.int i/\SqT K H p xs/\atI xs i=some v/\Q v H
noncomputable def rIxS:R2:=fun x y H Q=>∃ z i c,x=.str z/\y=.int i/\z.length<=sizeLine/\atI z.cps.toList i=some c/\Q (.str ⟨#[c]⟩) H
theorem ix_list:IxR X (rIxL X.K):=by
 intro value slice pins s σ H x y v u Q I rx ry h hs
 obtain ⟨p,xs,i,z,rfl,rfl,hq,he,q⟩:=h
 cases rx
 obtain ⟨t,rfl⟩:=ry
 obtain ⟨its,r,pl,hz⟩:=I.list hq
 obtain ⟨j,h1,h2,h3,h4,h5⟩:=atI_get he
 obtain ⟨w,ew,rw'⟩:=r.get h2
 have hl:=r.length
 have hn:=line63
 have fin:EP X pins σ Q w s:=⟨z,H,I,rw',q⟩
 by_cases h0:0<=i
 ·have hj:i.toNat=j:=by
   rw [seqIndex_of h0 h5] at h1
   exact Option.some.inj h1
  exact item_listR pl.isList h0 (by lia) (by rw [hj];simpa using ew) fin hs
 ·have hj:(i + (its.toArray.size:Int)).toNat=j:=by
   rw [seqIndex_neg (by lia) h4] at h1
   rw [List.size_toArray,← hl]
   exact Option.some.inj h1
  exact subscriptTail_builtinR pl.isList.typeIs slot_list_getitem.lookup
   (wpAny_getItem_list_neg pl.isList (by lia) (by rw [List.size_toArray]<;>lia) (by lia) (by rw [hj];simpa using ew) ⟨rfl,fin⟩) hs
theorem ix_tup:IxR X (rIxT X.K):=by
 intro value slice pins s σ H x y v u Q I rx ry h hs
 obtain ⟨p,xs,i,z,rfl,rfl,hq,he,q⟩:=h
 cases rx
 obtain ⟨t,rfl⟩:=ry
 obtain ⟨its,r,pl,hz⟩:=I.tuple hq
 obtain ⟨j,h1,h2,h3,h4,h5⟩:=atI_get he
 obtain ⟨w,ew,rw'⟩:=r.get h2
 have hn:=line63
 have fin:EP X pins σ Q w s:=⟨z,H,I,rw',q⟩
 exact subscriptTail_builtinR pl.typeIs slot_tuple_getitem.lookup
  (getItem_tuple pl (by lia) (by lia) (by rw [List.size_toArray,← r.length];exact h1) (by simpa using ew) ⟨rfl,fin⟩) hs
theorem ix_str:IxR X rIxS:=by
 intro value slice pins s σ H x y v u Q I rx ry h hs
 obtain ⟨z,i,c,rfl,rfl,hz,he,q⟩:=h
 obtain ⟨t,rfl⟩:=rx
 obtain ⟨t',rfl⟩:=ry
 obtain ⟨j,h1,h2,h3,h4,h5⟩:=atI_get he
 have hl:z.cps.toList.length=z.length:=by simp [Str.length]
 rw [hl] at h1 h4 h5
 have hn:=line63
 exact tail_any (typeIs_str s z t) slot_str_getitem.lookup (getItem_str (c:=c) (by
  have e1:decide (i < -(2 ^ 63:Int))=false:=decide_eq_false (by lia)
  have e2:decide (i≥2 ^ 63)=false:=decide_eq_false (by lia)
  rw [e1,e2,Bool.or_false]) (by rw [h1];simpa using h2) ⟨.str ⟨#[c]⟩,H,I.tok _,⟨_,rfl⟩,q⟩) hs
noncomputable def rIx (K:PySem.W.Frag):R2:=fun x y H Q=>rIxL K x y H Q\/rIxT K x y H Q\/rIxS x y H Q
theorem ix_seq:IxR X (rIx X.K):=ix_list.or (ix_tup.or ix_str)
theorem slice_bounds (lo hi) n:(sliceBounds lo hi none n).1=((HT.sIx n 0 lo:Nat):Int)/\(sliceBounds lo hi none n).2.1=((HT.sIx n n hi:Nat):Int)/\(sliceBounds lo hi none n).2.2=1:=by
 refine ⟨?_,?_,rfl⟩
 ·cases lo with
  | none=>simp [sliceBounds,HT.sIx]
  | some i =>
   simp only [sliceBounds,HT.sIx,Option.getD_none,show (1:Int) > 0 by decide,if_true]
   by_cases h:i < 0
   ·simp only [h,if_true]<;>lia
   ·simp only [h,if_false]<;>lia
 ·cases hi with
  | none=>simp [sliceBounds,HT.sIx]
  | some i =>
   simp only [sliceBounds,HT.sIx,Option.getD_none,show (1:Int) > 0 by decide,if_true]
   by_cases h:i < 0
   ·simp only [h,if_true]<;>lia
   ·simp only [h,if_false]<;>lia
theorem slicePick_cut (its:List Value) (lo hi):slicePick its.toArray lo hi none=((its.drop (HT.sIx its.length 0 lo)).take (HT.sIx its.length its.length hi - HT.sIx its.length 0 lo)).toArray:=by
 obtain ⟨h1,h2,h3⟩:=slice_bounds lo hi its.toArray.size
 unfold slicePick
 rw [h1,h2,h3]
 simp only [sliceRange_one,pick_run]<;>rfl
noncomputable def rSlL (K:PySem.W.Frag):V->Option Int->Option Int->Hp->VK->Prop:=fun x lo hi H Q=>∃ a xs,x=.ref a/\SqL K H a xs/\∀ p,H p=none->Q (.ref p) (upd H p (.lst (cutV xs lo hi)))
theorem sl_list:SlR X (rSlL X.K):=by
 rintro pins s σ H x v vl vu lo hi sl Q I rx hs pl pu ⟨a,xs,rfl,hx,q⟩
 cases rx
 obtain ⟨its,r,ht,hz⟩:=I.list hx
 have hlen:=r.length
 refine ⟨"list",_,slot_list_getitem.lookup,ht.isList.typeIs,(wpAny_getItem_list_slice ht.isList hs pl pu .none (by simp) ?_ (by simp_all))⟩
 rw [slicePick_cut,← hlen]
 refine ⟨.ref s.heap.objs.size,_,I.laid (t':=s.toks) (fun b ob q=>Heap.get?_push_of_some _ q) (Nat.le_refl _) ?_,rfl,q _ (I.hok.fresh (Nat.le_refl _))⟩
 exact ⟨Nat.le_trans (cutV_length xs lo hi) hz,_,0,(r.drop _).take _,Heap.get?_push_size _ rfl⟩
theorem op_notIn_str:OpR X (compareOp .NotIn) (fun x y H Q=>∃ i j,x=.str i/\y=.str j/\Q (.bl (!(!(Builtin.Str.occurrences j i 0 j.length 1).isEmpty))) H):=by
 rintro pins s σ H x y v u Q I rx ry ⟨i,j,rfl,rfl,q⟩
 obtain ⟨t,rfl⟩:=rx
 obtain ⟨t',rfl⟩:=ry
 exact notIn_str ⟨.bl _,H,I,rfl,q⟩
theorem call_len_seq:CallR X (.builtin "len") (fun xs H Q=>∃ p ys,xs=[.ref p]/\(SqL X.K H p ys\/SqT X.K H p ys)/\Q (.int ys.length) H):=by
 rintro pins s σ H xs us Q I r ⟨p,ys,rfl,hq,q⟩
 obtain ⟨u,rfl,rx⟩:=vals1 r
 cases rx
 have hn:=line63
 rcases hq with hq | hq
 ·obtain ⟨its,r',pl,hz⟩:=I.list hq
  have hlen:=r'.length
  exact Calls.call_len_list pl.isList (by simp only [List.size_toArray]<;>lia) ⟨.int ys.length,H,I.tok _,⟨s.toks + 1,by rw [List.size_toArray,hlen]⟩,q⟩
 ·obtain ⟨its,r',pl,hz⟩:=I.tuple hq
  have hlen:=r'.length
  exact len_tuple pl (by simp only [List.size_toArray]<;>lia) ⟨.int ys.length,H,I.tok _,⟨s.toks + 1,by rw [List.size_toArray,hlen]⟩,q⟩
theorem call_len_str:CallR X (.builtin "len") (fun xs H Q=>∃ z,xs=[.str z]/\z.length<=sizeLine/\Q (.int z.length) H):=by
 rintro pins s σ H xs us Q I r ⟨z,rfl,hz,q⟩
 obtain ⟨u,rfl,t,rfl⟩:=vals1 r
 have hn:=line63
 exact len_str (by lia) ⟨.int z.length,H,I.tok _,⟨_,rfl⟩,q⟩
theorem CallR.or {f} {r r'} (h:CallR X f r) (h':CallR X f r'):CallR X f (fun xs H Q=>r xs H Q\/r' xs H Q):=by
 intro pins s σ H xs us Q I rs q
 rcases q with q | q
 ·exact h pins s σ H xs us Q I rs q
 ·exact h' pins s σ H xs us Q I rs q
theorem call_list_of:CallR X (.type "list") (fun xs H Q=>∃ p ys,xs=[.ref p]/\(SqL X.K H p ys\/SqT X.K H p ys)/\∀ l,H l=none->Q (.ref l) (upd H l (.lst ys))):=by
 rintro pins s σ H xs us Q I r ⟨p,ys,rfl,hq,q⟩
 obtain ⟨u,rfl,rx⟩:=vals1 r
 cases rx
 have fin:∀ its,Vals ys its->ys.length<=sizeLine->∀ h' (c'),_ ->
   h'.get? s.heap.objs.size=some { cls:=.type "list",dict:=none,data:=.seq its.toArray c',slots:=#[] }->EP X pins σ Q _ { s with heap:=h' }:=fun its r' hz h' c' kp e =>
  ⟨.ref s.heap.objs.size,_,I.laid (t':=s.toks) kp (Nat.le_refl _) (show ObjOk X.prog X.w _ h' _ (.lst ys) from ⟨hz,its,c',r',e⟩),rfl,q _ (I.hok.fresh (Nat.le_refl _))⟩
 rcases hq with hq | hq
 ·obtain ⟨its,r',pl,hz⟩:=I.list hq
  have hlen:=r'.length
  obtain ⟨o,ho,hc,n,hd⟩:=pl.isList
  exact call_list_seq p (.inl rfl) ho hc hd (fun h' c' kp e=>fin its r' hz h' c' kp e) (by simp only [List.size_toArray]<;>lia)
 ·obtain ⟨its,r',pl,hz⟩:=I.tuple hq
  have hlen:=r'.length
  obtain ⟨o,ho,hc,n,hd⟩:=pl
  exact call_list_seq p (.inr rfl) ho hc hd (fun h' c' kp e=>fin its r' hz h' c' kp e) (by simp only [List.size_toArray]<;>lia)
theorem call_tuple_of:CallR X (.type "tuple") (fun xs H Q=>∃ p ys,xs=[.ref p]/\((SqL X.K H p ys/\∀ l,H l=none->Q (.ref l) (upd H l (.tup ys)))\/(SqT X.K H p ys/\Q (.ref p) H))):=by
 rintro pins s σ H xs us Q I r ⟨p,ys,rfl,h⟩
 obtain ⟨u,rfl,rx⟩:=vals1 r
 cases rx
 rcases h with ⟨hq,q⟩ | ⟨hq,q⟩
 ·obtain ⟨its,r',pl,hz⟩:=I.list hq
  have hlen:=r'.length
  refine call_tuple_list pl.isList (fun h' kp=>?_) (by simp_all)
  have I1:Inv X pins σ H { s with heap:=h' }:=I.kept (t':=s.toks) kp
  have I2:Inv X pins σ _ { s with heap:=h'.push { cls:=.type "tuple",data:=.seq its.toArray } } :=
   I1.laid (t':=s.toks) (fun b o e=>Heap.get?_push_of_some _ e) (Nat.le_refl _) (show ObjOk X.prog X.w _ _ _ (.tup ys) from ⟨hz,its,r',IsTupD.new _ _⟩)
  exact ⟨.ref h'.objs.size,_,I2,rfl,q _ (I1.hok.fresh (Nat.le_refl _))⟩
 ·obtain ⟨its,r',pl,hz⟩:=I.tuple hq
  exact call_tuple_same pl ⟨.ref p,H,I,rfl,q⟩
noncomputable def tyV (K : PySem.W.Frag) (T : String) (x : V) (H : Hp) : Prop := match x with
  | .str _ => T = "str"
  | .int _ => T = "int"
  | .ref p => (T = "list" ∧ ∃ xs, SqL K H p xs) ∨ (T = "tuple" ∧ ∃ o, K.lookup p = some o ∧ o.cls = .type "tuple" ∧ o.dict = none) ∨
      (T = "dict" ∧ ((∃ kvs, H p = some (.dK kvs)) ∨ ∃ kvs, H p = some (.dT kvs))) ∨ (T = "set" ∧ ∃ S n, H p = some (.set S n))
  | _ => False
theorem tyV_is {pins} {σ:St} {H} {s} {T} {x} {v} (I:Inv X pins σ H s) (r:RelV x v) (ty:tyV X.K T x H) :
  s.TypeIs v T/\∀ a,v=.ref a->∃ ob,s.heap.get? a=some ob/\ob.dict=none:=by
 cases x with
 | str z =>
  obtain ⟨t,rfl⟩:=r
  cases (ty)
  exact ⟨typeIs_str s z t,fun _ e=>nomatch e⟩
 | int i =>
  obtain ⟨t,rfl⟩:=r
  cases (ty)
  exact ⟨typeIs_int s i t,fun _ e=>nomatch e⟩
 | ref p =>
  cases r
  rcases ty with ⟨rfl,xs,hq⟩ | ⟨rfl,o,hk,hc,hd⟩ | ⟨rfl,hk⟩ | ⟨rfl,S,n,hk⟩
  ·obtain ⟨its,_,pl,_⟩:=I.list hq
   refine ⟨pl.isList.typeIs,fun a e=>?_⟩
   cases e
   obtain ⟨o,n,e,c,hd,_⟩:=pl
   exact ⟨o,e,hd⟩
  ·refine ⟨⟨o,I.kIn p o hk,hc⟩,fun a e=>?_⟩
   cases e
   exact ⟨o,I.kIn _ o hk,hd⟩
  ·have z:∃ o,s.heap.get? p=some o/\o.ExactDict:=by
    rcases hk with ⟨kvs,hk⟩ | ⟨kvs,hk⟩
    ·obtain ⟨_,_,_,_,o,_,_,e,ex,_⟩:=I.hok p _ hk
     exact ⟨o,e,ex⟩
    ·obtain ⟨_,_,_,_,o,_,_,e,ex,_⟩:=I.hok p _ hk
     exact ⟨o,e,ex⟩
   obtain ⟨o,e,ex⟩:=z
   refine ⟨⟨o,e,ex.1⟩,fun a e2=>?_⟩
   cases e2
   exact ⟨o,e,ex.2.1⟩
  ·obtain ⟨o,_,_,_,e,ex,_⟩:=I.hok p _ hk
   refine ⟨⟨o,e,ex.1⟩,fun a e2=>?_⟩
   cases e2
   exact ⟨o,e,ex.2.1⟩
 | _=>exact False.elim ty
noncomputable abbrev tBM0 (K:PySem.W.Frag) (T:String) (r:V->List V->Hp->VK->Prop) (to:TE):TE:=fun σ H Q=>to σ H fun x H1=>tyV K T x H1/\r x [] H1 Q
noncomputable abbrev tBM (K:PySem.W.Frag) (T:String) (r:V->List V->Hp->VK->Prop) (to:TE) (t:TA):TE:=fun σ H Q=>to σ H fun x H1=>tyV K T x H1/\t σ H1 fun xs H2=>r x xs H2 Q
variable {o e:Expr} {es:List Expr} {to:TE} {t:TA} {name:Str} {apos cpos:Pos} {T id:String} {r:V->List V->Hp->VK->Prop}
theorem pe_bm0 (pa:PlainAttrs T) (slot:Slot T name id) (hty:typeOf (.builtin id)=pure (.type "method_descriptor")) (hm:MtR X id r) (ho:PE X o to)
  (hbase:attributeBase o name X.env (eval o X.env)=eval o X.env:=by rfl) (hline:(apos.endLine == cpos.line)=true:=by rfl):PE X (.Call (.Attribute o name apos) [] [] cpos) (tBM0 X.K T r to):=by
 intro pins s σ H Q I h
 refine wpAny_Call_method0_late hbase hline (thn (ho pins s σ H _ I h) fun v s1 ⟨x,H1,I1,r1,ty,q1⟩=>?_)
 obtain ⟨h1,h2⟩:=tyV_is I1 r1 ty
 exact ⟨T,id,pa,slot,hty,h1,h2,Calls.callWith_builtin rfl (PySem.evalArgs_none (hm pins s1 σ H1 x [] v [] Q I1 r1 .nil q1))⟩
theorem pe_bm (pa:PlainAttrs T) (slot:Slot T name id) (hty:typeOf (.builtin id)=pure (.type "method_descriptor")) (hm:MtR X id r) (ho:PE X o to) (ha:PA X (e :: es) t)
  (hbase:attributeBase o name X.env (eval o X.env)=eval o X.env:=by rfl)
  (hfew:((backTo cpos (starEach (e :: es) X.env)).all (fun x=>!x.1) && (backToKw cpos (keywordEach [] X.env)).all (fun x=>x.1.isSome)
   && decide ((e :: es).length + ([]:List Keyword).length + (if ([]:List Keyword).isEmpty then 0 else 1) < 30))=true:=by rfl)
  (hline:(apos.endLine == cpos.line)=true:=by rfl) (hs:starEach (e :: es) X.env=(false,eval e X.env) :: starEach es X.env:=by rfl) (hplain:(backTo cpos (starEach es X.env)).any (·.1)=false:=by rfl) :
  PE X (.Call (.Attribute o name apos) (e :: es) [] cpos) (tBM X.K T r to t):=by
 intro pins s σ H Q I h
 refine wpAny_Call_method_late hbase hfew hline rfl (thn (ho pins s σ H _ I h) fun v s1 ⟨x,H1,I1,r1,ty,q1⟩=>?_)
 obtain ⟨h1,h2⟩:=tyV_is I1 r1 ty
 refine ⟨T,id,pa,slot,hty,h1,h2,?_⟩
 have hA:=ha cpos pins s1 σ H1 _ I1 q1
 rw [hs] at hA ⊢
 exact Calls.callWith_builtin (by show (false || (backTo cpos _).any _)=false;rw [hplain]<;>rfl) (Calls.evalArgs_plain (thn hA fun us s2 ⟨vs,H2,I2,r2,q2⟩=>hm pins s2 σ H2 x vs v us Q I2 r1 r2 q2))
end
end L2
namespace L2
open PySem PySem.Spec PyProof.Rows
noncomputable def MtM (X:Cx) (id:String) (r:V->List V->Hp->VK->Prop):Prop :=
 ∀ (pins:List (Addr×Obj)) (s:Shared) (σ:St) (H:Hp) (x:V) (xs:List V) (v:Value) (us:List Value) (Q:VK),Inv X pins σ H s->RelV x v->Vals xs us->r x xs H Q ->
  wpAny (model X.prog X.w) X.A (call (.builtin id) (v :: us)) (EP X pins σ Q) X.xe s
theorem Vals.one:∀ {x} {us},Vals [x] us->∃ u,us=[u]/\RelV x u
 | _,_,.cons r .nil=>⟨_,rfl,r⟩
theorem Vals.zero:∀ {us},Vals [] us->us=[]
 | _,.nil=>rfl
theorem Vals.eraseIdx:∀ {xs} {us} (i),Vals xs us->Vals (xs.eraseIdx i) (us.eraseIdx i)
 | _,_,_,.nil=>.nil
 | _,_,0,.cons _ t=>t
 | _,_,i + 1,.cons r t=>.cons r (Vals.eraseIdx i t)
theorem Vals.rep {xs} {us} (h:Vals xs us):∀ k,Vals (List.replicate k xs).flatten (List.replicate k us).flatten
 | 0=>.nil
 | k + 1=>by
  exact Vals.append h (Vals.rep h k)
theorem len_erase {α:Type}:∀ (l:List α) (i),(l.eraseIdx i).length<=l.length
 | [],_=>Nat.le_refl _
 | _ :: _,0=>Nat.le_succ _
 | _ :: r,i + 1=>Nat.succ_le_succ (len_erase r i)
theorem foldl_rep (its):∀ k (acc:List Value),
  List.foldl (fun x1 x2=>x1++x2) acc.toArray (List.replicate k its.toArray)=(acc++(List.replicate k its).flatten).toArray
 | 0,acc=>by simp
 | k + 1,acc=>by
  have e:acc.toArray++its.toArray=(acc++its).toArray:=by simp
  have e2:(acc++its)++(List.replicate k its).flatten=acc++(List.replicate (k + 1) its).flatten:=by
   rw [List.replicate_succ,List.flatten_cons,List.append_assoc]
  rw [← e2,← foldl_rep its k _,← e,List.replicate_succ,List.foldl_cons]
section
variable {X:Cx} {pins:List (Addr×Obj)} {σ:St} {H:Hp} {s:Shared} {l b:Addr} {xs ys zs:List V}
theorem Inv.lset {its its':List Value} {n} {f} {t'} (I:Inv X pins σ H s) (hH:H l=some (.lst xs))
  (e:s.heap.get? l=some { cls:=.type "list",data:=.seq its.toArray n }) (hf:f its.toArray=its'.toArray) (hv:Vals ys its') (hz:ys.length<=sizeLine) :
  Inv X pins σ (upd H l (.lst ys)) { s with heap:=s.heap.update l (Obj.mapSeq f),toks:=t' }:=by
 have q:=PySem.IsL.update e f
 rw [hf] at q
 refine I.write (hH▸trivial) (.inl rfl) (fun b' u hb hu=>(Heap.get?_update_other s.heap _ (Ne.symm hb)).trans hu) ⟨_,q⟩ ?_
 exact ⟨hz,its',_,hv,q⟩
theorem Inv.lnew {its} {t'} (I:Inv X pins σ H s) (hv:Vals ys its) (hz:ys.length<=sizeLine) :
  Inv X pins σ (upd H s.heap.objs.size (.lst ys)) { s with heap:=s.heap.push { cls:=.type "list",data:=.seq its.toArray },toks:=t' } :=
 I.laid (fun _ _ q=>Heap.get?_push_of_some _ q) (Nat.le_refl _) ⟨hz,its,0,hv,Heap.get?_push_size _ rfl⟩
theorem Inv.fresh (I:Inv X pins σ H s):H s.heap.objs.size=none:=I.hok.fresh (Nat.le_refl _)
theorem Inv.lstM (I:Inv X pins σ H s) (hH:H l=some (.lst xs)):xs.length<=sizeLine/\∃ (its:List Value) (n:Nat),Vals xs its/\xs.length=its.length/\s.heap.get? l=some { cls:=.type "list",data:=.seq its.toArray n }:=by
 obtain ⟨z,its,n,r,e⟩:=I.hok l _ hH
 exact ⟨z,its,n,r,r.length,e⟩
theorem notLongL {n} (h:n<=sizeLine):Builtin.List.listTooLong n=false:=by
 unfold Builtin.List.listTooLong
 simp_all
end
section
variable {X:Cx}
noncomputable def rAppend:V->List V->Hp->VK->Prop:=fun x vs H Q=>∃ l xs y,x=.ref l/\vs=[y]/\H l=some (.lst xs)/\xs.length < sizeLine/\Q .non (upd H l (.lst (xs++[y])))
theorem mt_append:MtM X "list.append" rAppend:=by
 rintro pins s σ H x vs v us Q I rx rv ⟨l,xs,y,rfl,rfl,hH,hz,q⟩
 cases rx
 obtain ⟨u,rfl,ru⟩:=rv.one
 obtain ⟨z,its,n,r,hl,e⟩:=I.lstM hH
 refine call_meets F.slot_list_append ⟨_,e,rfl⟩ F.entry_list_append (F.args_list_append_2 _ _) (PySem.list_append l its.toArray n u (by simp_all)) ⟨e,(⟨.non,_,I.lset (its':=its++[u]) hH e (by simp) (r.append (.cons ru .nil)) ?_,rfl,q⟩)⟩
 rw [List.length_append,List.length_singleton]
 lia
noncomputable def rExtend:V->List V->Hp->VK->Prop:=fun x vs H Q=>∃ l b xs zs,x=.ref l/\vs=[.ref b]/\H l=some (.lst xs)/\H b=some (.lst zs)/\xs.length + zs.length<=sizeLine/\Q .non (upd H l (.lst (xs++zs)))
theorem mt_extend:MtM X "list.extend" rExtend:=by
 rintro pins s σ H x vs v us Q I rx rv ⟨l,b,xs,zs,rfl,rfl,hH,hB,hz,q⟩
 cases rx
 obtain ⟨u,rfl,ru⟩:=rv.one
 cases ru
 obtain ⟨z,its,n,r,hl,e⟩:=I.lstM hH
 obtain ⟨z2,its2,n2,r2,hl2,e2⟩:=I.lstM hB
 have hsz:its.toArray.size + its2.toArray.size<=sizeLine:=by rw [List.size_toArray,List.size_toArray];lia
 have hlong:¬ (!its.toArray.isEmpty && Builtin.List.listTooLong (its.toArray.size + its2.toArray.size))=true:=by
  rw [notLongL hsz,Bool.and_false]
  exact Bool.false_ne_true
 refine call_meets F.slot_list_extend ⟨_,e,rfl⟩ F.entry_list_extend (F.args_list_extend_2 _ _)
  (AutoSeq1.list_extend_list_list_0 l its.toArray n b its2.toArray n2 hlong (by lia) (by lia)) ⟨e,e2,?_⟩
 refine ⟨.non,_,I.lset (its':=its++its2) hH e (by simp) (r.append r2) ?_,rfl,q⟩
 simp_all
noncomputable def rPopAt:V->List V->Hp->VK->Prop:=fun x vs H Q=>∃ l xs i k y,x=.ref l/\vs=[.int i]/\H l=some (.lst xs)/\-(2 ^ 63)<=i/\i < 2 ^ 63/\seqIndex? i xs.length=some k/\xs[k]?=some y/\Q y (upd H l (.lst (xs.eraseIdx k)))
theorem mt_popAt:MtM X "list.pop" rPopAt:=by
 rintro pins s σ H x vs v us Q I rx rv ⟨l,xs,i,k,y,rfl,rfl,hH,h1,h2,hk,hy,q⟩
 cases rx
 obtain ⟨u,rfl,ru⟩:=rv.one
 obtain ⟨t,rfl⟩:=ru
 obtain ⟨z,its,n,r,hl,e⟩:=I.lstM hH
 obtain ⟨w,hw,rw'⟩:=r.get hy
 refine call_meets F.slot_list_pop ⟨_,e,rfl⟩ F.entry_list_pop (F.args_list_pop_2 _ _)
  (MeetsSeq.list_pop_at l its.toArray n i t k w (fitsIndex_both h1 h2) (by rw [List.size_toArray,← hl];exact hk) (Array.getElem?_toList▸hw) (by rw [List.size_toArray];lia)) ⟨e,?_⟩
 refine ⟨y,_,I.lset (its':=its.eraseIdx k) hH e ?_ (r.eraseIdx k) ?_,rw',q⟩
 ·show its.toArray.eraseIdxIfInBounds k=(its.eraseIdx k).toArray
  rw [List.eraseIdxIfInBounds_toArray]
 ·have:=len_erase xs k
  lia
noncomputable def rClear:V->List V->Hp->VK->Prop:=fun x vs H Q=>∃ l xs,x=.ref l/\vs=[]/\H l=some (.lst xs)/\Q .non (upd H l (.lst []))
theorem mt_clear:MtM X "list.clear" rClear:=by
 intro pins s σ H x vs v us Q I rx rv h
 obtain ⟨l,xs,rfl,rfl,hH,q⟩:=h
 cases rx
 have hus:=rv.zero
 subst hus
 obtain ⟨z,its,n,r,hl,e⟩:=I.lstM hH
 refine call_meets F.slot_list_clear ⟨_,e,rfl⟩ F.entry_list_clear (F.args_list_clear_1 _) (AutoSeq1.list_clear_list_0 l its.toArray n (by rw [List.size_toArray];lia)) ⟨e,?_⟩
 exact ⟨.non,_,I.lset (its':=[]) (ys:=[]) hH e rfl .nil (Nat.zero_le _),rfl,q⟩
theorem len_rep {α:Type} (xs:List α) k:(List.replicate k xs).flatten.length=k * xs.length:=by
 induction k with
 | zero=>simp
 | succ k ih=>simp_all
end
end L2
namespace Att
open PySem PySem.W PySem.Calls PyProof.Rows
theorem ints_of_wellAll {P} {h}:∀ ns vs,WellAll P h vs (ns.map WData.int)->IntsAre vs ns:=by
 intro ns
 induction ns with
 | nil =>
  intro vs w
  cases w
  exact .nil
 | cons n ns ih =>
  intro vs w
  cases w with
  | cons a b =>
   cases a
   exact .cons _ _ (ih _ b)
theorem script_of {l:OpenLaw} {n} (hn:l.most=some n) {P} {h} {args} {vals}
  (hpre:l.row.toRowW.claim.pre args=true) (hwl:WellAll P h vals args) :
  ∃ a vs ns,vals=[Value.ref a]/\args=[WData.list (ns.map WData.int)]/\h.get? a=some { cls:=.type "list",data:=.seq vs.toArray }/\IntsAre vs ns/\ns.length<=n:=by
 have hsh:WShape.hasAll [] args [.list .int]=true:=(pre_splitW hpre).1
 have hc:l.pre.holds [] { args:=args }=true:=(pre_splitW hpre).2
 obtain ⟨d,r,rfl,h1,h2⟩:=hasAllW_cons hsh
 obtain rfl:=hasAllW_nil h2
 obtain ⟨xs,rfl,h3⟩:=hasW_list h1
 obtain ⟨ns,rfl⟩:=items_int h3
 have hlen:ns.length<=n:=by
  unfold OpenLaw.pre at hc
  have h4:(WTm.not (.lt (.lit (.int n)) (.len (.arg 0)))).holds [] { args:=[.list (ns.map .int)] }=true:=by
   have h4:=(holds_andW hc).1
   rw [hn] at h4
   exact h4
  have h5:=condW_of h4 (w_not (w_lt w_lit (w_len_list (w_arg rfl))))
  grind
 cases hwl with
 | cons w1 w2 =>
  cases w2
  cases w1 with
  | list ho hall=>exact ⟨_,_,ns,rfl,rfl,ho,ints_of_wellAll ns _ hall,hlen⟩
theorem post_true (l:OpenLaw) args:l.row.toRowW.claim.post args (.bool true) args=true :=
 postW_of
  (show WShape.has [] _ .bool=true by first | rfl | decide | simp [WShape.armsAll])
  (w_eq_bool (w_res rfl) w_lit) rfl
end Att
namespace L2
open PySem PySem.Spec PyProof.Rows
noncomputable def Only (H:Hp):Prop:=∀ b,H b=none\/∃ o xs,H b=some (.frz o (.lst xs))
end L2
namespace L2
open PySem PySem.Spec PyProof.Rows
noncomputable def defArgs (s:Stmt):Arguments:=match s with
 | .FunctionDef _ a _ _ _ _ _ _ _ _=>a
 | _=>{ posonlyargs:=[],args:=[],vararg:=none,kwonlyargs:=[],kw_defaults:=[],kwarg:=none,defaults:=[] }
noncomputable def defBody (s:Stmt):List Stmt:=match s with
 | .FunctionDef _ _ b _ _ _ _ _ _ _=>b
 | _=>[]
noncomputable def defScope (s:Stmt):Scope:=match s with
 | .FunctionDef _ _ _ _ _ _ sc _ _ _=>sc
 | _=>{ kind:=.function,names:=[],isGenerator:=false,isCoroutine:=false }
structure Fun (K:PySem.W.Frag) (x qual:Str) (st:Stmt) (f:Addr) (fd:FuncData):Prop where
 ex:∃ (oc:Value) (od:Option Addr) (kV doc pm:Value) (an:Option Addr) (cdv ct:Value) (osl:Array (Option Value)),
  fd=PySem.W.fnOf x qual (defArgs st) (defBody st) (defScope st) .none kV doc pm an cdv ct/\K.lookup f=some ⟨oc,od,.func fd,osl⟩/\PySem.W.codeIn K cdv qual=true
 kp:PySem.W.keepIn K (.ref f)=true
section
variable {P:Program} {w:World} {K:PySem.W.Frag} {mg:Str->Option Value} {base:Heap}
theorem Fun.binds {x qual} {st} {f} {fd} {ps} (F:Fun K x qual st f fd)
  (h:∀ kV doc pm an (cdv ct) us,us.length=ps.length->bindArgs (PySem.W.fnOf x qual (defArgs st) (defBody st) (defScope st) .none kV doc pm an cdv ct) ⟨us,[]⟩=pure (ps.zip us)):Binds K fd ps []:=by
 obtain ⟨oc,od,kV,doc,pm,an,cdv,ct,osl,rfl,lk,hcd⟩:=F.ex
 exact .all (h kV doc pm an cdv ct)
theorem fun_mk {x qual} {st} {f} {oc} {od an} {osl} {kV doc pm cdv ct} (l:K.lookup f=some ⟨oc,od,.func (PySem.W.fnOf x qual (defArgs st) (defBody st) (defScope st) .none kV doc pm an cdv ct),osl⟩)
  (c:PySem.W.codeIn K cdv qual=true) (k:PySem.W.keepIn K (.ref f)=true):Fun K x qual st f (PySem.W.fnOf x qual (defArgs st) (defBody st) (defScope st) .none kV doc pm an cdv ct):=⟨⟨oc,od,kV,doc,pm,an,cdv,ct,osl,rfl,l,c⟩,k⟩
end
section
variable {X:Cx}
theorem pv (i:Nat) {x:Str} {pos:Pos} (hN:X.N[i]?=some x:=by rfl) (hv:Vis X.env.scope x:=by first | exact Or.inl rfl | exact Or.inr (Or.inl rfl) | exact Or.inr (Or.inr rfl)) (hd:(x == ("__debug__":Str))=false:=by decide)
  (hcd:(x == ("__classdict__":Str))=false:=by decide):PE X (.Name x pos) (tVar i):=pe_var hN hv hd hcd
end
noncomputable def Same (H H':Hp):Prop:=∀ b o,H b=some o->H' b=some o
end L2
namespace L2
open PySem PySem.Spec PyProof.Rows
section
variable {κ:Type} [DecidableEq κ]
theorem KV.length {kvs} {vs:List (κ×Value)} (r:KV kvs vs):kvs.length=vs.length:=Paired.length r
end
section
variable {P:Program} {w:World} {H:Hp} {h:Heap} {a:Addr}
theorem rd_of {u} (ok:HOk P w H h) (e:Rd H a u):ObjOk P w H h a u:=e.ok ok
theorem dk_rd {kvs} (ok:HOk P w H h) (e:Rd H a (.dK kvs)):kvs.length<=sizeLine/\(a == sysModules)=false/\∃ vs,KV kvs vs/\h.DictOf (mixKind P w) a vs :=
 show ObjOk P w H h a _ from rd_of ok e
end
section
variable {X:Cx} {pins:List (Addr×Obj)} {σ:St} {H:Hp} {s:Shared} {a:Addr} {kvs:List (Key×V)} {k:Key} {u:Value} {A:Around} {E:Value->Shared->Prop}
theorem d_len {Q} (I:Inv X pins σ H s) (e:Rd H a (.dK kvs)) (h:∀ t s',Inv X pins σ H s'->Q (.int kvs.length t) s'):wpAny (model X.prog X.w) A (call (.builtin "len") [.ref a]) Q E s:=by
 obtain ⟨z,hd,vs,rel,dd⟩:=dk_rd I.hok e
 refine call_len_dict hd dd (by rw [← rel.length];rw [sizeLine_eq] at z;lia) ?_
 rw [← rel.length]
 exact h _ _ (I.tok _)
end
end L2
namespace L2
open PySem PySem.Spec PyProof.Rows
section
variable {X:Cx}
theorem call_lenD:CallR X (.builtin "len") (fun xs H Q=>∃ a kvs,xs=[V.ref a]/\H a=some (.dK kvs)/\Q (.int kvs.length) H):=by
 rintro pins s σ H xs us Q I r ⟨a,kvs,rfl,ha,q⟩
 obtain ⟨u,rfl,ru⟩:=vals1 r
 cases ru
 exact d_len I (.inl ha) fun t s' I'=>⟨.int kvs.length,H,I',⟨t,rfl⟩,q⟩
end
end L2
set_option maxHeartbeats 4000000
namespace L3
open PySem PySem.Spec PyProof.Rows L2
noncomputable abbrev lcTests (ifs:List Expr) (env:Env):Sem Bool :=
 forIn ifs true fun c r=>if r=true then do let ok ← isTrue c env (eval c env);pure (ForInStep.yield ok) else pure (ForInStep.yield r)
theorem closure_loop (env) : ∀ (l : List (Str × NameKind)) (cs), (∀ y ∈ l, y.2 = .free → ∃ c, env.cells.lookup y.1 = some c) →
    (∀ x c, cs.lookup x = some c → env.cells.lookup x = some c) →
    ∃ cl, (forIn l cs (fun x r => if (x.2 == NameKind.free) = true then do let a ← cellOf env x.1; pure (ForInStep.yield ((x.1, a) :: r)) else pure (ForInStep.yield r)) : Sem (List (Str × Addr))) = pure cl ∧
      (∀ x c, cl.lookup x = some c → env.cells.lookup x = some c) ∧ (∀ x c, cs.lookup x = some c → ∃ c', cl.lookup x = some c') ∧ ∀ y ∈ l, y.2 = .free → ∃ c, cl.lookup y.1 = some c
  | [], cs, _, hs => ⟨cs, rfl, hs, fun x c h => ⟨c, h⟩, fun _ h => nomatch h⟩
  | (n, k) :: r, cs, hl, hs => by
    by_cases hk : k = .free
    · subst hk
      obtain ⟨c, hc⟩ := hl _ List.mem_cons_self rfl
      have hs' : ∀ x d, ((n, c) :: cs).lookup x = some d → env.cells.lookup x = some d := fun x d h => by
        rw [List.lookup_cons] at h
        cases hx : x == n with
        | true => simp_all
        | false => rw [hx] at h; exact hs x d h
      obtain ⟨cl, e, a, b, d⟩ := closure_loop env r _ (fun y hy => hl y (List.mem_cons_of_mem _ hy)) hs'
      refine ⟨cl, ?_, a, fun x c' h => ?_, fun y hy hf => ?_⟩
      · rw [List.forIn_cons]
        have q : cellOf env n = pure c := by unfold cellOf; rw [hc]
        simp only [q]
        exact e
      · cases hx : x == n with
        | true => exact b x c (by rw [List.lookup_cons, hx])
        | false => exact b x c' (by rw [List.lookup_cons, hx]; exact h)
      · rcases List.mem_cons.mp hy with z | z
        · simp_all
        · exact d y z hf
    · obtain ⟨cl, e, a, b, d⟩ := closure_loop env r cs (fun y hy => hl y (List.mem_cons_of_mem _ hy)) hs
      refine ⟨cl, ?_, a, b, fun y hy hf => ?_⟩
      · rw [List.forIn_cons]
        have q : (k == NameKind.free) = false := by simpa using hk
        simp only [q]
        exact e
      · rcases List.mem_cons.mp hy with z | z
        · subst z
          exact absurd hf hk
        · exact d y z hf
theorem closure_of {scope} {env} (h:∀ y∈scope.names,y.2=.free->∃ c,env.cells.lookup y.1=some c) :
  ∃ cl,closureFor scope env=pure cl/\(∀ x c,cl.lookup x=some c->env.cells.lookup x=some c)/\∀ y∈scope.names,y.2=.free->∃ c,cl.lookup y.1=some c:=by
 obtain ⟨cl,e,a,_,d⟩:=closure_loop env scope.names [] h (fun x c h=>nomatch h)
 refine ⟨cl,?_,a,d⟩
 unfold closureFor
 grind
noncomputable def lcX (X:Cx) (scope:Scope) (N:List Str) (cl:List (Str×Addr)) (C:Addr) (s0:Shared) (H0:Hp) (fp:List Addr):Cx :=
 { X with N:=N,s₀:=s0,H₀:=H0,env:=compEnvC scope cl C X.env,outer:=X.stack,ex:=fp,fn:=fun _=>false,pn:=[],xe:=fun _ _=>False }
noncomputable def lcSt (k:Nat) (R:List Nat) (σ:L2.St):L2.St:=List.replicate k none++R.map fun j=>(σ[j]?).join
structure LcOk (X:Cx) (scope:Scope) (N:List Str) (k:Nat) (R:List Nat):Prop where
 kind:scope.kind=.function
 nocell:∀ y∈scope.names,y.2≠.cell
 names:∀ y∈scope.names,y.2=.local->scope.names.lookup y.1=some .local
 caps:∀ y∈scope.names,y.2=.free->X.env.kindOf y.1=some .cell\/X.env.kindOf y.1=some .free
 len:N.length=k + R.length
 outs:∀ i j x,R[i]?=some j->N[k + i]?=some x->X.N[j]?=some x/\scope.names.lookup x=some .free
noncomputable def lcChk (XN:List Str) (sc scope:Scope) (N:List Str) (k:Nat) (R:List Nat):Bool :=
 scope.names.all (fun y=>y.2 != .cell) && scope.names.all (fun y=>y.2 != .local || scope.names.lookup y.1 == some .local) &&
 scope.names.all (fun y=>y.2 != .free || (sc.names.lookup y.1 == some .cell || sc.names.lookup y.1 == some .free)) &&
 (N.length == k + R.length) && (R.zip (N.drop k)).all (fun p=>XN[p.1]? == some p.2 && scope.names.lookup p.2 == some .free)
theorem lcChk_ok {X} {scope} {N} {k} {R} (hk:scope.kind=.function) (h:lcChk X.N X.env.scope scope N k R=true):LcOk X scope N k R:=by
 unfold lcChk at h
 simp only [Bool.and_eq_true,List.all_eq_true,bne_iff_ne,Bool.or_eq_true,beq_iff_eq] at h
 obtain ⟨⟨⟨⟨h1,h2⟩,h3⟩,h4⟩,h5⟩:=h
 refine ⟨hk,fun y hy=>h1 y hy,fun y hy e=>(h2 y hy).resolve_left (fun z=>z e),fun y hy e=>(h3 y hy).resolve_left (fun z=>z e),h4,fun i j x e1 e2=>?_⟩
 have m:(j,x)∈R.zip (N.drop k):=by
  refine List.mem_of_getElem? (i:=i) ?_
  rw [List.getElem?_zip_eq_some]
  simp_all
 exact h5 _ m
theorem lookup_relabel {env : Env} {x} {q} : ∀ {names : List (Str × NameKind)}, (names.map fun (n, k) => if (k == NameKind.free && env.scope.kind == .function && env.kindOf n == some .cell) then (n, NameKind.cell) else (n, k)).lookup x = some q →
    (x, q) ∈ names ∨ (q = .cell ∧ (x, NameKind.free) ∈ names)
  | [], h => nomatch h
  | (n, k) :: r, h => by
    have h : List.lookup x ((if _ = true then _ else _) :: _) = some q := h
    by_cases hc : (k == NameKind.free && env.scope.kind == .function && env.kindOf n == some .cell) = true
    · rw [if_pos hc, List.lookup_cons] at h
      cases hx : x == n with
      | true => simp_all
      | false =>
        rw [hx] at h
        rcases lookup_relabel h with z | ⟨z, y⟩
        · exact .inl (List.mem_cons_of_mem _ z)
        · exact .inr ⟨z, List.mem_cons_of_mem _ y⟩
    · rw [if_neg hc, List.lookup_cons] at h
      cases hx : x == n with
      | true => simp_all
      | false =>
        rw [hx] at h
        rcases lookup_relabel h with z | ⟨z, y⟩
        · exact .inl (List.mem_cons_of_mem _ z)
        · exact .inr ⟨z, List.mem_cons_of_mem _ y⟩
section
variable {X:Cx} {pins:List (Addr×Obj)} {σ:L2.St} {H:Hp} {s:Shared}
theorem lc_has {scope} {N} {k} {R} {cl} {C} (sc:LcOk X scope N k R) (hfree:∀ y∈scope.names,y.2=.free->∃ c,cl.lookup y.1=some c)
  {x} (h:(compEnvC scope cl C X.env).kindOf x=some .cell\/(compEnvC scope cl C X.env).kindOf x=some .free):∃ c,cl.lookup x=some c:=by
 rcases h with h | h
 ·rcases lookup_relabel h with z | ⟨_,z⟩
  ·exact absurd rfl (sc.nocell _ z)
  ·exact hfree _ z rfl
 ·rcases lookup_relabel h with z | ⟨z,_⟩
  ·exact hfree _ z rfl
  ·cases z
theorem lcX_ok {scope} {N} {k} {R} {cl} {C:Addr} {fp} (I:Inv X pins σ H s) (sc:LcOk X scope N k R) (hf:∀ b∈fp,FpOk X pins H b) (ho:∀ b∈fp,∃ o,s.heap.get? b=some o)
  (hC:s.heap.objs.size<=C) (hcl:∀ x c,cl.lookup x=some c->X.env.cells.lookup x=some c) (hfree:∀ y∈scope.names,y.2=.free->∃ c,cl.lookup y.1=some c):(lcX X scope N cl C s H fp).Ok where
 mod:=I.ok.mod
 kind:=sc.kind
 glob:=I.ok.glob
 blt:=I.ok.blt
 above:=hC
 inj:=fun x y c h1 h2=>I.ok.inj x y c (hcl _ _ h1) (hcl _ _ h2)
 has:=fun x h=>lc_has sc hfree h
 cab:=fun x c h=>by cases h
 hd:=I.ok.hd
 frames:=I.ok.frames
 stk:=.inl rfl
 exf:=fun b hb=>by
  obtain ⟨o,e⟩:=ho b hb
  exact ⟨Nat.ne_of_lt (Nat.lt_of_lt_of_le (Heap.lt_size e) hC),fun x c h=>(hf b hb).2.2.2.2.1 x c (hcl x c h)⟩
 bs:=fun b o e=>I.bs b o e
 bsz:=Nat.le_trans I.ok.bsz I.sz
 noex:=fun b o e hb=>by
  rcases (hf b hb).2.2.2.1 with z | z
  ·exact I.ok.noex b o e z
  ·exact absurd (Nat.lt_of_lt_of_le (Heap.lt_size e) (Nat.le_trans I.ok.bsz z)) (Nat.lt_irrefl _)
 exfs:=fun b hb hs=>by
  rcases List.mem_cons.mp (I.stkSub b hs) with z | z
  ·exact (hf b hb).2.1 z
  ·exact (hf b hb).2.2.1 z
 funs:=I.stack
 frf:=I.stkFree
theorem stk_no (I:Inv X pins σ H s) {a:Addr} (h:s.heap.objs.size<=a):a∉frs X.stack:=fun z=>by
 rcases List.mem_cons.mp (I.stkSub a z) with e | e
 ·subst e
  exact absurd (Nat.lt_of_lt_of_le I.lt h) (Nat.lt_irrefl _)
 ·exact I.nofs h e
theorem lcX_inv {scope} {N} {k} {R} {cl} {C D:Addr} {fp} {h1} {t} {m} {oD} (I:Inv X pins σ H s) (sc:LcOk X scope N k R)
  (hf:∀ b∈fp,FpOk X pins H b) (ho:∀ b∈fp,∃ o,s.heap.get? b=some o)
  (hC:s.heap.objs.size<=C) (hD:s.heap.objs.size<=D) (hDC:D≠C) (hcl:∀ x c,cl.lookup x=some c->X.env.cells.lookup x=some c) (hfree:∀ y∈scope.names,y.2=.free->∃ c,cl.lookup y.1=some c)
  (old:∀ b o,s.heap.get? b=some o->h1.get? b=some o) (hn:h1.Ns C m) (eD:h1.get? D=some oD) (dD:∀ v,oD.data≠.cell v) :
  Inv (lcX X scope N cl C s H fp) [(D,oD)] (lcSt k R σ) H { s with heap:=h1,toks:=t } where
 ok:=lcX_ok I sc hf ho hC hcl hfree
 os:=rfl
 bare:=I.bare
 base:=Un.kept old
 loc:=⟨m,hn,fun i x v e1 e2 vis=>by
  obtain ⟨mX,hnX,hl⟩:=I.loc
  unfold lcSt at e2
  by_cases hi:i < k
  ·rw [List.getElem?_append_left (by simp_all),List.getElem?_replicate,if_pos hi] at e2
   grind
  ·have hk:k<=i:=Nat.le_of_not_lt hi
   rw [List.getElem?_append_right (List.length_replicate▸hk),List.length_replicate,List.getElem?_map] at e2
   cases er:R[i - k]? with
   | none=>simp_all
   | some j =>
    rw [er] at e2
    have ej:(σ[j]?).join=some v:=by simpa using e2
    have ej':σ[j]?=some (some v):=by
     cases q:σ[j]? with
     | none=>rw [q] at ej;cases ej
     | some z=>simp_all
    obtain ⟨o1,o2⟩:=sc.outs _ j x er (by rw [show k + (i - k)=i by lia];exact e1)
    have cap:=sc.caps (x,.free) (PySem.mem_of_lookup o2) rfl
    have visX:Vis X.env.scope x:=cap.elim (fun z=>.inr (.inl z)) fun z=>.inr (.inr z)
    obtain ⟨u,ru,q⟩:=hl j x v o1 ej' visX
    refine ⟨u,ru,?_⟩
    rcases q with ⟨q,_⟩ | ⟨_,c,ec,hc⟩
    ·simp_all
    ·obtain ⟨c',ec'⟩:=hfree (x,.free) (PySem.mem_of_lookup o2) rfl
     have e:=Option.some.inj ((hcl x c' ec').symm.trans ec)
     subst e
     refine .inr ⟨?_,c',ec',?_⟩
     ·rcases vis with z | z | z
      ·rcases lookup_relabel (env:=X.env) (names:=scope.names) z with y | ⟨y,_⟩
       ·have y':=sc.names _ y rfl
        grind
       ·cases y
      ·exact .inl z
      ·exact .inr z
     ·obtain ⟨o,h1,h2⟩:=hc
      exact ⟨o,old _ _ h1,h2⟩⟩
 cell:=fun x c h=>by
  obtain ⟨v,o,h1,h2⟩:=I.cell x c (hcl x c h)
  exact ⟨v,o,old _ _ h1,h2⟩
 free:=I.hok.fresh hC
 freeC:=fun x c h=>I.freeC x c (hcl x c h)
 pin:=fun p hp=>by
  have e:p=(D,oD):=by
   have hp:p∈([]++[(D,oD)]:List (Addr×Obj)):=hp
   simpa using hp
  subst e
  exact ⟨eD,I.hok.fresh hD,hDC,stk_no I hD,dD⟩
 hok:=I.hok.kept old
 len:=by
  show (lcSt k R σ).length=N.length
  unfold lcSt
  rw [sc.len,List.length_append,List.length_replicate,List.length_map]
theorem inv_adopt {a} {o} (I:Inv X pins σ H s) (hn:H a=none) (hL:a≠X.env.locals) (h1:a∈X.ex\/X.s₀.heap.objs.size<=a) (h2:∀ x c,X.env.cells.lookup x=some c->c≠a) (h3:∀ p∈X.pn++pins,p.1≠a)
  (new:ObjOk X.prog X.w (upd H a o) s.heap a o):Inv X pins σ (upd H a o) s:=by
 have hok:HOk X.prog X.w (upd H a o) s.heap:=fun b u e=>by
  by_cases hb:b=a
  ·subst hb;rw [upd_same] at e;cases e;exact new
  ·rw [upd_ne hb] at e
   exact (I.hok b u e).stay (fun _ _ _ q=>q) (fun c q=>by rw [upd_ne (ne_of_none q hn)];exact q) fun c xs q=>by rw [upd_ne (ne_of_none q hn)];exact q
 have na:∀ b,b∉[a]->b≠a:=fun b hb z=>hb (z▸List.mem_singleton.mpr rfl)
 exact I.step (h':=s.heap) (H':=upd H a o) (g':=s.gens) (t':=s.toks) (d':=s.drawn)
  (fun b hb=>by rw [List.mem_singleton.mp hb];exact ⟨h1,hL,h2,h3⟩) (fun b o _ _ _ e _=>e) (fun b o _ _ _ e _=>⟨o.slots,e⟩) (fun b o hb _ q=>by rw [upd_ne (na b hb)];exact q)
  (fun b o _ e=>⟨o,e⟩) (fun b xs q=>by rw [upd_ne (ne_of_none q hn)];exact q) (fun b o u q=>by rw [upd_ne (ne_of_none q hn)];exact q) (fun b ps q=>⟨#[],by rw [upd_ne (ne_of_none q hn),q];simp⟩)
  (fun m hm=>hm) hok I.bare
end
noncomputable def PTs (X:Cx) (ifs:List Expr) (t:TT):Prop :=
 ∀ (pins:List (Addr×Obj)) (s:Shared) (σ:L2.St) (H:Hp) (Q:Bool->Hp->Prop),Inv X pins σ H s->t σ H Q->wpAny (model X.prog X.w) X.A (lcTests ifs X.env) (TP X pins σ Q) X.xe s
noncomputable abbrev tYes:TT:=fun _ H Q=>Q true H
theorem pts_nil {X}:PTs X [] tYes:=fun _ _ _ H _ I h=>wpAny_tests_nil ⟨H,I,h⟩
theorem pts_one {X} {c} {t} (hc:PT X c t):PTs X [c] t:=fun pins s σ H Q I h=>wpAny_tests_one (hc pins s σ H Q I h)
noncomputable def LcW (g:TG) (tt:TT) (te:TE) (Q:VK) (J:It) (W:Nat->Nat->List V->L2.St->Hp->Prop):Prop:=∀ i m ys σ H,W i m ys σ H ->
 (J.stop i H/\ys.length<=sizeLine/\∀ p,H p=none->Q (.ref p) (upd H p (.lst ys))) \/
 (J.go i H/\∀ x H1,J.yld i H x H1->g x σ H1 fun σ2 H2=>∃ (Ny:VK) (Nn:Hp->Prop),(∀ y H4,Ny y H4->ys.length<=sizeLine/\∃ m',m' < m/\W (i + 1) m' (ys++[y]) σ2 H4) /\
  (∀ H4,Nn H4->∃ m',m' < m/\W (i + 1) m' ys σ2 H4)/\tt σ2 H2 fun b H3=>if b=true then te σ2 H3 Ny else Nn H3)
noncomputable abbrev tLC (wi:TI) (g:TG) (tt:TT) (te:TE) (k:Nat) (R:List Nat):TE:=fun σ H Q=>wi σ H fun J H1 =>
 ∃ W:Nat->Nat->List V->L2.St->Hp->Prop,(∃ m,W 0 m [] (lcSt k R σ) H1)/\LcW g tt te Q J W
noncomputable abbrev lstO (its:List Value) (n:Nat):Obj:={ cls:=.type "list",data:=.seq its.toArray n }
end L3
namespace L3
open PySem PySem.Spec PyProof.Rows L2
section
variable {X:Cx}
theorem op_mulI:OpR X (binaryOp .Mult) (rI IntMulOk fun i j=>.int (i * j)):=opI fun _ _ _ _ _ _ _ hc q=>mul_int q hc
noncomputable def CDivB (_i j:Int):Prop:=0 < j/\j.natAbs.log2 < 9000
theorem op_fdivB:OpR X (binaryOp .FloorDiv) (rI CDivB fun i j=>.int (i / j)):=opI fun i j _ _ _ _ _ hc q=>by
 have h1:=hc.1
 exact floordiv_int (by lia) (by rw [Int.fdiv_eq_ediv_of_nonneg i (by lia)];exact q) (.inl (PyProof.noPylong_of_log2 hc.2))
noncomputable def kinds:List String:=["NoneType","bool","int","str","list","tuple","dict"]
noncomputable def isaB (T U:String):Bool:=T == U || (T == "bool" && U == "int")
theorem kit_all {K} {T U} (hT:T∈kinds) (hU:U∈kinds.tail):PySem.W.kitOne K (.type T) (.type U)=some (isaB T U):=by
 simp only [kinds,List.tail_cons,List.mem_cons,List.not_mem_nil,or_false] at hT hU
 rcases hT with rfl | rfl | rfl | rfl | rfl | rfl | rfl<;>rcases hU with rfl | rfl | rfl | rfl | rfl | rfl<;>with_unfolding_all rfl
noncomputable def rIsi (K:PySem.W.Frag):List V->Hp->VK->Prop:=fun xs H Q=>∃ x T U,xs=[x,.ty U]/\TyOf K H x (.type T)/\T∈kinds/\U∈kinds.tail/\Q (.bl (isaB T U)) H
theorem call_isi:CallR X (.builtin "isinstance") (rIsi X.K):=by
 rintro pins s σ H xs us Q I r ⟨x,T,U,rfl,ty,hT,hU,q⟩
 obtain ⟨u,w',rfl,r1,r2⟩:=vals2 r
 cases (r2)
 exact isinst_ok I r1 ty (kit_all hT hU) fun tk=>⟨.bl _,H,I.tok _,rfl,q⟩
noncomputable def Its (x:Str):It:=⟨fun i _=>i < x.cps.size,fun i H v H'=>H'=H/\∃ c,x.cps[i]?=some c/\v=.str ⟨#[c]⟩,fun i _=>i=x.cps.size⟩
theorem turn_str {P} {w} {K} {tg} {x} {t} {it} {ty}
  (W:∀ A',A'.handled=none->Walks P w A' it [it] [it] x.cps.size (SignAt x) (fun i h=>h.IsStrIter it ty x t i))
  (hself:∀ A (i) (s) (Q) (E),s.heap.IsStrIter it ty x t i->Q (.ref it) s->wpAny (model P w) A (pyIter (.ref it)) Q E s)
  (hty:["enumerate","zip","dict_itemiterator","dict_reverseitemiterator","odict_iterator","itertools.zip_longest","itertools.pairwise"].contains ty=false) :
  Turn P w K tg (Its x) [it] it (fun i h=>h.IsStrIter it ty x t i) where
 mem:=by simp
 obj:=fun i h st b hb=>by
  have e:b=it:=by simpa using hb
  obtain ⟨o,e,c,d⟩:=st
  simp_all
 keep:=fun i h h' st k=>by
  obtain ⟨o,e,r⟩:=st
  exact ⟨o,k it (by simp) o e,r⟩
 item:=by
  intro X hP hw hK hc i pins s σ H E I hf st hg
  subst hP hw hK
  obtain ⟨f0,f1,f2,f3,f4,f5⟩:=hf it (by simp)
  refine (W X.A (I.ok.hd hc)).item i s _ _ hg st fun v h' tk hv st' kk=>?_
  obtain ⟨c,u,hcc,rfl⟩:=hv
  have I1:Inv X pins σ H { s with heap:=h',toks:=tk }:=I.turned (fun b o hb e=>kk b o (by simpa using hb) e) f0 f1 f3 f4 f5
  obtain ⟨o,e,c1,d⟩:=id st'
  exact ⟨_,rfl,go_of e c1 d hty ⟨.str ⟨#[c]⟩,H,I1,⟨u,rfl⟩,⟨rfl,c,hcc,rfl⟩,st',fun b hb=>(hf b hb).1⟩⟩
 done:=by
  intro X hP hw hK hc i pins s σ H E I hf st hg
  subst hP hw hK
  obtain ⟨f0,f1,f2,f3,f4,f5⟩:=hf it (by simp)
  subst hg
  exact (W X.A (I.ok.hd hc)).done s _ _ st fun h' tk kk=>⟨rfl,I.turned (fun b o hb e=>kk b o (by simpa using hb) e) f0 f1 f3 f4 f5⟩
 self:=fun A i s Q E st hQ=>hself A i s Q E st hQ
noncomputable def rSlS:V->Option Int->Option Int->Hp->VK->Prop:=fun x lo hi H Q=>∃ z,x=.str z/\z.length<=sizeLine/\Q (.str (Txt.slice z lo hi)) H
theorem sl_str:SlR X rSlS:=by
 rintro pins s σ H x v vl vu lo hi sl Q I rx hs pl pu ⟨z,rfl,hz,q⟩
 obtain ⟨t,rfl⟩:=rx
 refine ⟨"str",_,F.slot_str_getitem.lookup,typeIs_str _ _ _,?_⟩
 have fin:∀ t' k,EP X pins σ Q _ { s with toks:=k }:=fun t' k=>⟨.str _,H,I.tok k,⟨t',rfl⟩,q⟩
 have hle:(Txt.slice z lo hi).length<=sizeLine:=Nat.le_trans (Txt.slice_le z _ _) hz
 cases pl with
 | none=>cases pu with
  | none=>exact wpAny_getItem_str_slice (l:=none) (u:=none) (st:=none) hs rfl (post_val_or_str ⟨hle,fin⟩)
  | int j tj=>exact wpAny_getItem_str_slice (l:=none) (u:=some (j,tj)) (st:=none) hs rfl (post_val_or_str ⟨hle,fin⟩)
 | int i ti=>cases pu with
  | none=>exact wpAny_getItem_str_slice (l:=some (i,ti)) (u:=none) (st:=none) hs rfl (post_val_or_str ⟨hle,fin⟩)
  | int j tj=>exact wpAny_getItem_str_slice (l:=some (i,ti)) (u:=some (j,tj)) (st:=none) hs rfl (post_val_or_str ⟨hle,fin⟩)
noncomputable def rRepS:R2:=fun x y H Q=>∃ z n,x=.str z/\y=.int n/\(z.length<=1024/\n<=1024/\-1024<=n)/\Q (.str (Txt.mul z n)) H
theorem op_repS:OpR X (binaryOp .Mult) rRepS:=by
 rintro pins s σ H x y v u Q I rx ry ⟨z,n,rfl,rfl,⟨h1,h2,h3⟩,q⟩
 obtain ⟨t,rfl⟩:=rx
 obtain ⟨t',rfl⟩:=ry
 exact SB.mul (mulOk_of 1024 1024 h1 h2 (by lia) (by simp) (by simp)) fun t' k=>⟨.str _,H,I.tok k,⟨t',rfl⟩,q⟩
theorem strs_are:∀ {ys} {its},Vals (ys.map V.str) its->StrsAre its ys
 | [],_,.nil=>.nil
 | _ :: _,_,.cons ⟨t,e⟩ r=>by subst e;exact .cons _ t (strs_are r)
noncomputable def rJoin (K:PySem.W.Frag):V->List V->Hp->VK->Prop:=fun x vs H Q=>∃ z p ys,x=.str z/\vs=[.ref p]/\SqL K H p (ys.map V.str)/\(ys.map (·.length)).sum + ys.length * z.length<=16777216/\Q (.str (Txt.join z ys)) H
theorem mt_join:MtR X "str.join" (rJoin X.K):=by
 rintro pins s σ H x xs v us Q I rx rv ⟨z,p,ys,rfl,rfl,hq,hok,q⟩
 obtain ⟨t,rfl⟩:=rx
 obtain ⟨u,rfl,ru⟩:=rv.one
 cases ru
 obtain ⟨its,rs,pl,hz⟩:=I.list hq
 exact join_list pl.isList (strs_are rs) hok fun t' k=>⟨.str _,H,I.tok k,⟨t',rfl⟩,q⟩
noncomputable def rSlAny (K:PySem.W.Frag):V->Option Int->Option Int->Hp->VK->Prop:=fun x lo hi H Q=>rSlL K x lo hi H Q\/rSlT K x lo hi H Q\/rSlS x lo hi H Q
theorem slAny K (hK:X.K=K:=by rfl):SlR X (rSlAny K):=by subst hK;exact sl_list.or (sl_tup.or sl_str)
noncomputable def rLenAny (K:PySem.W.Frag):List V->Hp->VK->Prop:=fun xs H Q=>(∃ p ys,xs=[.ref p]/\(SqL K H p ys\/SqT K H p ys)/\Q (.int ys.length) H)\/(∃ z,xs=[.str z]/\z.length<=sizeLine/\Q (.int z.length) H)\/(∃ a kvs,xs=[V.ref a]/\H a=some (.dK kvs)/\Q (.int kvs.length) H)
theorem callLen K (hK:X.K=K:=by rfl):CallR X (.builtin "len") (rLenAny K):=by subst hK;exact call_len_seq.or (call_len_str.or call_lenD)
theorem pe_bmK (K) {o e} {es} {T} {name} {id} {r} {to} {t} {apos cpos}
  (pa:PlainAttrs T) (slot:Slot T name id) (hty:typeOf (.builtin id)=pure (.type "method_descriptor")) (hm:MtR X id r) (ho:PE X o to) (ha:PA X (e :: es) t)
  (hbase:attributeBase o name X.env (eval o X.env)=eval o X.env:=by rfl)
  (hfew:((backTo cpos (starEach (e :: es) X.env)).all (fun x=>!x.1) && (backToKw cpos (keywordEach [] X.env)).all (fun x=>x.1.isSome)
   && decide ((e :: es).length + ([]:List Keyword).length + (if ([]:List Keyword).isEmpty then 0 else 1) < 30))=true:=by rfl)
  (hline:(apos.endLine == cpos.line)=true:=by rfl) (hs:starEach (e :: es) X.env=(false,eval e X.env) :: starEach es X.env:=by rfl) (hplain:(backTo cpos (starEach es X.env)).any (·.1)=false:=by rfl) (hK:X.K=K:=by rfl) :
  PE X (.Call (.Attribute o name apos) (e :: es) [] cpos) (tBM K T r to t):=by subst hK;exact pe_bm pa slot hty hm ho ha hbase hfew hline hs hplain
theorem bt_len:bootBuiltins "len"=some (.builtin "len"):=by decide +kernel
theorem bt_isinstance:bootBuiltins "isinstance"=some (.builtin "isinstance"):=by decide +kernel
theorem bt_max:bootBuiltins "max"=some (.builtin "max"):=by decide +kernel
theorem bt_sorted:bootBuiltins "sorted"=some (.builtin "sorted"):=by decide +kernel
theorem bt_int:bootBuiltins "int"=some (.type "int"):=by decide +kernel
theorem bt_str:bootBuiltins "str"=some (.type "str"):=by decide +kernel
theorem bt_bool:bootBuiltins "bool"=some (.type "bool"):=by decide +kernel
theorem bt_list:bootBuiltins "list"=some (.type "list"):=by decide +kernel
theorem bt_tuple:bootBuiltins "tuple"=some (.type "tuple"):=by decide +kernel
theorem bt_zip:bootBuiltins "zip"=some (.type "zip"):=by decide +kernel
end
end L3
namespace L3
open PySem PySem.Spec PyProof.Rows L2
noncomputable def Cst (mg:Str->Option Value) (x:Str) (v:V):Prop:=∃ u,mg x=some u/\RelV v u
section
variable {X:Cx} {x:Str} {p pos:Pos} {e:Expr} {es:List Expr} {t:TA} {ps:List Str} {sp:Sp} {k:Nat} {v:V}
theorem pe_cst (c:Cst X.mg x v) (hg:Gl X x:=by rfl) (hd:(x == ("__debug__":Str))=false:=by decide):PE X (.Name x pos) (tC v):=by
 obtain ⟨u,m,r⟩:=c
 exact pe_glob hg m r hd
end
theorem bits_all:∀ {ns:List Int} {m},PySem.W.WData.weightAll (ns.map PySem.W.WData.int)<=m->∀ n∈ns,Builtin.Int.intBits n<=m
 | [],_,_,_,h=>nomatch h
 | a :: r,m,h,n,hn=>by
  have h':(if a == 0 then 0 else a.natAbs.log2 + 1) + 1 + PySem.W.WData.weightAll _<=m:=h
  rcases List.mem_cons.mp hn with z | z
  ·subst z
   have e:Builtin.Int.intBits n=(if n == 0 then 0 else n.natAbs.log2 + 1):=rfl
   grind
  ·exact bits_all (by lia) n z
theorem bits_of_lay {ns:List Int} (h:PySem.W.WData.layableAll [PySem.W.WData.list (ns.map PySem.W.WData.int)]=true):∀ n∈ns,Builtin.Int.intBits n<=1048576:=by
 have h1:=(PySem.W.layW_cons h).1
 unfold PySem.W.WData.layable at h1
 simp at h1
 have h2:PySem.W.WData.weightAll _<=2 ^ 20:=h1.2
 exact bits_all (by simpa using h2)
end L3
namespace L3
open PySem PySem.Spec PyProof.Rows L2
section
variable {X:Cx} {pins:List (Addr×Obj)} {σ:L2.St} {H:Hp} {s:Shared}
theorem in1_units (A:Around):A.in1.units<=A.units + 1:=by
 simp_all
end
end L3
namespace L3
open PySem PySem.Spec PyProof.Rows L2
section
variable {X:Cx}
noncomputable def rIndexS:V->List V->Hp->VK->Prop:=fun v vs H Q=>∃ (x y:Str) (i:Nat) (rest:List Nat),v=.str x/\vs=[.str y]/\Builtin.Str.occurrences x y 0 x.length 1=i :: rest/\Q (.int i) H
theorem mtIndex:MtR X "str.index" rIndexS:=by
 rintro pins s σ H x xs v us Q I rx rv ⟨z,y,i,rest,rfl,rfl,ho,q⟩
 obtain ⟨t,rfl⟩:=rx
 obtain ⟨u,rfl,t',rfl⟩:=rv.one
 exact SC.index ho ⟨.int i,H,I.tok _,⟨_,rfl⟩,q⟩
noncomputable def rListOf (K:PySem.W.Frag):List V->Hp->VK->Prop:=fun xs H Q=>∃ p ys,xs=[.ref p]/\(SqL K H p ys\/SqT K H p ys)/\∀ l,H l=none->Q (.ref l) (upd H l (.lst ys))
theorem callList K (hK:X.K=K:=by rfl):CallR X (.type "list") (rListOf K):=by subst hK;exact call_list_of
theorem pe_bm0K (K) {o} {T} {name} {id} {r} {to} {apos cpos}
  (pa:PlainAttrs T) (slot:Slot T name id) (hty:typeOf (.builtin id)=pure (.type "method_descriptor")) (hm:MtR X id r) (ho:PE X o to)
  (hbase:attributeBase o name X.env (eval o X.env)=eval o X.env:=by rfl) (hline:(apos.endLine == cpos.line)=true:=by rfl) (hK:X.K=K:=by rfl) :
  PE X (.Call (.Attribute o name apos) [] [] cpos) (tBM0 K T r to):=by subst hK;exact pe_bm0 pa slot hty hm ho hbase hline
end
end L3
namespace L3
open PySem PySem.Spec PyProof.Rows L2
section
variable {X:Cx} {pins:List (Addr×Obj)} {σ:L2.St} {H:Hp} {s:Shared}
theorem inv_turnedL {t'} {h'} (fp:List Addr) (I:Inv X pins σ H s) (k:∀ b o,b∉fp->s.heap.get? b=some o->h'.get? b=some o) (hf:∀ b∈fp,FpOk X pins H b):Inv X pins σ H { s with heap:=h',toks:=t' }:=by
 have nit:∀ b u,H b=some u->b∉fp:=fun b u e z=>by rw [(hf b z).1] at e;cases e
 refine I.step (g':=s.gens) (d':=s.drawn) (fun b hb=>?_) (fun b o _ _ hc e _=>k b o hc e) (fun b o _ _ hc e _=>⟨o.slots,k b o hc e⟩) (fun _ _ _ _ n=>n)
  (fun b o hc e=>⟨o,k b o hc e⟩) (fun _ _ e=>e) (fun _ _ _ e=>e) (fun b ps e=>⟨#[],by rw [e];simp⟩) (fun m hm=>?_) (fun b u e=>?_) I.bare
 ·obtain ⟨_,f1,_,f3,f4,f5⟩:=hf b hb
  exact ⟨f3,f1,f4,f5⟩
 ·obtain ⟨o,es,ep,ho,r⟩:=hm
  exact ⟨o,es,ep,k _ o (fun z=>(hf _ z).2.1 rfl) ho,r⟩
 ·refine (I.hok b u e).stay (fun c v hc q=>k c v ?_ q) (fun _ q=>q) fun _ _ q=>q
  rcases hc with z | z
  ·rw [z];exact nit b u e
  ·exact nit c _ z
end
noncomputable def Itz (K:PySem.W.Frag) (l1 l2:Addr):It:=⟨fun i H=>∃ xs ys x y,SqL K H l1 xs/\SqL K H l2 ys/\xs[i]?=some x/\ys[i]?=some y,
 fun i H v H'=>∃ T x y,H T=none/\v=.ref T/\H'=upd H T (.tup [x,y])/\(∀ xs,SqL K H l1 xs->xs[i]?=some x)/\∀ ys,SqL K H l2 ys->ys[i]?=some y,
 fun i H=>∃ xs ys,SqL K H l1 xs/\SqL K H l2 ys/\(xs.length<=i\/ys.length<=i)⟩
noncomputable abbrev znt (z TI TO i1 i2 l1 l2:Addr) (i:Nat) (h:Heap):Prop:=IsZip h z TI TO .none/\IsPair h TI (.ref i1) (.ref i2)/\(∃ a b,IsPair h TO a b)/\h.IsListIter i1 l1 i/\h.IsListIter i2 l2 i
theorem turn_zip {P} {w} {K} {elts} {k1} {pos} {z TI TO i1 i2 l1 l2} (ap:ZipApart z TI TO i1 i2 l1 l2) :
  Turn P w K (.Tuple elts k1 pos) (Itz K l1 l2) [z,TI,TO,i1,i2] z (znt z TI TO i1 i2 l1 l2) where
 mem:=by simp
 obj:=fun i h st b hb=>by
  obtain ⟨h1,h2,⟨a,c,h3⟩,⟨o4,e4,c4,d4⟩,o5,e5,c5,d5⟩:=st
  simp at hb
  rcases hb with rfl | rfl | rfl | rfl | rfl
  ·exact ⟨_,h1,fun v z=>by cases z⟩
  ·exact ⟨_,h2,fun v z=>by cases z⟩
  ·exact ⟨_,h3,fun v z=>by cases z⟩
  ·exact ⟨_,e4,fun v z=>by rw [d4] at z;cases z⟩
  ·exact ⟨_,e5,fun v z=>by rw [d5] at z;cases z⟩
 keep:=fun i h h' st k=>by
  obtain ⟨h1,h2,⟨a,c,h3⟩,⟨o4,e4,c4,d4⟩,o5,e5,c5,d5⟩:=st
  exact ⟨k _ (by simp) _ h1,k _ (by simp) _ h2,⟨a,c,k _ (by simp) _ h3⟩,⟨o4,k _ (by simp) _ e4,c4,d4⟩,o5,k _ (by simp) _ e5,c5,d5⟩
 item:=by
  intro X hP hw hK hc i pins s σ H E I hf st hg
  subst hP hw hK
  obtain ⟨xs,ys,x,y,q1,q2,hx,hy⟩:=hg
  obtain ⟨its1,rv1,p1,hz1⟩:=I.list q1
  obtain ⟨u1,hu1,ru1⟩:=rv1.get hx
  obtain ⟨its2,rv2,p2,hz2⟩:=I.list q2
  obtain ⟨u2,hu2,ru2⟩:=rv2.get hy
  obtain ⟨t1,t2,⟨a,b,t3⟩,t4,t5⟩:=st
  refine wpAny_pyNext_zip_item ap t1 t2 t3 t4 t5 p1.isList p2.isList (x:=u1) (y:=u2) (by simpa using hu1) (by simpa using hu2) fun h1 g1 g3 g4 g5 gT gs gk=>(⟨_,rfl,wpAny_letOwnedTupleGo_zip (s:={ s with heap:=h1 }) g1 fun h2 f1 sb=>?_⟩)
  have fT:=I.fpOk (Nat.le_refl _) (I.hok.fresh (Nat.le_refl _))
  have nT:∀ b∈[z,TI,TO,i1,i2],b≠s.heap.objs.size:=fun b hb e=>by
   obtain ⟨o,eo,_⟩:∃ o,s.heap.get? b=some o/\True:=by
    simp at hb
    obtain ⟨o4,e4,_⟩:=t4
    obtain ⟨o5,e5,_⟩:=t5
    rcases hb with rfl | rfl | rfl | rfl | rfl
    ·exact ⟨_,t1,trivial⟩
    ·exact ⟨_,t2,trivial⟩
    ·exact ⟨_,t3,trivial⟩
    ·exact ⟨_,e4,trivial⟩
    ·exact ⟨_,e5,trivial⟩
   exact absurd (Heap.lt_size eo) (e▸Nat.lt_irrefl _)
  have kk:∀ b o,b∉[z,TO,i1,i2]->s.heap.get? b=some o->h2.get? b=some o:=fun b o hb e=>by
   simp at hb
   exact (sb.2 b hb.1).trans (gk b o hb.1 hb.2.1 hb.2.2.1 hb.2.2.2 e)
  have I1:Inv X pins σ H { s with heap:=h2,toks:=s.toks }:=inv_turnedL [z,TO,i1,i2] I kk fun b hb=>hf b (by
   simp at hb ⊢
   rcases hb with h | h | h | h<;>simp [h])
  have nz:s.heap.objs.size≠z:=fun e=>nT z (by simp) e.symm
  have I2:=inv_adopt (a:=s.heap.objs.size) (o:=.tup [x,y]) I1 fT.1 fT.2.1 fT.2.2.2.1 fT.2.2.2.2.1 fT.2.2.2.2.2
   (show ObjOk X.prog X.w _ h2 _ (.tup [x,y]) from ⟨by show (2:Nat)<=sizeLine;decide,[u1,u2],.cons ru1 (.cons ru2 .nil),⟨_,(sb.2 _ nz).trans gT,rfl,rfl,0,rfl⟩⟩)
  exact ⟨.ref s.heap.objs.size,_,I2,rfl,⟨_,x,y,fT.1,rfl,rfl,fun zs hzs=>by rw [I.list_inj hzs q1];exact hx,fun zs hzs=>by rw [I.list_inj hzs q2];exact hy⟩,(⟨f1,((sb.2 _ ap.TIz).trans (gk _ _ ap.TIz ap.TITO ap.TIi1 ap.TIi2 t2)),⟨u1,u2,(sb.2 _ ap.TOz).trans g3⟩,g4.at fun o e=>(sb.2 _ ap.i1z).trans e,g5.at fun o e=>(sb.2 _ ap.i2z).trans e⟩),fun b hb=>by rw [upd_ne (nT b hb)];exact (hf b hb).1⟩
 done:=by
  intro X hP hw hK hc i pins s σ H E I hf st hg
  subst hP hw hK
  obtain ⟨xs,ys,q1,q2,hx⟩:=hg
  obtain ⟨its1,rv1,p1,hz1⟩:=I.list q1
  obtain ⟨its2,rv2,p2,hz2⟩:=I.list q2
  obtain ⟨t1,t2,⟨a,b,t3⟩,t4,t5⟩:=st
  have hl1:=rv1.length
  have hl2:=rv2.length
  refine wpAny_pyNext_zip_end (I.ok.hd hc) ap t1 t2 t3 t4 t5 p1.isList p2.isList (hx.imp (fun h=>by simp;lia) fun h=>by simp;lia) fun h' kk=>⟨rfl,?_⟩
  refine inv_turnedL (t':=s.toks) [z,TO,i1,i2] I (fun b o hb e=>?_) fun b hb=>hf b (by
   simp only [List.mem_cons,List.not_mem_nil,or_false] at hb ⊢
   rcases hb with h | h | h | h<;>simp [h])
  simp only [List.mem_cons,List.not_mem_nil,or_false,not_or] at hb
  exact kk b o hb.1 hb.2.1 hb.2.2.1 hb.2.2.2 e
 self:=fun _ _ _ _ _ st h=>wpAny_pyIter_zip st.1 h
noncomputable abbrev iZip (K:PySem.W.Frag) (ta:TA):TI:=fun σ H R=>ta σ H fun vs H1=>∃ l1 l2,vs=[.ref l1,.ref l2]/\(∃ xs,SqL K H1 l1 xs)/\(∃ ys,SqL K H1 l2 ys)/\R (Itz K l1 l2) H1
section
variable {X:Cx}
theorem pi_zip K {a b} {ta} {p pos tpos} {elts} {k1} (hg:Gl X "zip") (hm:X.mg "zip"=none) (ha:PA X [a,b] ta) (hK:X.K=K:=by rfl)
  (hs:starEach [a,b] X.env=[(false,eval a X.env),(false,eval b X.env)]:=by rfl) (hs2:starEach [b] X.env=[(false,eval b X.env)]:=by rfl) :
  PI X (.Tuple elts k1 tpos) (.Call (.Name "zip" p) [a,b] [] pos) (iZip K ta):=by
 subst hK
 intro pins s σ H R I h
 refine Call_ (ld_blt I hg hm bt_zip (PyProof.Rows.callWith_type1 (thn (ha pos pins s σ H _ I h) fun us s1 ⟨vs,H1,I1,r1,q1⟩=>?_) (by rw [hs,hs2]) (by rw [hs2];rfl)))
 obtain ⟨l1,l2,rfl,⟨xs,q1⟩,⟨ys,q2⟩,q⟩:=q1
 obtain ⟨u1,u2,rfl,e1,e2⟩:=vals2 r1
 cases e1
 cases e2
 obtain ⟨its1,rv1,p1,hz1⟩:=I1.list q1
 obtain ⟨its2,rv2,p2,hz2⟩:=I1.list q2
 have lt:∀ {l} {ar},s1.heap.IsList l ar->l < s1.heap.objs.size:=fun h=>by obtain ⟨_,e,_⟩:=h;exact Heap.lt_size e
 refine call_zip_2 p1.isList p2.isList fun h' g1 g2 g3 g4 g5 gs gk=>?_
 refine wpAny_pyIter_zip g1 ⟨_,[_,s1.heap.objs.size + 2,s1.heap.objs.size + 3,s1.heap.objs.size,s1.heap.objs.size + 1],_,_,H1,rfl,I1.kept (t':=s1.toks) gk,
  turn_zip (zipApart_new (lt p1.isList) (lt p2.isList)),⟨g1,g2,⟨_,_,g3⟩,g4,g5⟩,fun b hb=>?_,q⟩
 have hle:s1.heap.objs.size<=b:=by
  simp at hb
  rcases hb with rfl | rfl | rfl | rfl | rfl<;>lia
 exact I1.fpOk hle (I1.hok.fresh hle)
end
end L3
namespace L2
open PySem PySem.Spec PyProof.Rows
section
variable {P:Program} {w:World} {H H':Hp} {h h':Heap} {a:Addr} {o:HO}
theorem ObjOk.obj (x:ObjOk P w H h a o):∃ u,h.get? a=some u:=by
 cases o with
 | lst xs=>obtain ⟨_,_,_,_,e⟩:=x;exact ⟨_,e⟩
 | tup xs=>obtain ⟨_,_,_,p⟩:=x;obtain ⟨u,e,_⟩:=p;exact ⟨u,e⟩
 | dK kvs=>obtain ⟨_,_,_,_,o,_,_,e,_⟩:=x;exact ⟨_,e⟩
 | dT kvs=>obtain ⟨_,_,_,_,o,_,_,e,_⟩:=x;exact ⟨_,e⟩
 | set S n=>obtain ⟨o,_,_,_,e,_⟩:=x;exact ⟨_,e⟩
 | ins C dx fs=>obtain ⟨_,_,_,e,_⟩:=x;exact ⟨_,e⟩
 | own y=>obtain ⟨_,e⟩:=x;exact ⟨_,e⟩
 | xd fs=>obtain ⟨_,⟨_,_,_,e,_⟩,_⟩:=x;exact ⟨_,e⟩
 | rng lo hi=>obtain ⟨_,_,_,e⟩:=x;exact ⟨_,e⟩
 | frz ob u=>obtain ⟨e,_⟩:=x;exact ⟨_,e⟩
 | tbl ps=>exact ⟨_,x⟩
 | met f y=>exact ⟨_,x⟩
 | ext φ=>obtain ⟨_,⟨_,e⟩,_⟩:=x;exact ⟨_,e⟩
end
section
variable {X:Cx} {pins:List (Addr×Obj)} {σ:List (Option V)} {H H':Hp} {s:Shared} {h':Heap}
theorem Inv.stepN {g'} {t'} {d'} {ch:List Addr} (I:Inv X pins σ H s)
  (hch:∀ b∈ch,(b∈X.ex\/X.s₀.heap.get? b=none)/\b≠X.env.locals/\(∀ x c,X.env.cells.lookup x=some c->c≠b)/\∀ p∈X.pn++pins,p.1≠b)
  (keep:∀ b o,b≠X.env.locals->b∉X.fs->b∉ch->s.heap.get? b=some o->H b=none->h'.get? b=some o)
  (slot:∀ b o,b≠X.env.locals->b∈X.fs->b∉ch->s.heap.get? b=some o->H b=none->∃ sl,h'.get? b=some { o with slots:=sl }) (free:∀ b o,b∉ch->s.heap.get? b=some o->H b=none->H' b=none)
  (there:∀ b o,b∉ch->s.heap.get? b=some o->∃ o',h'.get? b=some o')
  (tups:∀ b xs,H b=some (.tup xs)->H' b=some (.tup xs)) (frzs:∀ b o u,H b=some (.frz o u)->H' b=some (.frz o u)) (tbls:∀ b ps,H b=some (.tbl ps)->∃ more,H' b=some (.tbl (ps++more)))
  (ns:∀ m,s.heap.Ns X.env.locals m->h'.Ns X.env.locals m) (hok:HOk X.prog X.w H' h') (hg:AllBare g') :
  Inv X pins σ H' { s with heap:=h',gens:=g',drawn:=d',toks:=t' }:=by
 have neL:∀ b o,X.s₀.heap.get? b=some o->b≠X.env.locals:=fun b o e=>Nat.ne_of_lt (Nat.lt_of_lt_of_le (Heap.lt_size e) I.ok.above)
 have neC:∀ b o,X.s₀.heap.get? b=some o->b∉X.ex->b∉ch:=fun b o e hx hb=>by
  rcases (hch b hb).1 with z | z
  ·exact hx z
  ·grind
 have cellK:∀ x c,X.env.cells.lookup x=some c->∀ v,s.heap.IsCell c v->h'.IsCell c v:=fun x c e v ⟨o,ho,hd⟩=>by
  have nch:=fun z=>(hch c z).2.2.1 x c e rfl
  by_cases hc:c∈X.fs
  ·obtain ⟨sl,q⟩:=slot c o (I.cne x c e) hc nch ho (I.freeC x c e)
   exact ⟨_,q,hd⟩
  ·exact ⟨o,keep c o (I.cne x c e) hc nch ho (I.freeC x c e),hd⟩
 refine ⟨I.ok,I.os,hg,⟨fun b o e n hb hx=>?_,fun b o e n hb hx=>?_,fun b o e n hx=>?_,fun b o e hx=>?_,fun b xs e=>tups b xs (I.base.tups b xs e),fun b o xs e=>frzs b o xs (I.base.frzs b o xs e),fun b ps e=>?_⟩,?_,fun x c e=>?_,?_,fun x c e=>?_,fun p hp=>?_,hok,I.len⟩
 ·exact keep b o (neL b o e) hb (neC b o e hx) (I.base.keep b o e n hb hx) (I.base.free b o e n hx)
 ·obtain ⟨sl,e1⟩:=I.base.slot b o e n hb hx
  obtain ⟨sl',e2⟩:=slot b _ (neL b o e) hb (neC b o e hx) e1 (I.base.free b o e n hx)
  exact ⟨sl',e2⟩
 ·obtain ⟨o',e1⟩:=I.base.there b o e hx
  exact free b o' (neC b o e hx) e1 (I.base.free b o e n hx)
 ·obtain ⟨o',e1⟩:=I.base.there b o e hx
  exact there b o' (neC b o e hx) e1
 ·obtain ⟨m1,e1⟩:=I.base.tbls b ps e
  obtain ⟨m2,e2⟩:=tbls b _ e1
  exact ⟨m1++m2,by rw [e2,Array.append_assoc]⟩
 ·obtain ⟨m,hn,hl⟩:=I.loc
  refine ⟨m,ns m hn,fun i x v e1 e2 e3=>?_⟩
  obtain ⟨u,r,l⟩:=hl i x v e1 e2 e3
  refine ⟨u,r,?_⟩
  rcases l with l | ⟨k,c,e,z⟩
  ·exact .inl l
  ·exact .inr ⟨k,c,e,cellK x c e _ z⟩
 ·obtain ⟨v,z⟩:=I.cell x c e
  exact ⟨v,cellK x c e v z⟩
 ·obtain ⟨m,⟨o,_,_,ho,_⟩,_⟩:=I.loc
  exact free _ o (fun z=>(hch _ z).2.1 rfl) ho I.free
 ·obtain ⟨v,o,ho,hd⟩:=I.cell x c e
  exact free c o (fun z=>(hch c z).2.2.1 x c e rfl) ho (I.freeC x c e)
 ·obtain ⟨e,n,ne,nf,d⟩:=I.pin p hp
  have nch:=fun z=>(hch p.1 z).2.2.2 p hp rfl
  exact ⟨keep p.1 p.2 ne nf nch e n,free p.1 p.2 nch e n,ne,nf,d⟩
theorem Inv.callN {g'} {t'} {d'} {ch} (I:Inv X pins σ H s) (u:Un (frs X.stack) ch H H' s.heap h') (hok:HOk X.prog X.w H' h') (hg:AllBare g')
  (hch:∀ b∈ch,(b∈X.ex\/X.s₀.heap.get? b=none)/\b≠X.env.locals/\(∀ x c,X.env.cells.lookup x=some c->c≠b)/\∀ p∈X.pn++pins,p.1≠b) :
  Inv X pins σ H' { s with heap:=h',gens:=g',drawn:=d',toks:=t' }:=by
 obtain ⟨m,⟨o,es,ep,ho,r⟩,_⟩:=id I.loc
 obtain ⟨sl,hL⟩:=u.any ho I.free fun z=>(hch _ z).2.1 rfl
 exact I.stepN hch (fun b o hL hb hc e n=>u.keep b o e n (fun z=>(List.mem_cons.mp (I.stkSub b z)).elim hL hb) hc) (fun b o _ _ hc e n=>u.any e n hc) (fun b o hc e n=>u.free b o e n hc) (fun b o hc e=>u.there b o e hc) u.tups u.frzs u.tbls (fun m' hm=>by
  obtain ⟨o',es',ep',ho',r'⟩:=hm
  rw [ho] at ho';cases ho'
  exact ⟨_,es',ep',hL,r'⟩) hok hg
end
end L2
namespace L3
open PySem PySem.Spec PyProof.Rows L2
theorem noteFrame_congr {e} {env env0} (h:env.frame=env0.frame):noteFrame e env=noteFrame e env0:=by
 unfold noteFrame PySem.frameOf
 rw [h]
structure Fl0 (h:Heap) (x:Addr) (C:Value) (vs:Array Value):Prop where
 ob:h.get? x=some { cls:=C,data:=.fields vs }
 sz:1 < vs.size
structure FlT (h:Heap) (x T:Addr) (C:Value) (fl:Value):Prop where
 ex:∃ vs,h.get? x=some { cls:=C,data:=.fields vs }/\vs[1]?=some (.ref T)
 tb:∃ oT ts,h.get? T=some oT/\oT.data=.fields ts/\ts[3]?=some fl
 ne:T≠x
structure Chg (fs ch:List Addr) (h h':Heap):Prop where
 keep:∀ b o,h.get? b=some o->b∉fs->b∉ch->h'.get? b=some o
 slot:∀ b o,h.get? b=some o->b∉ch->∃ sl,h'.get? b=some { cls:=o.cls,dict:=o.dict,data:=o.data,slots:=sl }
 size:h.objs.size<=h'.objs.size
theorem Chg.trans {fs ch ch'} {h h1 h2} (a:Chg fs ch h h1) (b:Chg fs ch' h1 h2) (hc:∀ x∈ch',x∈ch\/h.get? x=none):Chg fs ch h h2 where
 keep:=fun x o e h1 h2=>b.keep x o (a.keep x o e h1 h2) h1 fun z=>(hc x z).elim h2 fun q=>by rw [q] at e;cases e
 slot:=fun x o e hn=>by
  obtain ⟨sl,e1⟩:=a.slot x o e hn
  obtain ⟨sl2,e2⟩:=b.slot x _ e1 fun z=>(hc x z).elim hn fun q=>by rw [q] at e;cases e
  exact ⟨sl2,e2⟩
 size:=Nat.le_trans a.size b.size
theorem Chg.mono {fs ch ch'} {h h1} (a:Chg fs ch h h1) (hc:∀ x∈ch,x∈ch'):Chg fs ch' h h1:=⟨fun b o e h1 h2=>a.keep b o e h1 fun z=>h2 (hc b z),fun b o e h2=>a.slot b o e fun z=>h2 (hc b z),a.size⟩
theorem Chg.of_upd {fs} {h} {a} {f} : Chg fs [a] h (h.update a f) :=
  ⟨fun b o e _ hn => by rw [Heap.get?_update_ne _ _ _ _ (fun z => hn (List.mem_singleton.mpr z))]; exact e,
   fun b o e hn => ⟨o.slots, by rw [Heap.get?_update_ne _ _ _ _ (fun z => hn (List.mem_singleton.mpr z))]; exact e⟩, by rw [Heap.size_update]; exact Nat.le_refl _⟩
theorem Chg.of_push {fs} {h} {o}:Chg fs [] h (h.push o) :=
 ⟨fun b o e _ _=>Heap.get?_push_of_some _ e,fun b o e _=>⟨o.slots,Heap.get?_push_of_some _ e⟩,by rw [Heap.size_push];lia⟩
theorem Chg.of_slots {fs} {h h'} (s:Heap.SlotsOnly fs h h'):Chg fs [] h h' :=
 ⟨fun b o e hn _=>(s.2.1 b hn).trans e,fun b o e _=>s.2.2 b o e,by rw [s.1];exact Nat.le_refl _⟩
theorem Chg.refl {fs ch} {h}:Chg fs ch h h:=⟨fun _ _ e _ _=>e,fun b o e _=>⟨o.slots,e⟩,Nat.le_refl _⟩
section
variable {M:Model} {A:Around} {E:Value->Shared->Prop} {s:Shared} {base:Heap} {env:Env} {outer:List Env} {L x T:Addr} {C fl:Value}
theorem entry_raw {head} {hadNext} {vs} {Q} (hA:A.frames=some (env :: outer)) (hF:s.heap.FunFrames base (env :: outer)) (hL:env.frame=some L) (ho:Fl0 s.heap x C vs)
  (h:∀ h' T',Chg (frs (env :: outer)) [x] s.heap h'->s.heap.objs.size<=T'->FlT h' x T' C (rawInt ↑L)->Q () { s with heap:=h' }) :
  wpAny M A (do
   let a ← PySem.frameOf env
   let pl ← entryPlaceOf L hadNext
   let b ← EntryCells.newEntry head a Value.none (rawInt ↑L) Value.none pl
   setField (Value.ref x) 1 b) Q E s:=by
 refine wpAny_bind (wpAny_frameOf_fun hA hF hL fun h1 s1=>?_)
 have hx:x∉frs _:=fun z=>by
  obtain ⟨_,o,e,hn⟩:=hF.mem z
  rw [ho.ob] at e
  cases e
  exact hn _ rfl
 have o1:h1.get? x=some { cls:=C,data:=.fields vs }:=(s1.2.1 x hx).trans ho.ob
 have fin:∀ pl,IsPlace pl->wpAny M A (do
   let b ← EntryCells.newEntry head _ Value.none _ Value.none pl
   setField _ 1 b) Q E { s with heap:=h1 }:=fun pl hpl=>by
  refine wpAny_bind ?_
  unfold EntryCells.newEntry newFields
  have har:([head,Value.ref L,Value.none,rawInt ↑L,Value.none]++if pl.isEmpty=true then List.replicate 6 Value.none else pl).toArray[3]?=some (rawInt ↑L):=by simp
  have hsz:([head,Value.ref L,Value.none,rawInt ↑L,Value.none]++if pl.isEmpty=true then List.replicate 6 Value.none else pl).toArray.size<=sizeLine + 2:=by
   rcases hpl with rfl | ⟨_,_,_,_,_,_,_,rfl⟩<;>simp<;>decide
  generalize ([head,Value.ref L,Value.none,rawInt ↑L,Value.none]++if pl.isEmpty=true then List.replicate 6 Value.none else pl).toArray=ar at har hsz
  refine wpAny_newObj_type ?_ hsz
  have o2:(h1.push { cls:=.type "traceback",data:=.fields ar }).get? x=some { cls:=C,data:=.fields vs }:=Heap.get?_push_of_some _ o1
  refine wpAny_setField o2 rfl ho.sz ?_
  have hne:h1.objs.size≠x:=fun e=>absurd (Heap.lt_size o1) (e▸Nat.lt_irrefl _)
  have o3:((h1.push { cls:=.type "traceback",data:=.fields ar }).update x (Obj.mapFields fun y=>y.setIfInBounds 1 (.ref h1.objs.size))).get? h1.objs.size=some { cls:=.type "traceback",data:=.fields ar }:=by
   rw [Heap.get?_update_ne _ _ _ _ hne]
   exact Heap.get?_push_size _ rfl
  refine h _ h1.objs.size (((Chg.of_slots s1).mono (fun _ z=>nomatch z)).trans ((Chg.of_push.mono fun _ z=>nomatch z).trans Chg.of_upd fun y hy=>.inl hy) fun y hy=>.inl hy) (s1.1▸Nat.le_refl _) ⟨⟨vs.setIfInBounds 1 _,?_,Array.getElem?_setIfInBounds_self_of_lt ho.sz⟩,⟨_,_,o3,rfl,har⟩,hne⟩
  exact Heap.get?_update_self _ o2 rfl
 exact wpAny_bind (wpAny_entryPlaceOf fun pl hpl=>fin pl hpl)
theorem note0 {vs} {Q} (hA:A.frames=some (env :: outer)) (hF:s.heap.FunFrames base (env :: outer)) (hL:env.frame=some L) (ho:Fl0 s.heap x C vs) (hv:vs[1]?=some .none)
  (h:∀ h' T',Chg (frs (env :: outer)) [x] s.heap h'->s.heap.objs.size<=T'->FlT h' x T' C (rawInt ↑L)->Q () { s with heap:=h' }):wpAny M A (noteFrame (.ref x) env) Q E s:=by
 unfold noteFrame
 rw [hL]
 exact wpAny_bind (wpAny_field ho.ob rfl hv (entry_raw hA hF hL ho h))
theorem upd3 {T} {oT} {ts} {v} {h:Heap} (e:h.get? T=some oT) (ed:oT.data=.fields ts) (h3:3 < ts.size) :
  ∃ o' ts',(h.update T (Obj.mapFields fun y=>y.setIfInBounds 3 v)).get? T=some o'/\o'.data=.fields ts'/\ts'[3]?=some v:=by
 obtain ⟨c,d,dt,sl⟩:=oT
 cases (ed)
 exact ⟨_,ts.setIfInBounds 3 v,Heap.get?_update_self _ e rfl,rfl,Array.getElem?_setIfInBounds_self_of_lt h3⟩
theorem noteT {Q} (hA:A.frames=some (env :: outer)) (hF:s.heap.FunFrames base (env :: outer)) (hL:env.frame=some L) (f:FlT s.heap x T C fl)
  (h:∀ h' T',Chg (frs (env :: outer)) [x,T] s.heap h'->(s.heap.objs.size<=T'\/T'=T)->FlT h' x T' C (rawInt ↑L)->Q () { s with heap:=h' }):wpAny M A (noteFrame (.ref x) env) Q E s:=by
 obtain ⟨⟨vs,e1,v1⟩,⟨oT,ts,e2,d2,v2⟩,hne⟩:=f
 have h3:3 < ts.size:=by
  rw [Array.getElem?_eq_some_iff] at v2
  exact v2.1
 have h1:1 < vs.size:=by
  rw [Array.getElem?_eq_some_iff] at v1
  exact v1.1
 unfold noteFrame
 rw [hL]
 refine wpAny_bind (wpAny_field e1 rfl v1 (wpAny_bind (wpAny_field e2 d2 v2 ?_)))
 by_cases hf:(fl == rawInt ↑L)=true
 ·rw [if_pos hf]
  have e:=eq_of_beq hf
  subst e
  exact wpAny_pure (h s.heap T Chg.refl (.inr rfl) ⟨⟨vs,e1,v1⟩,⟨oT,ts,e2,d2,v2⟩,hne⟩)
 ·rw [if_neg hf]
  refine wpAny_bind (wpAny_setField e2 d2 h3 ?_)
  have c1:Chg (frs (env :: outer)) [x,T] s.heap (s.heap.update T (Obj.mapFields fun y=>y.setIfInBounds 3 Value.none)):=Chg.of_upd.mono fun y hy=>by
   rw [List.mem_singleton.mp hy];simp
  have e1':(s.heap.update T (Obj.mapFields fun y=>y.setIfInBounds 3 Value.none)).get? x=some { cls:=C,data:=.fields vs }:=by
   rw [Heap.get?_update_ne _ _ _ _ hne.symm];exact e1
  have hF':(s.heap.update T (Obj.mapFields fun y=>y.setIfInBounds 3 Value.none)).FunFrames base (env :: outer):=by
   refine hF.of_keeps fun b o e hn=>⟨o,?_,rfl⟩
   rw [Heap.get?_update_ne _ _ _ _ fun z=>?_]
   ·exact e
   ·grind
  refine entry_raw hA hF' hL ⟨e1',h1⟩ fun h' T' c2 hs f'=>(h h' T' (c1.trans (c2.mono (ch':=[x,T]) fun y hy=>by rw [List.mem_singleton.mp hy];simp) fun y hy=>.inl hy) (.inl ?_) f')
  rw [Heap.size_update] at hs
  exact hs
theorem flight {Q} {fr} (f:FlT s.heap x T C fl) (h:∀ h',Chg (frs outer) [x,T] s.heap h'->FlT h' x T C (fr.elim Value.none fun f=>rawInt ↑f)->Q () { s with heap:=h' }):wpAny M A (setFlight (.ref x) fr) Q E s:=by
 obtain ⟨⟨vs,e1,v1⟩,⟨oT,ts,e2,d2,v2⟩,hne⟩:=f
 have h3:3 < ts.size:=by
  rw [Array.getElem?_eq_some_iff] at v2
  exact v2.1
 refine wpAny_bind (wpAny_field e1 rfl v1 (wpAny_setField e2 d2 h3 (h _ (Chg.of_upd.mono fun y hy=>by rw [List.mem_singleton.mp hy];simp) ⟨⟨vs,?_,v1⟩,upd3 e2 d2 h3,hne⟩)))
 rwa [Heap.get?_update_ne _ _ _ _ hne.symm]
end
end L3
namespace L3
open PySem PySem.Spec PyProof.Rows L2
theorem bx_plain:plainId "BaseException.__getattribute__"=true:=by decide +kernel
theorem bx_kind:builtinKind "BaseException.__getattribute__"=some .slot:=by decide +kernel
theorem bx_split:splitId "BaseException.__getattribute__"=some ("BaseException","__getattribute__"):=by decide +kernel
structure XCls (K:PySem.W.Frag) (C:Addr):Prop where
 ga:PySem.W.findIn K (.ref C) "__getattribute__"=some (some (.builtin "BaseException.__getattribute__"))
 gt:PySem.W.findIn K (.ref C) "__getattr__"=some none
 fo:PySem.W.findObj K C none "__class__"=some (.bind (.builtin "getset_descriptor.__get__") (.builtin "object.__class__"))
 ob:PySem.W.mroIn K C (.type "object")=some true
 bx:PySem.W.mroIn K C (.type "BaseException")=some true
 cl:(PySem.W.clsIn K C).isSome=true
section
variable {P:Program} {w:World} {A:Around} {E:Value->Shared->Prop} {s:Shared} {K:PySem.W.Frag} {x C:Addr} {ox:Obj}
theorem Lk {α:Type} {M:Model} {A:Around} {E:Value->Shared->Prop} {s:Shared} {t:Sem α} {r:α} {Q:α->Shared->Prop} (l:PySem.W.Looks M s.heap t r) (q:Q r s):wpAny M A t Q E s:=l A Q E s (fun _ _ e=>e) q
theorem bx_check {nm:Value} {Q:Unit->Shared->Prop} (KI:K.In s.heap) (X:XCls K C) (at_:PySem.W.InstAt s.heap x ox C none) (q:Q () s) :
  wpAny (model P w) A (checkBuiltinCall "BaseException.__getattribute__" { pos:=[.ref x,nm] }) Q E s:=by
 rw [checkBuiltinCall.eq_1,bx_kind,bx_split]
 refine wpAny_bind ?_
 unfold isInstance
 refine wpAny_bind (Lk at_.type (Lk (PySem.W.looks_mroIn KI X.bx) ?_))
 rw [if_neg (by decide)]
 have h:=F.args_bexc_ga (.ref x) nm
 unfold argsOk at h
 show wpAny _ A (match Manifest.signature? "BaseException.__getattribute__" with | some sig=>Bind.checkArgs "BaseException.__getattribute__" sig { pos:=[.ref x,nm] } | x=>pure ()) Q E s
 cases hs:Manifest.signature? "BaseException.__getattribute__" with
 | none=>exact wpAny_pure q
 | some sig =>
  rw [hs] at h
  have h:Bind.checkArgs "BaseException.__getattribute__" sig { pos:=[.ref x,nm] }=pure ():=h
  show wpAny _ A (Bind.checkArgs "BaseException.__getattribute__" sig { pos:=[.ref x,nm] }) Q E s
  rw [h]
  exact wpAny_pure q
theorem bx_ne:(Value.builtin "BaseException.__getattribute__" == Value.builtin "object.__getattribute__")=false:=by decide
theorem bx_class {Q:Option Value->Shared->Prop} (KI:K.In s.heap) (X:XCls K C) (at_:PySem.W.InstAt s.heap x ox C none) (q:Q (some (.ref C)) { s with toks:=s.toks + 1 }) :
  wpAny (model P w) A (getAttr? (.ref x) "__class__") Q E s:=by
 unfold getAttr?
 refine wpAny_bind (wpAny_mkText ?_)
 unfold getAttrBy?
 refine wpAny_bind (wpAny_attempt ?_)
 unfold getAttrBy
 refine wpAny_holding (wpAny_bind (Lk (s:={ s with toks:=s.toks + 1 }) at_.type (wpAny_bind (Lk (s:={ s with toks:=s.toks + 1 }) (PySem.W.looks_findIn KI X.ga) ?_))))
 dsimp only
 rw [if_neg (by rw [bx_ne,Bool.and_false];decide)]
 unfold getAttrByItsOwn
 refine wpAny_bind (Lk (s:={ s with toks:=s.toks + 1 }) (PySem.W.looks_hook (K:=K) KI (r:=none) X.gt) ?_)
 refine wpAny_bind (wpAny_attempt (wpAny_holding ?_))
 unfold callGetattribute
 rw [if_neg (by decide)]
 unfold boundAndCalled
 rw [F.excAttr_ValueError.ga.bind]
 refine wpAny_bind (wpAny_pure ?_)
 refine wpAny_call (codeAny_call_builtin bx_plain F.entry_bexc_ga (bx_check (s:={ s with toks:=s.toks + 1 }) KI X at_ ?_))
 unfold Builtin.«object.__getattribute__»
 have hsl:slotArgs "__getattribute__" 1 { pos:=[.ref x]++[.str "__class__" s.toks] }=pure (.ref x,[.str "__class__" s.toks]):=rfl
 rw [hsl]
 refine wpAny_bind (wpAny_pure ?_)
 show wpAny _ A.in1 (Builtin.ObjectAttr.attrName (.str "__class__" s.toks) >>= _) _ _ _
 refine wpAny_bind (wpAny_pure ?_)
 refine wpAny_bind (Lk (s:={ s with toks:=s.toks + 1 }) at_.type ?_)
 refine wpAny_bind (Lk (s:={ s with toks:=s.toks + 1 }) (PySem.W.looks_find KI at_ X.fo) ?_)
 show wpAny _ A.in1 (Builtin.ObjectAttr.bindTo (.builtin "getset_descriptor.__get__") (.builtin "object.__class__") (.ref x) (.ref C)) _ _ _
 unfold Builtin.ObjectAttr.bindTo
 refine wpAny_bind (wpAny_holding (wpAny_call (PySem.W.class_get (s:={ s with toks:=s.toks + 1 }) KI at_ X.ob ?_)))
 refine wpAny_pure ?_
 exact wpAny_pure (wpAny_pure q)
theorem cls_obj {h:Heap} (KI:K.In h) (X:XCls K C):∃ o cd,h.get? C=some o/\o.data=.cls cd:=by
 have c:=X.cl
 unfold PySem.W.clsIn at c
 split at c
 ·rename_i e
  exact ⟨_,_,KI _ _ e,rfl⟩
 ·cases c
theorem kitx_exc (X:XCls K C):PySem.W.KitX K (.ref x) (.ref C) (fun h=>∃ ox,PySem.W.InstAt h x ox C none) where
 ty:=fun M h KI ⟨ox,a⟩=>a.type
 it:=fun M h KI _=>by
  obtain ⟨o,cd,e,d⟩:=cls_obj KI X
  intro A Q E s hk q
  unfold isType
  refine wpAny_bind (PySem.W.Looks.ld e A _ _ s hk ?_)
  rw [d]
  exact wpAny_pure q
 ne:=fun h tp dd its n sl KI e=>by
  obtain ⟨o,cd,e',d⟩:=cls_obj KI X
  by_cases z:C=tp
  ·subst z
   rw [e'] at e
   cases e
   cases d
  ·simpa using z
 ca:=fun KI ⟨ox,a⟩ q=>bx_class KI X a q
end
end L3
namespace L3
open PySem PySem.Spec PyProof.Rows L2
noncomputable def FpX (X:Cx) (pins:List (Addr×Obj)) (H:Hp) (b:Addr):Prop :=
 H b=none/\b≠X.env.locals/\b∉X.fs/\(b∈X.ex\/X.s₀.heap.get? b=none)/\(∀ x c,X.env.cells.lookup x=some c->c≠b)/\∀ p∈X.pn++pins,p.1≠b
section
variable {X:Cx} {pins:List (Addr×Obj)} {σ:L2.St} {H:Hp} {s:Shared}
theorem hok_none {P:Program} {w:World} {H:Hp} {h:Heap} {b:Addr} (k:HOk P w H h) (e:h.get? b=none):H b=none:=by
 cases q:H b with
 | none=>rfl
 | some u =>
  obtain ⟨o,z⟩:=(k b u q).obj
  rw [e] at z
  cases z
theorem fpX {H'} {b} (I:Inv X pins σ H s) (hb:s.heap.get? b=none) (hn:H' b=none):FpX X pins H' b:=by
 refine ⟨hn,fun z=>?_,fun z=>?_,?_,fun x c e z=>?_,fun p hp z=>?_⟩
 ·obtain ⟨m,⟨o,_,_,ho,_⟩,_⟩:=I.loc
  grind
 ·obtain ⟨_,o,e,_⟩:=I.ok.funs.mem z
  by_cases hx:b∈X.ex
  ·exact I.ok.exfs b hx z
  ·obtain _:=I.base.there b o e hx
   grind
 ·by_cases hx:b∈X.ex
  ·exact .inl hx
  ·cases e:X.s₀.heap.get? b with
   | none=>exact .inr rfl
   | some o =>
    obtain ⟨o',e'⟩:=I.base.there b o e hx
    grind
 ·obtain ⟨v,o,ho,_⟩:=I.cell x c e
  grind
 ·have:=(I.pin p hp).1
  grind
theorem FpX.of {b} (h:FpOk X pins H b):FpX X pins H b:=⟨h.1,h.2.1,h.2.2.1,h.2.2.2.1.imp id fun z=>Heap.get?_none_of_le z,h.2.2.2.2⟩
theorem inv_chg {h'} {ch} (I:Inv X pins σ H s) (c:Chg (frs X.stack) ch s.heap h') (hf:∀ b∈ch,FpX X pins H b):Inv X pins σ H { s with heap:=h' }:=by
 refine I.callN (g':=s.gens) (t':=s.toks) (d':=s.drawn) ⟨fun b o e _ h1 h2=>c.keep b o e h1 h2,fun b o e _ _ h2=>c.slot b o e h2,fun _ _ _ n _=>n,fun b o e h2=>?_,fun _ _ e=>e,fun _ _ _ e=>e,fun _ _ e=>⟨#[],by rw [e];simp⟩⟩ (fun b u e=>?_) I.bare fun b hb=>?_
 ·obtain ⟨sl,q⟩:=c.slot b o e h2
  exact ⟨_,q⟩
 ·have no:∀ d v,H d=some v->d∉frs X.stack/\d∉ch:=fun d v e=>⟨fun z=>(by rw [I.stkFree d z] at e;cases e),fun z=>(by rw [(hf d z).1] at e;cases e)⟩
  refine (I.hok b u e).stay (fun d v hc q=>?_) (fun _ q=>q) fun _ _ q=>q
  rcases hc with z | z
  ·rw [z] at q ⊢
   exact c.keep b v q (no b u e).1 (no b u e).2
  ·exact c.keep d v q (no d _ z).1 (no d _ z).2
 ·obtain ⟨_,f1,_,f3,f4,f5⟩:=hf b hb
  exact ⟨f3,f1,f4,f5⟩
end
structure Fx (X:Cx) (pins:List (Addr×Obj)) (H:Hp) (h:Heap) (x:Addr) (C:Value):Prop where
 fp:FpX X pins H x
 st:(∃ vs,Fl0 h x C vs/\vs[1]?=some .none)\/∃ T fl,FlT h x T C fl/\FpX X pins H T
structure Xt (X:Cx) (pins:List (Addr×Obj)) (σ:L2.St) (H:Hp) (x T:Addr) (C fl:Value) (s:Shared):Prop where
 inv:Inv X pins σ H s
 fx:FpX X pins H x
 fT:FpX X pins H T
 f:FlT s.heap x T C fl
theorem Xt.to {X} {pins} {σ} {H} {x T} {C fl} {s} (h:Xt X pins σ H x T C fl s):Fx X pins H s.heap x C:=⟨h.fx,.inr ⟨T,fl,h.f,h.fT⟩⟩
noncomputable def Xo (X:Cx) (E:XK) (e:Value) (s:Shared):Prop:=∃ pins σ H x C,e=.ref x/\Inv X pins σ H s/\Fx X pins H s.heap x C/\E C none H
noncomputable def Goes (X:Cx) (E:XK):Prop:=∀ pins σ H s x C,Inv X pins σ H s->Fx X pins H s.heap x C->E C none H->X.xe (.ref x) s
noncomputable abbrev Cx.ex' (X:Cx) (E:XK):Cx:=X.wish (Xo X E)
theorem goes_wish {X} {E}:Goes (Cx.ex' X E) E:=fun pins σ H s x C I f q=>⟨pins,σ,H,x,C,rfl,I.unwish,⟨f.fp,f.st⟩,q⟩
noncomputable def TopX (X:Cx):Prop:=∃ env0 out,X.stack=env0 :: out/\X.env.frame=env0.frame
section
variable {X:Cx} {pins:List (Addr×Obj)} {σ:L2.St} {H:Hp} {s:Shared} {M:Model} {E':Value->Shared->Prop} {x T:Addr} {C fl:Value}
theorem note_X {A} {Q} (top:TopX X) (hA:A.frames=X.A.frames) (I:Inv X pins σ H s) (f:Fx X pins H s.heap x C) (h:∀ L T s',X.env.frame=some L->Xt X pins σ H x T C (rawInt ↑L) s'->Q () s') :
  wpAny M A (noteFrame (.ref x) X.env) Q E' s:=by
 obtain ⟨env0,out,e1,e2⟩:=top
 have hF:=I.stack
 have hfr:A.frames=some (env0 :: out):=by rw [hA,I.ok.frames,e1]
 rw [e1] at hF
 obtain ⟨_,⟨L,o,hL,_⟩,_⟩:=id hF
 rw [noteFrame_congr e2]
 have hL':=e2.trans hL
 rcases f.st with ⟨vs,f0,hv⟩ | ⟨T,fl,fT,pT⟩
 ·refine note0 hfr hF hL f0 hv fun h' T' c hs fl'=>h L T' _ hL' ⟨?_,f.fp,fpX I (Heap.get?_none_of_le hs) (I.hok.fresh hs),fl'⟩
  rw [← e1] at c
  exact inv_chg I c fun b hb=>by rw [List.mem_singleton.mp hb];exact f.fp
 ·refine noteT hfr hF hL fT fun h' T' c hs fl'=>?_
  rw [← e1] at c
  refine h L T' _ hL' ⟨inv_chg I c fun b hb=>?_,f.fp,?_,fl'⟩
  ·simp only [List.mem_cons,List.not_mem_nil,or_false] at hb
   rcases hb with rfl | rfl
   ·exact f.fp
   ·exact pT
  ·rcases hs with hs | hs
   ·exact fpX I (Heap.get?_none_of_le hs) (I.hok.fresh hs)
   ·rw [hs];exact pT
theorem flight_X {A} {Q} {fr} (t:Xt X pins σ H x T C fl s) (h:∀ s',Xt X pins σ H x T C (fr.elim Value.none fun f=>rawInt ↑f) s'->Q () s'):wpAny M A (setFlight (.ref x) fr) Q E' s:=by
 refine flight t.f fun h' c fl'=>h _ ⟨inv_chg t.inv c fun b hb=>?_,t.fx,t.fT,fl'⟩
 simp at hb
 rcases hb with rfl | rfl
 ·exact t.fx
 ·exact t.fT
theorem pass_X {α} {A} {what} {cenv} {Q} (t:Xt X pins σ H x T C fl s) (h:∀ s' fl',Xt X pins σ H x T C fl' s'->E' (.ref x) s'):wpAny M A (PySem.passOn what (.ref x) cenv:Sem α) Q E' s:=by
 obtain ⟨vs,e1,v1⟩:=t.f.ex
 exact wpAny_bind (wpAny_field e1 rfl v1 (wpAny_bind (flight_X t fun s' t'=>(wpAny_throw (h s' _ t')))))
theorem own_X {E} (top:TopX X):PassesOwn M X.A X.env (Xo X E):=by
 rintro e s' ⟨pins,σ,H,x,C,rfl,I,f,q⟩
 refine note_X top rfl I f fun L T s1 _ t=>?_
 obtain ⟨vs,e1,v1⟩:=t.f.ex
 exact wpAny_bind (wpAny_field e1 rfl v1 (flight_X t fun s2 t2=>⟨pins,σ,H,x,C,rfl,t2.inv,t2.to,q⟩))
end
noncomputable def CXE (P:Program) (w:World):CXT:=fun outer H s E e s'=>∃ x T C fl H',e=.ref x/\s'.os=s.os/\AllBare s'.gens/\Un (frs outer) [] H H' s.heap s'.heap/\HOk P w H' s'.heap /\
 s.heap.get? x=none/\s.heap.get? T=none/\H' x=none/\H' T=none/\FlT s'.heap x T C fl/\E C none H'
theorem passE {X} {E} (g:Goes X E):Passes (CXE X.prog X.w) X E:=by
 rintro pins σ H s e s' I ⟨x,T,C,fl,H',rfl,os,bare,un,hok,hx,hT,nx,nT,f,q⟩
 refine g pins σ H' s' x C (I.call' os un hok bare fun b hb=>nomatch hb) ⟨fpX I hx nx,.inr ⟨T,fl,f,fpX I hT nT⟩⟩ q
theorem top_def {CX} {P} {w} {K} {mg} {base} {N} {qual} {scope} {f} {cd} {A} {outer} {s} {H} {E} :
  TopX (cxOf CX P w K mg base N qual scope f cd A outer s H E):=⟨_,_,rfl,rfl⟩
theorem leave_def {P} {w} {K} {mg} {base} {N} {qual} {scope} {f} {cd} {A} {outer} {s} {H} {E} {e} {s'}
  (h:Xo (cxOf (CXE P w) P w K mg base N qual scope f cd A outer s H E) E e s'):(cxOf (CXE P w) P w K mg base N qual scope f cd A outer s H E).xe e s':=by
 obtain ⟨pins,σ,H',x,C,rfl,I,fx,q⟩:=h
 show wpAny _ _ _ _ _ s'
 refine wpAny_bind (note_X top_def rfl I fx fun L T s1 _ t=>(flight_X t fun s2 t2=>?_))
 have ge:∀ b,FpX (cxOf (CXE P w) P w K mg base N qual scope f cd A outer s H E) pins H' b->s.heap.get? b=none:=fun b hb=>hb.2.2.2.1.elim (fun z=>nomatch z) fun z=>z
 exact ⟨x,T,C,_,H',rfl,t2.inv.os,t2.inv.bare,t2.inv.base,t2.inv.hok,ge x t2.fx,ge T t2.fT,t2.fx.1,t2.fT.1,t2.f,q⟩
section
variable {P:Program} {w:World} {K:PySem.W.Frag} {mg:Str->Option Value} {base:Heap}
theorem Fun_okE {x qual} {st} {f} {fd} {N ps} {k} {sp} (F:Fun K x qual st f fd) (S:FnScope N ps (defScope st)) (len:∀ vs H Q E,sp vs H Q E->vs.length=ps.length)
  (hbody:∀ cdv (A) (outer) (s) (H) (vs) (Q) (E),Room k (A.deeper (envOfC qual (defScope st) s.heap.objs.size f cdv))->sp vs H Q E ->
   ∃ t,PSs (Cx.ex' (cxOf (CXE P w) P w K mg base N qual (defScope st) f cdv A outer s H E) E) (defBody st) t/\t { nx:=fun _ H'=>Q .non H',rt:=Q } (L2.start N vs) H):FnOk P w K mg base (CXE P w) (k + 1) f fd ps sp:=by
 obtain ⟨oc,od,kV,doc,pm,an,cdv,ct,osl,rfl,lk,hcd⟩:=F.ex
 refine fn_of lk hcd S len fun A outer s H vs Q E hr hsp=>?_
 obtain ⟨t,h,q⟩:=hbody cdv A outer s H vs Q E hr hsp
 exact ⟨t,fun pins s' σ H' D I hw=>wpAny_mono (h pins s' σ H' D (I.wish _) hw) (fun f s'' z=>z.unwish) fun e s'' z=>leave_def z,q⟩
noncomputable def DefE (P:Program) (w:World) (K:PySem.W.Frag) (mg:Str->Option Value) (base:Heap) (k:Nat) (x:Str) (ps:List Str) (sp:Sp):Prop :=
 ∃ (f:Addr) (fd:FuncData),FnOk P w K mg base (CXE P w) k f fd ps sp/\Binds K fd ps []/\PySem.W.keepIn K (.ref f)=true/\mg x=some (.ref f)
end
section
variable {X:Cx} {x:Str} {p pos:Pos} {e:Expr} {es:List Expr} {t:TA} {ps:List Str} {sp:Sp} {k:Nat} {v:V} {E:XK}
theorem pe_fnE (D:DefE X.prog X.w X.K X.mg X.base k x ps sp) (hr:Room k X.A) (g:Goes X E) (ha:PA X (e :: es) t) (hg:Gl X x:=by rfl) (hdb:(x == ("__debug__":Str))=false:=by decide)
  (he:starEach (e :: es) X.env=(false,eval e X.env) :: starEach es X.env:=by rfl) (hpl:(backTo pos (starEach es X.env)).any (·.1)=false:=by rfl) :
  PE X (.Call (.Name x p) (e :: es) [] pos) (tCall sp [] E t):=by
 obtain ⟨f,fd,F,b,kp,m⟩:=D
 exact pe_call F hr hg m kp b .nil (passE g) ha hdb he hpl
end
end L3
namespace L3
open PySem PySem.Spec PyProof.Rows L2
noncomputable abbrev lcE (X:Cx) (scope:Scope) (N:List Str) (cl:List (Str×Addr)) (C:Addr) (s0:Shared) (H0:Hp) (fp:List Addr) (EX:XK):Cx:=Cx.ex' (lcX X scope N cl C s0 H0 fp) EX
section
variable {prog:Program} {w:World} {A:Around} {R:Result->Shared->Prop} {s:Shared}
theorem lcLoopE {elt target iter} {ifs} {scope} {pos} {it acc} {env} (Ex) (I:Nat->Shared->Prop)
  (turn:∀ n s,I n s->wpAny (model prog w) A (pyNext it) (fun r s1=>match r with
   | none=>R (.ok .next) s1
   | some v=>wpAny (model prog w) A (letOwnedTupleGo target it v) (fun _ s2=>wpAny (model prog w) A (assign target env v) (fun _ s3 =>
     wpAny (model prog w) A (lcTests ifs env) (fun ok s4 =>
      if ok=true then
       wpAny (model prog w) A (eval elt env) (fun x s5=>wpAny (model prog w) A (call (.builtin "list.append") [acc,x]) (fun _ s6=>∃ m,m < n/\I m s6) Ex s5) Ex s4
      else ∃ m,m < n/\I m s4) Ex s3) Ex s2) Ex s1) Ex s)
  (hx:∀ e s,Ex e s->notedBy (model prog w) A env (fun e s'=>R (.error e) s') e s) n (h:I n s):codeAny (model prog w) A (.compLoop (.ListComp elt [⟨target,iter,ifs,0⟩] scope pos) 0 it acc env) R s:=by
 refine codeAny_loop rfl I (fun n s hI=>(wpAny_noted ?_)) n h
 rw [compTurn_list]
 refine wpAny_mono (wpAny_bind (wpAny_standAt (wpAny_bind (thn (turn n s hI) fun r s1 h1=>?_)))) (fun _ _ q=>q) (fun e s q=>?_)
 rotate_left
 ·exact hx e s q
 cases r with
 | none=>exact wpAny_pure h1
 | some v =>
  refine wpAny_bind (thn h1 fun _ s2 h2=>(wpAny_bind (thn h2 fun _ s3 h3=>(wpAny_bind (thn h3 fun ok s4 h4=>?_)))))
  cases ok with
  | false=>exact wpAny_pure ⟨rfl,h4⟩
  | true=>exact wpAny_bind (wpAny_bind (thn h4 fun x s5 h5=>wpAny_bind (thn h5 fun _ s6 h6=>wpAny_pure (wpAny_pure ⟨rfl,h6⟩))))
end
section
variable {X:Cx} {tg iter elt:Expr} {ifs:List Expr} {scope:Scope} {N:List Str} {k:Nat} {R:List Nat} {g:TG} {tt:TT} {te:TE} {pos:Pos}
theorem lc_err {EX} {pins pins'} {σ σ':L2.St} {H2 H'} {s2 s'} {fp} {cl} {C x T:Addr} {Cc fl} {Q} {acc} {use} (gx:Goes X EX)
  (I2:Inv X pins σ H2 s2) (f2:∀ b∈fp,FpOk X pins H2 b) (hC:s2.heap.objs.size<=C) (t:Xt (lcX X scope N cl C s2 H2 fp) pins' σ' H' x T Cc fl s') (q:EX Cc none H') :
  compPost (model X.prog X.w) X.A X.xe use Q acc C (.error (.ref x)) s':=by
 obtain ⟨m,hn,_⟩:=t.inv.loc
 refine ⟨m,hn,fun h' sb cenv _=>?_⟩
 have fC:=I2.fpOk hC t.inv.free
 have J2:Inv X pins σ H' { s' with heap:=h',toks:=s'.toks }:=(I2.call' t.inv.os t.inv.base t.inv.hok t.inv.bare fun b hb=>⟨(f2 b hb).2.2.2.1,(f2 b hb).2.1,(f2 b hb).2.2.2.2.1,(f2 b hb).2.2.2.2.2⟩).turned (fun b o hb e=>(sb.2 b hb).trans e) fC.1 fC.2.1 fC.2.2.2.1 fC.2.2.2.2.1 fC.2.2.2.2.2
 have fp':∀ b,FpX (lcX X scope N cl C s2 H2 fp) pins' H' b->FpX X pins H' b:=fun b hb=>by
  rcases hb.2.2.2.1 with z | z
  ·exact ⟨hb.1,(FpX.of (f2 b z)).2⟩
  ·exact fpX I2 z hb.1
 have nx:=t.fx.2.1
 have nT:=t.fT.2.1
 have f:FlT h' x T Cc fl:=by
  obtain ⟨⟨vs,e1,v1⟩,⟨oT,ts,e2,d2,v2⟩,hne⟩:=t.f
  exact ⟨⟨vs,(sb.2 x nx).trans e1,v1⟩,⟨oT,ts,(sb.2 T nT).trans e2,d2,v2⟩,hne⟩
 refine pass_X ⟨J2,fp' x t.fx,fp' T t.fT,f⟩ fun s3 fl' t3=>gx pins σ H' s3 x Cc t3.inv t3.to q
theorem lc_blockE {EX} {pins} {σ:L2.St} {H2} {s2} {it} {fp} {tn} {J} {Q} {W} {cl} {E}
  {RR:Value->Addr->Result->Shared->Prop} (hc:X.calm=true) (top:TopX X) (sc:LcOk X scope N k R)
  (hcl:∀ x c,cl.lookup x=some c->X.env.cells.lookup x=some c) (hfree:∀ y∈scope.names,y.2=.free->∃ c,cl.lookup y.1=some c)
  (hg:∀ C s0 H0 fp,PG (lcE X scope N cl C s0 H0 fp EX) tg g) (ht:∀ C s0 H0 fp,PTs (lcE X scope N cl C s0 H0 fp EX) ifs tt) (he:∀ C s0 H0 fp,PE (lcE X scope N cl C s0 H0 fp EX) elt te)
  (I2:Inv X pins σ H2 s2) (T:Turn X.prog X.w X.K tg J fp it tn) (st2:tn 0 s2.heap) (f2:∀ b∈fp,FpOk X pins H2 b) (w0:∃ m,W 0 m [] (lcSt k R σ) H2) (turn:LcW g tt te Q J W)
  (hRR:∀ D C oC m ys H' s',Inv X (pins++[(C,oC)]) σ (upd H' D (.lst ys)) s'->s'.heap.get? C=some oC->s'.heap.Ns C m->FpOk X pins (upd H' D (.lst ys)) C->Q (.ref D) (upd H' D (.lst ys))->RR (.ref D) C (.ok .next) s')
  (hER:∀ D C s' pins' σ' H' x T Cc fl,s2.heap.objs.size<=C->Xt (lcX X scope N cl C s2 H2 fp) pins' σ' H' x T Cc fl s'->EX Cc none H'->RR (.ref D) C (.error (.ref x)) s') :
  wpAny (model X.prog X.w) X.A (newList []) (fun acc s3=>wpAny (model X.prog X.w) X.A (newFunctionEnv scope X.env.globals cl [] X.env.qual none .none (some X.env)) (fun cenv s4 =>
   codeAny (model X.prog X.w) X.A (.compStart (.ListComp elt [⟨tg,iter,ifs,0⟩] scope pos) 0 (.ref it) acc { cenv with scope:=relabel scope X.env }) (RR acc cenv.locals) s4) E s3) E s2:=by
 have obj2:∀ b∈fp,∃ o,s2.heap.get? b=some o:=fun b hb=>let ⟨o,e,_⟩:=T.obj 0 _ st2 b hb;⟨o,e⟩
 refine wpAny_newObj_type (wpAny_newFunctionEnv sc.nocell (by intro y hy;simp at hy) (fun h1 hn1 sb1=>?_) sc.kind)
 dsimp only at hn1 sb1 ⊢
 generalize eH:s2.heap.push { cls:=.type "list",dict:=none,data:=.seq ([]:List Value).toArray }=Hx at hn1 sb1 ⊢
 have eC:Hx.objs.size=s2.heap.objs.size + 1:=by rw [← eH,Heap.size_push]
 generalize eD:s2.heap.objs.size=D at eC
 generalize eC':Hx.objs.size=C at hn1 sb1 eC ⊢
 have hDC:D≠C:=by lia
 have hC:s2.heap.objs.size<=C:=by lia
 have hD:s2.heap.objs.size<=D:=by lia
 have old:∀ b o,s2.heap.get? b=some o->h1.get? b=some o:=fun b o e=>by
  exact sb1.extBut b o (Nat.ne_of_lt (Nat.lt_of_lt_of_le (Heap.lt_size e) hC)) (Heap.get?_push_of_some _ (eH▸Heap.get?_push_of_some _ e))
 have accD:h1.get? D=some (lstO [] 0):=by
  refine sb1.extBut _ _ hDC (Heap.get?_push_of_some _ ?_)
  rw [← eH,← eD]
  exact Heap.get?_push_size _ rfl
 have below:∀ b∈fp,b≠D/\b≠C:=fun b hb=>by
  obtain ⟨o,e⟩:=obj2 b hb
  exact ⟨Nat.ne_of_lt (Nat.lt_of_lt_of_le (Heap.lt_size e) hD),Nat.ne_of_lt (Nat.lt_of_lt_of_le (Heap.lt_size e) hC)⟩
 have stat:∀ {H'} {oD},(∀ b∈fp,H' b=none)->∀ b∈fp,FpOk (lcE X scope N cl C s2 H2 fp EX) [(D,oD)] H' b:=fun {H' oD} hn b hb=>by
  obtain ⟨_,f1,f3,f4,f5,f6⟩:=f2 b hb
  refine ⟨hn b hb,(below b hb).2,fun z=>?_,.inl hb,fun x c h=>f5 x c (hcl x c h),fun p hp=>?_⟩
  ·rcases List.mem_cons.mp (I2.stkSub b z) with y | y
   ·exact f1 y
   ·exact f3 y
  ·have e:p=(D,oD):=by
    have hp:p∈([]++[(D,oD)]:List (Addr×Obj)):=hp
    simpa using hp
   rw [e]
   exact (below b hb).1.symm
 have loop:∀ s3:Shared,s3={ s2 with heap:=h1,toks:=s2.toks + ([]:List (Str×Value)).length } ->
   codeAny (model X.prog X.w) X.A (.compLoop (.ListComp elt [⟨tg,iter,ifs,0⟩] scope pos) 0 (.ref it) (.ref D) (compEnvC scope cl C X.env)) (RR (.ref D) C) s3:=by
  rintro s3 rfl
  obtain ⟨m0,w0⟩:=w0
  have hxx:∀ e s,Xo (lcX X scope N cl C s2 H2 fp) EX e s->notedBy (model X.prog X.w) X.A (compEnvC scope cl C X.env) (fun e s'=>RR (.ref D) C (.error e) s') e s:=by
   rintro e s ⟨pins',σ',H',x,Cc,rfl,I',f',q'⟩
   have top':TopX (lcX X scope N cl C s2 H2 fp):=top
   exact note_X (X:=lcX X scope N cl C s2 H2 fp) top' rfl I' f' fun L T s1 _ t=>hER D C s1 pins' σ' H' x T Cc _ hC t q'
  refine lcLoopE (Xo (lcX X scope N cl C s2 H2 fp) EX) (fun n s'=>∃ i ys its nn σ' H',Inv (lcE X scope N cl C s2 H2 fp EX) [(D,lstO its nn)] σ' H' s'/\Vals ys its/\tn i s'.heap/\(∀ b∈fp,H' b=none)/\W i n ys σ' H') ?_ hxx m0
   ⟨0,[],[],0,_,H2,(lcX_inv I2 sc f2 obj2 hC hD hDC hcl hfree old hn1 accD (fun v z=>by cases z)).wish _,.nil,T.keep _ _ _ st2 (fun b hb o e=>old b o e),fun b hb=>(f2 b hb).1,w0⟩
  rintro n s3 ⟨i,ys,its,nn,σ3,H3,I3,rv,st3,fr3,w3⟩
  rcases turn i n ys σ3 H3 w3 with ⟨stop,hz,qn⟩ | ⟨go,step⟩
  ·refine thn (T.done (lcE X scope N cl C s2 H2 fp EX) rfl rfl rfl hc i _ s3 σ3 H3 _ I3 (stat fr3) st3 stop) fun r s4 ⟨hr,I4⟩=>?_
   subst hr
   show RR (.ref D) C (.ok .next) s4
   have hD4:=I4.pin (D,lstO its nn) (by show _∈([]++[(D,lstO its nn)]:List (Addr×Obj));simp)
   have J1:Inv X pins σ H3 s4:=I2.call' I4.os I4.base I4.hok I4.bare fun b hb=>⟨(f2 b hb).2.2.2.1,(f2 b hb).2.1,(f2 b hb).2.2.2.2.1,(f2 b hb).2.2.2.2.2⟩
   have fD:FpOk X pins H3 D:=I2.fpOk hD hD4.2.1
   have fC:FpOk X pins H3 C:=I2.fpOk hC I4.free
   have J2:Inv X pins σ (upd H3 D (.lst ys)) s4:=inv_adopt J1 hD4.2.1 fD.2.1 fD.2.2.2.1 fD.2.2.2.2.1 fD.2.2.2.2.2 ⟨hz,its,nn,rv,hD4.1⟩
   obtain ⟨mC,nC,_⟩:=I4.loc
   obtain ⟨oC,es,ep,hoC,hdC,hrest⟩:=id nC
   have fC':FpOk X pins (upd H3 D (.lst ys)) C:=⟨by rw [upd_ne hDC.symm];exact fC.1,fC.2⟩
   refine hRR D C oC mC ys H3 s4 (J2.pins_of fun p hp=>?_) hoC nC fC' (qn D hD4.2.1)
   rcases List.mem_append.mp hp with z | z
   ·exact J2.pin p (List.mem_append_right _ z)
   ·rw [List.mem_singleton.mp z]
    exact ⟨hoC,fC'.1,fC'.2.1,fC'.2.2.1,fun v y=>by rw [hdC] at y;cases y⟩
  ·refine thn (T.item (lcE X scope N cl C s2 H2 fp EX) rfl rfl rfl hc i _ s3 σ3 H3 _ I3 (stat fr3) st3 go) fun r s4 ⟨u,hr,h4⟩=>?_
   subst hr
   refine thn h4 fun _ s5 ⟨x,H5,I5,r5,y5,st5,fr5⟩=>?_
   have I5':=I5.pinned (stat fr5) (T.obj _ _ st5)
   have still:∀ {σ'} {H':Hp} {s':Shared} {pl:List (Addr×Obj)},Inv (lcE X scope N cl C s2 H2 fp EX) (pl++pinsAt fp s5.heap) σ' H' s'->tn (i + 1) s'.heap/\∀ b∈fp,H' b=none:=fun {σ' H' s' pl} I'=>by
    have q:∀ b∈fp,∀ o,s5.heap.get? b=some o->s'.heap.get? b=some o/\H' b=none:=fun b hb o e=>by
     obtain ⟨a1,a2,_⟩:=I'.pin (b,o) (List.mem_append_right _ (List.mem_append_right _ (mem_pinsAt hb e)))
     exact ⟨a1,a2⟩
    refine ⟨T.keep _ _ _ st5 fun b hb o e=>(q b hb o e).1,fun b hb=>?_⟩
    obtain ⟨o,e,_⟩:=T.obj _ _ st5 b hb
    exact (q b hb o e).2
   refine thn (hg C s2 H2 fp _ s5 σ3 H5 x u _ I5' r5 (step x H5 y5)) fun _ s6 ⟨σ6,H6,I6,Ny,Nn,hNy,hNn,q6⟩=>?_
   refine thn (ht C s2 H2 fp _ s6 σ6 H6 _ I6 q6) fun ok s7 ⟨H7,I7,q7⟩=>?_
   cases ok with
   | false =>
    obtain ⟨m',hm,w7⟩:=hNn _ q7
    exact ⟨m',hm,i + 1,ys,its,nn,σ6,H7,I7.unpinned,rv,(still I7).1,(still I7).2,w7⟩
   | true =>
    refine thn (he C s2 H2 fp _ s7 σ6 H7 _ I7 q7) fun u8 s8 ⟨y,H8,I8,r8,q8⟩=>?_
    obtain ⟨hz,m',hm,w8⟩:=hNy _ _ q8
    have pD:=I8.pin (D,lstO its nn) (List.mem_append_right _ (List.mem_append_left _ (List.mem_singleton.mpr rfl)))
    have hlen:=rv.length
    refine append_at (hsz:=by rw [List.size_toArray];lia) pD.1 fun h9 sb9 e9=>?_
    have I8a:Inv (lcE X scope N cl C s2 H2 fp EX) ([]++pinsAt fp s5.heap) σ6 H8 s8:=I8.pins_of fun p hp=>I8.pin p (List.mem_append_right _ (List.mem_append_right _ hp))
    have I9:Inv (lcE X scope N cl C s2 H2 fp EX) ([]++pinsAt fp s5.heap) σ6 H8 { s8 with heap:=h9,toks:=s8.toks }:=I8a.turned (it:=D) (fun b o hb e=>(sb9.2 b hb).trans e) pD.2.1 hDC (.inr hD)
     (fun x c h z=>by
      obtain ⟨v,q⟩:=I2.cell x c (hcl x c h)
      exact absurd (Nat.lt_of_lt_of_le q.lt (by rw [z];exact hD)) (Nat.lt_irrefl _))
     (fun p hp z=>by
      have hp:p∈([]++([]++pinsAt fp s5.heap):List (Addr×Obj)):=hp
      have hp:p∈pinsAt fp s5.heap:=by simpa using hp
      exact (below p.1 (of_pinsAt hp).1).1 z)
    have e9':h9.get? D=some (lstO (its++[u8]) (nn + 1)):=by rw [e9];simp [List.push_toArray]
    refine ⟨m',hm,i + 1,ys++[y],its++[u8],nn + 1,σ6,H8,I9.pins_of fun p hp=>?_,rv.append (.cons r8 .nil),(still I9).1,(still I9).2,w8⟩
    rw [List.mem_singleton.mp hp]
    exact ⟨e9',pD.2.1,pD.2.2.1,pD.2.2.2.1,fun v z=>by cases z⟩
 exact codeAny_compStart_list (loop _ rfl) (T.self _ 0 _ _ _ (T.keep _ _ _ st2 fun b hb o e=>old b o e) (loop _ rfl))
theorem pe_lcE {EX:XK} {wi:TI} (N:List Str) (k:Nat) (R:List Nat) (hi:PI X tg iter wi)
  (hg:∀ cl C s0 H0 fp,PG (lcE X scope N cl C s0 H0 fp EX) tg g) (ht:∀ cl C s0 H0 fp,PTs (lcE X scope N cl C s0 H0 fp EX) ifs tt) (he:∀ cl C s0 H0 fp,PE (lcE X scope N cl C s0 H0 fp EX) elt te)
  (gx:Goes X EX) (top:TopX X) (hc:X.calm=true:=by rfl) (hk:scope.kind=.function:=by rfl) (hsc:lcChk X.N X.env.scope scope N k R=true:=by rfl) (hs:∀ x,foldedSetIterable iter X.env x=pure x:=by intro _;rfl) :
  PE X (.ListComp elt [⟨tg,iter,ifs,0⟩] scope pos) (tLC wi g tt te k R):=by
 intro pins s σ H Q I h
 have sc:=lcChk_ok hk hsc
 obtain ⟨cl,hclos,hcl,hfree⟩:=closure_of (scope:=scope) (env:=X.env) fun y hy e=>I.ok.has y.1 (sc.caps y hy e)
 rw [eval_ListComp]
 refine wpAny_comprehension_free (use:=none) rfl hs hclos sc.kind sc.names (thn (hi pins s σ H _ I h) fun v s1 h1=>thn h1 fun itv s2 h2=>?_)
 obtain ⟨it,fp,tn,J,H2,e,I2,T,st2,f2,W,w0,turn⟩:=h2
 subst e
 refine lc_blockE (EX:=EX) (RR:=fun acc C=>compPost (model X.prog X.w) X.A X.xe none (EP X pins σ Q) acc C) hc top sc hcl hfree (hg cl) (ht cl) (he cl) I2 T st2 f2 w0 turn ?_ ?_
 rotate_left
 ·intro D C s' pins' σ' H' x T Cc fl hC t q
  exact lc_err gx I2 f2 hC t q
 intro D C oC m ys H' s' I' _ nC fC q
 exact ⟨m,nC,fun h' sb=>⟨.ref D,_,I'.unpinned.turned (it:=C) (t':=s'.toks) (fun b o hb e=>(sb.2 b hb).trans e) fC.1 fC.2.1 fC.2.2.2.1 fC.2.2.2.2.1 fC.2.2.2.2.2,rfl,q⟩⟩
end
end L3
namespace L3
open PySem PySem.Spec PyProof.Rows L2
abbrev bmV:List Value:=[.type "ValueError",.type "Exception",.type "BaseException",.type "object"]
structure ECls (K:PySem.W.Frag) (mg:Str->Option Value) (x:Str) (C:Addr):Prop where
 bd:mg x=some (.ref C)
 ec:PySem.W.excIn K C bmV "ValueError.__new__"=true
 xc:XCls K C
theorem own_obj {K:PySem.W.Frag} {h:Heap} {C:Addr} {bmB:List Value} {newId:String} (KI:K.In h) (e:PySem.W.excIn K C bmB newId=true) :
  ∃ bm N nm q bs hdct sn sub ab col dd k0 k1 k2 k3 k5 mN,h.get? C=some (excClassObj nm q C N bs bm hdct sn sub ab col dd k0 k1 k2 k3 k5 newId)/\h.Ns N mN/\mN "__init__"=none/\OwnTail h bmB bm:=by
 unfold PySem.W.excIn at e
 split at e
 ·rename_i dict cd sl hl
  split at e
  ·rename_i bm C' k0 k1 k2 k3 n k5 hm hs
   simp only [Bool.and_eq_true,beq_iff_eq,Bool.not_eq_true'] at e
   obtain ⟨⟨⟨⟨⟨e1,e2⟩,e3⟩,e4⟩,e5⟩,e6⟩:=e
   subst e1 e2
   have g:=KI _ _ hl
   obtain ⟨nm,bs,mro,ns,qn,hd,hdel,sn,sub,ab,col⟩:=cd
   dsimp only at hm e3 e5 e6
   subst hm e3
   have hsl:sl=#[k0,k1,k2,k3,some (Value.builtin n),k5]:=by
    apply Array.toList_inj.mp
    rw [hs]
   subst hsl
   exact ⟨_,ns,nm,qn,bs,hd,hdel,sn,sub,ab,dict,k0,k1,k2,k3,k5,h.nsMap ns,g,Heap.Ns.of_isNs (PySem.W.isNs_of_in KI e5),PySem.W.nsMap_none_of_in KI e5 e6,PySem.W.tail_of_in KI e4⟩
  ·cases e
 ·cases e
section
variable {X:Cx} {x:Str} {np cpos pos:Pos} {e:Expr} {es:List Expr} {ta:TA} {C:Addr} {E:XK}
noncomputable abbrev tRaise (E:XK) (C:Addr) (ta:TA):TS:=fun _ σ H=>ta σ H fun vs H1=>vs.length<=sizeLine/\E (.ref C) none H1
theorem ps_raise (c:ECls X.K X.mg x C) (g:Goes X E) (ha:PA X (e :: es) ta) (hg:Gl X x:=by rfl) (hc:X.calm=true:=by rfl) (hdb:(x == ("__debug__":Str))=false:=by decide)
  (he:starEach (e :: es) X.env=(false,eval e X.env) :: starEach es X.env:=by rfl) (hpl:((backTo cpos (starEach (e :: es) X.env)).any (·.1))=false:=by rfl) :
  PS X (.Raise (some (.Call (.Name x np) (e :: es) [] cpos)) none pos) (tRaise E C ta):=by
 intro pins s σ H D I h
 obtain ⟨bm,N,nm,q,bs,hdct,sn,sub,ab,col,dd,k0,k1,k2,k3,k5,mN,o1,o2,o3,o4⟩:=own_obj I.ok.mod.kin c.ec
 refine wpAny_Raise_call_subT (nm:=nm) (q:=q) (C:=C) (N:=N) (bs:=bs) (bm:=bm) (hdct:=hdct) (sn:=sn) (sub:=sub) (ab:=ab) (col:=col) (dd:=dd) (k0:=k0) (k1:=k1) (k2:=k2) (k3:=k3) (k5:=k5) (bmB:=bmV) F.excBase_ValueError (o4.hasType (X:="BaseException") rfl) (I.ok.hd hc) hpl o3 (ld_glob I hg c.bd ⟨rfl,?_⟩ hdb)
 obtain ⟨y0,r0,hpos⟩:∃ y r,backTo cpos (starEach (e :: es) X.env)=(false,y) :: r:=by rw [he];exact ⟨_,_,rfl⟩
 have hsp:=ha cpos pins s σ H _ I h
 rw [hpos] at hsp ⊢
 refine Calls.evalArgs_plain (thn hsp fun us s2 ⟨vs,H1,I1,r1,q1⟩=>⟨rfl,by rw [← r1.length];exact q1.1,I1.bk _ _ o1,?_,?_,fun h' ea made=>?_⟩)
 ·obtain ⟨o,es',ep,ho,r⟩:=o2
  exact ⟨o,es',ep,I1.bk _ _ ho,r⟩
 ·exact o4.keeps fun b o e=>I1.bk b o e
 ·obtain ⟨t,m1,m2,m3⟩:=made.there
  have J:Inv X pins σ H1 { s2 with heap:=h',toks:=s2.toks }:=I1.kept made.keeps
  exact g pins σ H1 _ ea (.ref C) J ⟨fpX I1 made.new (hok_none I1.hok made.new),.inl ⟨_,⟨m1,by show (1:Nat) < 6;decide⟩,rfl⟩⟩ q1.2
noncomputable def XX (X:Cx) (pins:List (Addr×Obj)) (σ:L2.St) (E:XK) (e:Value) (s:Shared):Prop:=∃ H x C,e=.ref x/\Inv X pins σ H s/\Fx X pins H s.heap x C/\E C none H
noncomputable def PSX (X:Cx) (st:Stmt) (t:XK->TS):Prop:=∀ (E:XK) (pins:List (Addr×Obj)) (s:Shared) (σ:L2.St) (H:Hp) (D:Ends),Inv X pins σ H s->t E D σ H->wpAny (model X.prog X.w) X.A (exec st X.env) (SP X pins D) (XX X pins σ E) s
noncomputable def PEX (X:Cx) (ex:Expr) (t:XK->TE):Prop:=∀ (E:XK) (pins:List (Addr×Obj)) (s:Shared) (σ:L2.St) (H:Hp) (Q:VK),Inv X pins σ H s->t E σ H Q->wpAny (model X.prog X.w) X.A (eval ex X.env) (EP X pins σ Q) (XX X pins σ E) s
theorem pex_call {k:Nat} {ps:List Str} {sp:Sp} (D:DefE X.prog X.w X.K X.mg X.base k x ps sp) (hr:Room k X.A) (ha:PA X.nox (e :: es) ta) (hg:Gl X x:=by rfl) (hdb:(x == ("__debug__":Str))=false:=by decide)
  (he:starEach (e :: es) X.env=(false,eval e X.env) :: starEach es X.env:=by rfl) (hpl:(backTo pos (starEach es X.env)).any (·.1)=false:=by rfl) :
  PEX X (.Call (.Name x np) (e :: es) [] pos) (fun E=>tCall sp [] E ta):=by
 obtain ⟨f,fd,F,hb,kp,m⟩:=D
 intro E pins s σ H Q I h
 refine wpAny_Call_Name_kw (ld_glob I hg m ?_ hdb)
 refine PySem.W.callWith_K (h₀:=X.base) I.ok.mod.kin kp (wpAny_mono (ha pos pins s σ H _ (I.wish _) h) (fun us s1 ⟨vs,H1,I1,r,q⟩=>⟨I1.kIn,?_⟩) fun _ _ z=>z.elim) he hpl
 have I1:=I1.unwish
 have q:sp (vs++[]) H1 Q E:=q
 have hl:us.length=ps.length:=by
  rw [← r.length]
  have:=F.len _ _ _ _ q
  rwa [List.append_nil] at this
 refine wpAny_call (codeAny_mono (F.run X.A X.stack s1 H1 ⟨us,[]⟩ us vs Q E hr I1.env0 (by have:=hb s1 us I1.kIn (by rw [List.append_nil];exact hl);rwa [List.append_nil] at this) r (by rwa [List.append_nil] at q)) fun rr s' hq=>?_)
 cases rr with
 | error e =>
  obtain ⟨x,T,C,fl,H',rfl,os,bare,un,hok,hx,hT,nx,nT,f,q⟩:=hq
  exact ⟨H',x,C,rfl,I1.call' os un hok bare (fun b hb=>nomatch hb),⟨fpX I1 hx nx,.inr ⟨T,fl,f,fpX I1 hT nT⟩⟩,q⟩
 | ok fl =>
  cases fl with
  | ret u=>exact I1.after hq
  | next=>exact False.elim hq
  | brk=>exact False.elim hq
  | cont=>exact False.elim hq
theorem psx_expr {ex:Expr} {t:XK->TE} (h:PEX X ex t) (hs:swapsWith ex none pos.line X.env=pure false:=by rfl):PSX X (.Expr ex pos) (fun E=>tDrop (t E)):=by
 intro E pins s σ H D I hw
 exact wpAny_Expr_any (thn (h E pins s σ H _ I hw) fun v s1 ⟨x,H1,I1,r1,q1⟩=>⟨σ,H1,I1,q1⟩) I.quiet hs
end
section
variable {X:Cx} {pins:List (Addr×Obj)} {σ:L2.St} {H:Hp} {s:Shared} {x:Addr} {ox:Obj}
theorem inv_names {σ':L2.St} {h':Heap} {t':Nat} {m':Str->Option Value} (I:Inv X pins σ H s) (hs:Heap.SameBut X.env.locals s.heap h') (hn':h'.Ns X.env.locals m') (hl:σ'.length=X.N.length)
  (hv:∀ (j:Nat) (y:Str) (v:V),X.N[j]?=some y->σ'[j]?=some (some v)->Vis X.env.scope y->∃ u,RelV v u/\Look X.env h' m' y u):Inv X pins σ' H { s with heap:=h',toks:=t' }:=by
 have nL:∀ b o,X.s₀.heap.get? b=some o->b≠X.env.locals:=fun b o e=>Nat.ne_of_lt (Nat.lt_of_lt_of_le (Heap.lt_size e) I.ok.above)
 refine ⟨I.ok,I.os,I.bare,⟨fun b o e n hb hx=>?_,fun b o e n hb hx=>?_,I.base.free,fun b o e hx=>?_,I.base.tups,I.base.frzs,I.base.tbls⟩,⟨m',hn',hv⟩,fun y c e=>?_,I.free,I.freeC,fun p hp=>?_,fun b ob e=>?_,hl⟩
 ·exact (hs.2 b (nL b o e)).trans (I.base.keep b o e n hb hx)
 ·obtain ⟨sl,e1⟩:=I.base.slot b o e n hb hx
  exact ⟨sl,(hs.2 b (nL b o e)).trans e1⟩
 ·obtain ⟨o',e1⟩:=I.base.there b o e hx
  exact ⟨o',(hs.2 b (nL b o e)).trans e1⟩
 ·obtain ⟨w',z⟩:=I.cell y c e
  exact ⟨w',z.sameBut hs (I.cne y c e)⟩
 ·obtain ⟨e,n,ne,nf,d⟩:=I.pin p hp
  exact ⟨(hs.2 p.1 ne).trans e,n,ne,nf,d⟩
 ·refine (I.hok b ob e).stay (fun c w' hc q=>(hs.2 c ?_).trans q) (fun _ q=>q) fun _ _ q=>q
  rintro rfl
  rcases hc with rfl | hc
  ·rw [I.free] at e;cases e
  ·rw [I.free] at hc;cases hc
theorem name_goes {M:Model} {A:Around} {E:Value->Shared->Prop} {n:Str} {i:Nat} {pos:Pos} {Q:Unit->Shared->Prop} (I:Inv X pins σ H s) (hN:X.N.Nodup) (hi:X.N[i]?=some n) (hk:X.env.scope.names.lookup n=some .local)
  (h:∀ s',Inv X pins (σ.set i none) H s'->Q () s'):wpAny M A (do bindName X.env n Value.none;unbindBehindTheSuite X.env n pos) Q E s:=by
 refine wpAny_bind (wpAny_bindName (store_ok I hN hi (.inl hk) (v:=.non) (u:=.none) rfl (fun s1 I1=>?_) (.inr hk)))
 have hiσ:i < σ.length:=by rw [I.len];exact (List.getElem?_eq_some_iff.mp hi).1
 obtain ⟨m,hn,hl⟩:=id I1.loc
 obtain ⟨u,ru,lk⟩:=hl i n .non hi (List.getElem?_set_self hiσ) (.inl hk)
 have hm:m n=some u:=by
  rcases lk with ⟨_,z⟩ | ⟨z,_⟩
  ·exact z
  ·rcases z with z | z
   ·have z:X.env.scope.names.lookup n=some .cell:=z
    rw [hk] at z;cases z
   ·have z:X.env.scope.names.lookup n=some .free:=z
    rw [hk] at z;cases z
 have hcls:(X.env.scope.kind == .class || (X.env.scope.kind == .module && X.env.locals != X.env.globals))=false:=by rw [I.ok.kind];rfl
 unfold unbindBehindTheSuite
 refine wpAny_onRaise (wpAny_unbindName_local hk hn hm hcls fun h' u' hn' sb=>h _ ?_)
 refine inv_names (t':=s1.toks) I1 sb hn' (by rw [List.length_set];exact I.len) fun j y v e1 e2 e3=>?_
 by_cases hj:j=i
 ·subst hj
  rw [List.getElem?_set_self hiσ] at e2
  cases e2
 ·rw [List.getElem?_set_ne (Ne.symm hj)] at e2
  obtain ⟨u2,r2,l2⟩:=hl j y v e1 (by rw [List.getElem?_set_ne (Ne.symm hj)];exact e2) e3
  refine ⟨u2,r2,?_⟩
  rcases l2 with ⟨k,e⟩ | ⟨k,c,e,z⟩
  ·refine .inl ⟨k,?_⟩
   have:y≠n:=fun e=>hj (nodup_ix hN e1 (e▸hi))
   simp [this,e]
  ·exact .inr ⟨k,c,e,z.sameBut sb (I.cne y c e)⟩
end
structure ExAt (K:PySem.W.Frag) (x:Addr) (ox:Obj) (C:Addr):Prop where
 cls:ox.cls=.ref C
 no:PySem.W.notCls ox=true
 di:ox.dict=none
 xc:XCls K C
theorem pe_own {X:Cx} {x:Str} {pos:Pos} {C:Addr} (h:X.mg x=some (.ref C)) (hg:Gl X x:=by rfl) (hd:(x == ("__debug__":Str))=false:=by decide):PE X (.Name x pos) (tC (.ref C)):=pe_glob hg h (v:=.ref C) rfl hd
end L3
noncomputable section
namespace Q
open PySem
inductive D where
 | non | bl (b:Bool) | int (i:Int) | str (z:Str) | tup (xs:List D) | lst (xs:List D) | dct (kvs:List (D×D)) | obj (c:Str) (fs:List (Str×D))
noncomputable instance:DecidableEq D:=fun a b=>Classical.propDecidable (a=b)
noncomputable instance:Inhabited D:=⟨.non⟩
mutual
noncomputable def D.pure:D->Bool
 | .tup xs=>D.pures xs
 | .lst _=>false
 | .dct _=>false
 | .obj _ _=>false
 | _=>true
noncomputable def D.pures:List D->Bool
 | []=>true
 | a :: x=>D.pure a && D.pures x
end
theorem D.pures_all:∀ xs,D.pures xs=xs.all D.pure
 | []=>by simp [D.pures]
 | a :: x=>by rw [D.pures,List.all_cons,D.pures_all x]
@[simp] theorem D.pures_map {α:Type} f (xs:List α) (h:∀ x∈xs,(f x).pure=true):D.pures (xs.map f)=true:=by
 rw [D.pures_all,List.all_eq_true]
 intro d hd
 obtain ⟨x,hx,rfl⟩:=List.mem_map.mp hd
 exact h x hx
mutual
noncomputable def peq:D->D->Bool
 | .non,.non=>true
 | .bl a,.bl b=>a == b
 | .bl a,.int b=>(if a then 1 else 0) == b
 | .int a,.bl b=>a == (if b then 1 else 0)
 | .int a,.int b=>a == b
 | .str a,.str b=>a == b
 | .lst as,.lst bs=>peqs as bs
 | .tup as,.tup bs=>peqs as bs
 | _,_=>false
noncomputable def peqs:List D->List D->Bool
 | [],[]=>true
 | a :: as,b :: bs=>peq a b && peqs as bs
 | _,_=>false
end
mutual
noncomputable def D.flat:Nat->D->Bool
 | 0,.tup _=>false
 | 0,.lst _=>false
 | n + 1,.tup xs=>D.flats n xs
 | n + 1,.lst xs=>D.flats n xs
 | _,.dct _=>false
 | _,.obj _ _=>false
 | _,_=>true
noncomputable def D.flats:Nat->List D->Bool
 | _,[]=>true
 | n,a :: x=>D.flat n a && D.flats n x
end
mutual
noncomputable def keyD:Nat->D->Bool
 | _,.non=>true
 | _,.int _=>true
 | _,.str _=>true
 | n + 1,.tup xs=>keyDs n xs
 | _,_=>false
noncomputable def keyDs:Nat->List D->Bool
 | _,[]=>true
 | n,a :: x=>keyD n a && keyDs n x
end
inductive Own where
 | no | rt | dp
 deriving DecidableEq
noncomputable abbrev Sd:=Own×D
noncomputable abbrev En:=List (Option Sd)
inductive Res (α:Type) where
 | ok (E:En) (a:α)
 | exc (E:En) (c:Str)
noncomputable abbrev Ev (α:Type):=En->Option (Res α)
noncomputable abbrev Ex:=Ev Sd
noncomputable def bnd {α β:Type} (m:Option (Res α)) (f:En->α->Option (Res β)):Option (Res β) :=
 match m with
 | some (.ok E a)=>f E a
 | some (.exc E c)=>some (.exc E c)
 | none=>none
@[simp] theorem bnd_ok {α β:Type} (E:En) (a:α) (f:En->α->Option (Res β)):bnd (some (.ok E a)) f=f E a:=rfl
@[simp] theorem bnd_exc {α β:Type} (E:En) (c:Str) (f:En->α->Option (Res β)):bnd (some (.exc E c)) f=some (.exc E c):=rfl
@[simp] theorem bnd_none {α β:Type} (f:En->α->Option (Res β)):bnd none f=none:=rfl
noncomputable def val {α:Type} (E:En) (x:Option α):Option (Res α):=x.map (Res.ok E)
@[simp] theorem val_some {α:Type} (E:En) (x:α):val E (some x)=some (.ok E x):=rfl
@[simp] theorem val_none {α:Type} (E:En):val E (none:Option α)=none:=rfl
noncomputable def cC (d:D):Ex:=fun E=>some (.ok E (.dp,d))
noncomputable def cV (i:Nat):Ex:=fun E=>match E[i]? with
 | some (some (_,d))=>some (.ok (E.set i (some (.no,d))) (.no,d))
 | _=>none
noncomputable def cMv (i:Nat):Ex:=fun E=>match E[i]? with
 | some (some x)=>some (.ok (E.set i none) x)
 | _=>none
noncomputable def vV (i:Nat):Ex:=fun E=>match E[i]? with
 | some (some x)=>some (.ok E x)
 | _=>none
noncomputable def vE (c:Ex):Ex:=fun E=>bnd (c E) fun E x=>some (.ok E (.no,x.2))
noncomputable def cH (v:Ex):Ex:=fun E=>bnd (v E) fun E x=>if x.1=.no then some (.ok E (.no,x.2)) else if x.2.pure then some (.ok E (.dp,x.2)) else none
noncomputable def cF1 (f:Sd->Option Sd) (a:Ex):Ex:=fun E=>bnd (a E) fun E x=>val E (f x)
noncomputable def cF2 (f:Sd->Sd->Option Sd) (a b:Ex):Ex:=fun E=>bnd (a E) fun E x=>bnd (b E) fun E y=>val E (f x y)
noncomputable def pu1 (f:D->Option D):Sd->Option Sd:=fun x=>(f x.2).map fun d=>(.dp,d)
noncomputable def pu2 (f:D->D->Option D):Sd->Sd->Option Sd:=fun x y=>(f x.2 y.2).map fun d=>(.dp,d)
noncomputable def kids:D->List D
 | .lst xs=>xs
 | .tup xs=>xs
 | .dct kvs=>kvs.map (·.2)
 | _=>[]
noncomputable def loose (x:Sd):Bool:=x.1 != .dp || D.pures (kids x.2)
noncomputable def sub:Own->Own
 | .dp=>.dp
 | _=>.no
noncomputable def ixN (n:Nat) (i:Int):Option Nat:=if 0<=i then (if i < n then some i.toNat else none) else if -(n:Int)<=i then some (i + n).toNat else none
noncomputable def ixD:D->D->Option D
 | .lst xs,.int i=>(ixN xs.length i).bind fun j=>xs[j]?
 | .tup xs,.int i=>(ixN xs.length i).bind fun j=>xs[j]?
 | .str z,.int i=>(ixN z.cps.size i).bind fun j=>(z.cps.toList[j]?).map fun c=>.str ⟨#[c]⟩
 | .dct kvs,k=>(kvs.find? fun e=>decide (e.1=k)).map (·.2)
 | _,_=>none
noncomputable def big:Nat:=16777216
noncomputable def i2 (f:Int->Int->Option Int):D->D->Option D
 | .int a,.int b=>(f a b).map .int
 | _,_=>none
noncomputable def c2 (f:Int->Int->Bool):D->D->Option D
 | .int a,.int b=>some (.bl (f a b))
 | _,_=>none
noncomputable def short (a:Int):Bool:=decide (-(2 ^ 64) < a) && decide (a < 2 ^ 64)
noncomputable def fAdd:Sd->Sd->Option Sd:=fun x y=>match x.2,y.2 with
 | .int a,.int b=>some (.dp,.int (a + b))
 | .str a,.str b=>if a.cps.size + b.cps.size<=big then some (.dp,.str (a++b)) else none
 | .lst a,.lst b=>if a.length + b.length<=big/\loose x/\loose y then some (.rt,.lst (a++b)) else none
 | .tup a,.tup b=>if a.length + b.length<=big/\loose x/\loose y then some (.no,.tup (a++b)) else none
 | _,_=>none
noncomputable def mulOk (a b:Int):Bool:=short a || short b || (decide (a.natAbs.log2 < 2000000) && decide (b.natAbs.log2 < 2000000))
noncomputable def fMul:Sd->Sd->Option Sd:=fun x y=>match x.2,y.2 with
 | .int a,.int b=>if mulOk a b then some (.dp,.int (a * b)) else none
 | .lst a,.int k=>if -(2 ^ 63)<=k/\k < 2 ^ 63/\a.length * k.toNat<=big/\loose x then some (.rt,.lst (List.replicate k.toNat a).flatten) else none
 | .str z,.int n=>if (z.cps.size<=1024/\n<=1024/\-1024<=n)/\(Txt.mul z n).cps.size<=big then some (.dp,.str (Txt.mul z n)) else none
 | _,_=>none
noncomputable def fSub:D->D->Option D:=i2 fun a b=>some (a - b)
noncomputable def fDiv:D->D->Option D:=i2 fun a b=>if 0 < b/\b.natAbs.log2 < 9000 then some (a / b) else none
noncomputable def fMod:D->D->Option D:=i2 fun a b=>if 0 < b then some (a % b) else none
noncomputable def fPow:D->D->Option D:=i2 fun a b=>if 0<=b/\b<=1000000/\a.natAbs < 2 ^ 64 then some (a ^ b.toNat) else none
noncomputable def fShl:D->D->Option D:=i2 fun a b=>if 0<=b/\b<=1000000/\a.natAbs < 2 ^ 64 then some (a * 2 ^ b.toNat) else none
noncomputable def fEq:D->D->Option D:=fun a b=>if a.flat 40 && b.flat 40 then some (.bl (peq a b)) else none
noncomputable def fNe:D->D->Option D:=fun a b=>if a.flat 40 && b.flat 40 then some (.bl (!peq a b)) else none
noncomputable def isNon:D->Bool
 | .non=>true
 | _=>false
noncomputable def fLt:D->D->Option D:=c2 fun a b=>decide (a < b)
noncomputable def fLe:D->D->Option D:=c2 fun a b=>decide (a<=b)
noncomputable def fGt:D->D->Option D:=c2 fun a b=>decide (b < a)
noncomputable def fNeg:D->Option D
 | .int a=>some (.int (-a))
 | _=>none
noncomputable def fInS (a b:Str):Bool:=!(Builtin.Str.occurrences b a 0 b.length 1).isEmpty
noncomputable def fIn:D->D->Option D:=fun x y=>match y with
 | .lst ys=>if x.flat 30 && D.flats 30 ys then some (.bl (ys.any fun z=>peq z x)) else none
 | .tup ys=>if x.flat 30 && D.flats 30 ys then some (.bl (ys.any fun z=>peq z x)) else none
 | .str b=>(match x with
  | .str a=>some (.bl (fInS a b))
  | _=>none)
 | .dct kvs=>some (.bl (kvs.any fun e=>decide (e.1=x)))
 | _=>none
noncomputable def fNotIn:D->D->Option D:=fun x y=>(fIn x y).bind fun d=>match d with
 | .bl k=>some (.bl (!k))
 | _=>none
noncomputable def fLen:D->Option D
 | .lst xs=>some (.int xs.length)
 | .tup xs=>some (.int xs.length)
 | .str z=>some (.int z.length)
 | _=>none
noncomputable def kind:D->String
 | .non=>"NoneType"
 | .bl _=>"bool"
 | .int _=>"int"
 | .str _=>"str"
 | .tup _=>"tuple"
 | .lst _=>"list"
 | .dct _=>"dict"
 | .obj _ _=>""
noncomputable def isaK (t u:String):Bool:=t == u || (t == "bool" && u == "int")
noncomputable def fIsi (u:String):D->Option D:=fun d=>match d with
 | .obj _ _=>none
 | .dct _=>none
 | _=>some (.bl (isaK (kind d) u))
noncomputable def fIsNon:D->Option D:=fun d=>some (.bl (isNon d))
noncomputable def fNotNon:D->Option D:=fun d=>some (.bl (!isNon d))
noncomputable abbrev Ts:=Ev Bool
noncomputable def truth:D->Option Bool
 | .bl b=>some b
 | .non=>some false
 | .int i=>some (i != 0)
 | .str z=>some (z.cps.size != 0)
 | .lst xs=>some (!xs.isEmpty)
 | .tup xs=>some (!xs.isEmpty)
 | .dct xs=>some (!xs.isEmpty)
 | .obj _ _=>none
noncomputable def tE (c:Ex):Ts:=fun E=>bnd (c E) fun E x=>val E (truth x.2)
noncomputable def tOr (a b:Ts):Ts:=fun E=>bnd (a E) fun E x=>if x then some (.ok E true) else b E
noncomputable def tNot (a:Ts):Ts:=fun E=>bnd (a E) fun E x=>some (.ok E (!x))
noncomputable def tYes:Ts:=fun E=>some (.ok E true)
noncomputable def cIf (t:Ts) (a b:Ex):Ex:=fun E=>bnd (t E) fun E x=>if x then a E else b E
noncomputable def cAnd (a b:Ex):Ex:=fun E=>bnd (a E) fun E x=>match x.2 with
 | .bl true=>b E
 | .bl false=>some (.ok E (.dp,.bl false))
 | _=>none
noncomputable def fInQ:D->D->Option D:=fun x y=>match y with
 | .dct _=>none
 | _=>fIn x y
noncomputable def fNotInQ:D->D->Option D:=fun x y=>match y with
 | .dct _=>none
 | _=>fNotIn x y
noncomputable def f2First (f:D->Option D):Sd->Sd->Option Sd:=fun x y=>if isNon y.2 then (f x.2).map fun d=>(.dp,d) else none
noncomputable def fIxQ:D->D->Option D:=fun x y=>match x with
 | .dct _=>none
 | _=>ixD x y
noncomputable def vIxQ (a b:Ex):Ex:=fun E=>bnd (a E) fun E x=>bnd (b E) fun E y=>val E ((fIxQ x.2 y.2).map fun d=>(sub x.1,d))
noncomputable def truthQ:D->Option Bool:=fun d=>match d with
 | .dct _=>none
 | _=>truth d
noncomputable def tEQ (c:Ex):Ts:=fun E=>bnd (c E) fun E x=>val E (truthQ x.2)
noncomputable def cNotQ (c:Ex):Ex:=fun E=>bnd (c E) fun E x=>val E ((truthQ x.2).map fun k=>(.dp,.bl (!k)))
noncomputable def cArgs:List Ex->Ev (List Sd)
 | [],E=>some (.ok E [])
 | c :: cs,E=>bnd (c E) fun E x=>bnd (cArgs cs E) fun E xs=>some (.ok E (x :: xs))
noncomputable def tight (x:Sd):Bool:=x.1 == .dp || x.2.pure
noncomputable def cLst (o:Own) (cs:List Ex):Ex:=fun E=>bnd (cArgs cs E) fun E xs=>if o=.dp then (if xs.all tight then some (.ok E (.dp,.lst (xs.map (·.2)))) else none) else some (.ok E (.rt,.lst (xs.map (·.2))))
noncomputable def cTup (o:Own) (cs:List Ex):Ex:=fun E=>bnd (cArgs cs E) fun E xs=>if o=.dp then (if xs.all tight then some (.ok E (.dp,.tup (xs.map (·.2)))) else none) else some (.ok E (.no,.tup (xs.map (·.2))))
inductive Fl where
 | nx (E:En) | rt (E:En) (x:Sd) | ct (E:En) | bk (E:En) | xc (E:En) (c:Str)
noncomputable abbrev Sm:=En->Option Fl
noncomputable def ofE {α:Type} (m:Option (Res α)) (f:En->α->Option Fl):Option Fl :=
 match m with
 | some (.ok E a)=>f E a
 | some (.exc E c)=>some (.xc E c)
 | none=>none
@[simp] theorem ofE_ok {α:Type} (E:En) (a:α) (f:En->α->Option Fl):ofE (some (.ok E a)) f=f E a:=rfl
@[simp] theorem ofE_exc {α:Type} (E:En) (c:Str) (f:En->α->Option Fl):ofE (some (.exc E c)) f=some (.xc E c):=rfl
@[simp] theorem ofE_none {α:Type} (f:En->α->Option Fl):ofE none f=none:=rfl
noncomputable def sSeq (a b:Sm):Sm:=fun E=>match a E with
 | some (.nx E)=>b E
 | r=>r
noncomputable def sPass:Sm:=fun E=>some (.nx E)
noncomputable def sAsg (i:Nat) (c:Ex):Sm:=fun E=>ofE (c E) fun E x=>some (.nx (E.set i (some x)))
noncomputable def sExpr (c:Ex):Sm:=fun E=>ofE (c E) fun E _=>some (.nx E)
noncomputable def sRet (c:Ex):Sm:=fun E=>ofE (c E) fun E x=>some (.rt E x)
noncomputable def sIf (t:Ts) (a b:Sm):Sm:=fun E=>ofE (t E) fun E x=>if x then a E else b E
inductive Tg where
 | n (i:Nat) | t (ts:List Nat)
noncomputable def setAll:List Nat->List D->En->Option En
 | [],[],E=>some E
 | i :: is,d :: ds,E=>setAll is ds (E.set i (some (.no,d)))
 | _,_,_=>none
noncomputable def Tg.put:Tg->D->En->Option En
 | .n i,d,E=>some (E.set i (some (.no,d)))
 | .t is,.tup ds,E=>setAll is ds E
 | .t is,.lst ds,E=>setAll is ds E
 | .t _,_,_=>none
noncomputable def forL (tg:Tg) (b:Sm):List D->En->Option Fl
 | [],E=>some (.nx E)
 | d :: ds,E=>match tg.put d E with
  | none=>none
  | some E=>match b E with
   | some (.nx E)=>forL tg b ds E
   | some (.ct E)=>forL tg b ds E
   | some (.bk E)=>some (.nx E)
   | r=>r
noncomputable def sFor (it:Ev (List D)) (tg:Tg) (b:Sm):Sm:=fun E=>ofE (it E) fun E ds=>forL tg b ds E
noncomputable def at' {α:Type} (L:List (Option α)) (j:Nat):Option α:=(L[j]?).join
noncomputable def clr {α:Type}:List Nat->List (Option α)->List (Option α)
 | [],L=>L
 | j :: R,L=>clr R (L.set j none)
noncomputable def back {α:Type}:List Nat->List (Option α)->List (Option α)->List (Option α)
 | j :: R,q :: B,L=>back R B (L.set j q)
 | _,_,L=>L
noncomputable def lcIn (k:Nat) (R:List Nat) (E:En):En:=List.replicate k none++R.map (at' E)
noncomputable def lcOut (k:Nat) (R:List Nat) (B E:En):En:=back R (B.drop k) (clr R E)
noncomputable def lcL (tg:Tg) (t:Ts) (c:Ex):List D->En->List Sd->Option (Res (List Sd))
 | [],B,acc=>some (.ok B acc)
 | d :: ds,B,acc=>match tg.put d B with
  | none=>none
  | some B=>bnd (t B) fun B x=>if x then bnd (c B) fun B y=>lcL tg t c ds B (acc++[y]) else lcL tg t c ds B acc
noncomputable def mkL (o:Own) (E:En) (xs:List Sd):Option (Res Sd) :=
 if o=.dp then (if xs.all tight then some (.ok E (.dp,.lst (xs.map (·.2)))) else none) else some (.ok E (.rt,.lst (xs.map (·.2))))
noncomputable def cLC (o:Own) (k:Nat) (R:List Nat) (it:Ev (List D)) (tg:Tg) (t:Ts) (c:Ex):Ex:=fun E=>bnd (it E) fun E ds =>
 match lcL tg t c ds (lcIn k R E) [] with
 | some (.ok B xs)=>mkL o (lcOut k R B E) xs
 | some (.exc B e)=>some (.exc (lcOut k R B E) e)
 | none=>none
noncomputable def isLst:Option (Option Sd)->Bool
 | some (some (_,.lst _))=>true
 | _=>false
noncomputable def sMut1 (f:List D->D->Option (List D)) (i:Nat) (c:Ex):Sm:=fun E=>if isLst E[i]? then ofE (c E) fun E x=>match E[i]? with
 | some (some (o,.lst xs))=>if o=.no then none else (match f xs x.2 with
  | some ys=>some (.nx (E.set i (some (if o=.dp/\tight x then .dp else .rt,.lst ys))))
  | none=>none)
 | _=>none
 else none
noncomputable def gApp:List D->D->Option (List D):=fun xs d=>if xs.length < big then some (xs++[d]) else none
noncomputable def fList:Sd->Option Sd:=fun x=>match x.2 with
 | .lst xs=>if loose x then some (.rt,.lst xs) else none
 | .tup xs=>if loose x then some (.rt,.lst xs) else none
 | _=>none
noncomputable def fTuple:Sd->Option Sd:=fun x=>match x.2 with
 | .lst xs=>if loose x then some (.no,.tup xs) else none
 | .tup xs=>if loose x then some (.no,.tup xs) else none
 | _=>none
noncomputable def fMax:D->D->Option D:=i2 fun a b=>some (if b > a then b else a)
noncomputable def seqOf:D->Option (List D)
 | .lst xs=>some xs
 | .tup xs=>some xs
 | .str z=>if z.cps.size<=big then some (z.cps.toList.map fun c=>.str ⟨#[c]⟩) else none
 | _=>none
noncomputable def itS (c:Ex):Ev (List D):=fun E=>bnd (c E) fun E x=>val E (seqOf x.2)
noncomputable def small62 (i:Int):Bool:=decide (-(2 ^ 62)<=i) && decide (i < 2 ^ 62)
noncomputable def rangeD (lo hi:Int):List D:=(List.range (hi - lo).toNat).map fun (k:Nat)=>.int (lo + (k:Int))
noncomputable def itR1 (c:Ex):Ev (List D):=fun E=>bnd (c E) fun E x=>match x.2 with
 | .int j=>if small62 j/\j.toNat<=big then some (.ok E (rangeD 0 j)) else none
 | _=>none
noncomputable def itR2 (c d:Ex):Ev (List D):=fun E=>bnd (c E) fun E x=>bnd (d E) fun E y=>match x.2,y.2 with
 | .int i,.int j=>if small62 i/\small62 j/\(j - i).toNat<=big then some (.ok E (rangeD i j)) else none
 | _,_=>none
noncomputable def cLR1 (c:Ex):Ex:=fun E=>bnd (c E) fun E x=>match x.2 with
 | .int j=>if small62 j/\j.toNat<=big then some (.ok E (.rt,.lst (rangeD 0 j))) else none
 | _=>none
noncomputable abbrev Fn:=List Sd->Option (Res Sd)
noncomputable def fn (n:Nat) (b:Sm):Fn:=fun xs=>match b (xs.map some++List.replicate (n - xs.length) none) with
 | some (.rt E x)=>some (.ok E x)
 | some (.nx E)=>some (.ok E (.dp,.non))
 | some (.xc E c)=>some (.exc E c)
 | _=>none
noncomputable def letAll (xs:List Sd):List Sd:=xs.map fun x=>(.no,x.2)
noncomputable def cCall (f:Fn) (cs:List Ex):Ex:=fun E=>bnd (cArgs cs E) fun E xs=>match f (letAll xs) with
 | some (.ok _ y)=>some (.ok E y)
 | some (.exc _ c)=>some (.exc E c)
 | none=>none
end Q
namespace Q
open PySem PySem.Spec PyProof.Rows L2 L3
mutual
noncomputable def hashD (w:PySem.World):D->Int
 | .int i=>hashInt i
 | .str z=>hashStr w z
 | .tup xs=>reduceHash (Builtin.Tuple.tupleHashOf (hashDs w xs))
 | _=>4238894112
noncomputable def hashDs (w:PySem.World):List D->List Int
 | []=>[]
 | a :: x=>hashD w a :: hashDs w x
end
noncomputable def Kd:Type:={ d:D // keyD 6 d=true }
noncomputable instance:DecidableEq Kd:=fun a b=>Classical.propDecidable (a=b)
noncomputable abbrev Ent:=Kd×Addr×Value
noncomputable def DicO (a:Addr) (es:List Ent) (ep:Nat):HO:=.ext fun w h=>∃ o ds,h.get? a=some o/\o.ExactDict/\o.data=.dict ds ep/\ds.toList=es.map fun x=>(⟨hashD w x.1.1,.ref x.2.1,x.2.2⟩:DictEntry)
mutual
noncomputable def PuR (K:PySem.W.Frag) (H:Hp):D->V->Prop
 | .non,v=>v=.non
 | .int i,v=>v=.int i
 | .str z,v=>v=.str z/\z.length<=sizeLine
 | .tup ds,v=>∃ a xs,v=.ref a/\SqT K H a xs/\PuRs K H ds xs
 | _,_=>False
noncomputable def PuRs (K:PySem.W.Frag) (H:Hp):List D->List V->Prop
 | [],xs=>xs=[]
 | d :: ds,xs=>∃ x r,xs=x :: r/\PuR K H d x/\PuRs K H ds r
end
noncomputable def DcN (K:PySem.W.Frag) (H:Hp) (a:Addr) (ks:List D) (vs:List V):Prop:=∃ (es:List Ent) (ep:Nat),H a=some (DicO a es ep)/\(a == sysModules)=false/\es.length<=sizeLine/\(es.map (·.1)).Nodup/\ks=es.map (·.1.1)/\(∀ x∈es,PuR K H x.1.1 (.ref x.2.1))/\Vals vs (es.map (·.2.2))
noncomputable def DcI (H:Hp) (a:Addr) (ks:List D) (vs:List V):Prop:=∃ (kv:List (Int×V)) (m:Str),H a=some (.dK (kv.map fun p=>(Sum.inl p.1,p.2)))/\ks=.str m :: kv.map (fun p=>D.int p.1)/\vs=.non :: kv.map (·.2)
noncomputable def DcA (K:PySem.W.Frag) (H:Hp) (a:Addr) (ks:List D) (vs:List V):Prop:=DcN K H a ks vs\/DcI H a ks vs
noncomputable def ModL (K:PySem.W.Frag) (a:Addr) (xs:List V):Prop:=∃ (its:Array Value) (n:Nat),K.lookup a=some { cls:=.type "list",data:=.seq its n }/\its.size<=sizeLine/\Vals xs its.toList
noncomputable def FrzL (K:PySem.W.Frag) (H:Hp) (a:Addr) (xs:List V):Prop:=(∃ o,H a=some (.frz o (.lst xs)))\/ModL K a xs
noncomputable def LsR (K:PySem.W.Frag) (H:Hp) (a:Addr) (xs:List V):Prop:=Rd H a (.lst xs)\/ModL K a xs
theorem LsR.of {K} {H} {a} {xs} (h:FrzL K H a xs):LsR K H a xs:=h.imp .inr id
theorem LsR.sq {K} {H} {a} {xs} (h:LsR K H a xs):SqL K H a xs:=by
 rcases h with h | ⟨its,n,h1,h2,h3⟩
 ·exact .inl h
 ·exact .inr ⟨_,its,n,h1,rfl,rfl,rfl,h2,h3⟩
theorem LsR.is {X} {pins} {σ:L2.St} {H} {s} {a} {xs} (I:L2.Inv X pins σ H s) (h:LsR X.K H a xs):xs.length<=sizeLine/\∃ (its:List Value) (n:Nat),Vals xs its/\s.heap.get? a=some { cls:=.type "list",data:=.seq its.toArray n }:=by
 rcases h with h | ⟨its,n,h1,h2,h3⟩
 ·obtain ⟨z,its,n,r,e⟩:=h.ok I.hok
  exact ⟨z,its,n,r,e⟩
 ·have hl:=h3.length
  simp at hl
  exact ⟨by lia,its.toList,n,h3,by simpa using I.kIn a _ h1⟩
noncomputable def ExD (K:PySem.W.Frag) (H:Hp) (c:Str) (v:V):Prop:=∃ x o C,v=.ref x/\H x=some (.frz o (.ext fun _ _=>True))/\ExAt K x o C/\PySem.W.nsIn K mainGlobals c=some (some (.ref C))
mutual
noncomputable def RepL (K:PySem.W.Frag) (H:Hp) (g:Bool):D->V->List Addr->Prop
 | .non,v,as=>v=.non/\as=[]
 | .bl b,v,as=>v=.bl b/\as=[]
 | .int i,v,as=>v=.int i/\as=[]
 | .str z,v,as=>v=.str z/\as=[]/\z.length<=sizeLine
 | .tup ds,v,as=>∃ a xs,v=.ref a/\SqT K H a xs/\RepA K H g ds xs as
 | .lst ds,v,as=>∃ a xs bs,v=.ref a/\RepA K H g ds xs bs/\((H a=some (.lst xs)/\as=a :: bs)\/(g=true/\FrzL K H a xs/\as=bs))
 | .dct kvs,v,as=>∃ a xs bs,v=.ref a/\RepP K H g kvs xs bs/\DcA K H a (kvs.map (·.1)) xs/\as=a :: bs
 | .obj c _,v,as=>as=[]/\ExD K H c v
noncomputable def RepA (K:PySem.W.Frag) (H:Hp) (g:Bool):List D->List V->List Addr->Prop
 | [],xs,as=>xs=[]/\as=[]
 | d :: ds,xs,as=>∃ x r bs cs,xs=x :: r/\as=bs++cs/\RepL K H g d x bs/\RepA K H g ds r cs
noncomputable def RepP (K:PySem.W.Frag) (H:Hp) (g:Bool):List (D×D)->List V->List Addr->Prop
 | [],xs,as=>xs=[]/\as=[]
 | (_,d) :: ds,xs,as=>∃ x r bs cs,xs=x :: r/\as=bs++cs/\RepL K H g d x bs/\RepP K H g ds r cs
end
noncomputable def RepR (K:PySem.W.Frag) (H:Hp):D->V->List Addr->Prop
 | .lst ds,v,as=>∃ a xs bs,v=.ref a/\RepA K H true ds xs bs/\H a=some (.lst xs)/\as=a :: bs
 | .dct kvs,v,as=>∃ a xs bs,v=.ref a/\RepP K H true kvs xs bs/\DcA K H a (kvs.map (·.1)) xs/\as=a :: bs
 | _,_,_=>False
noncomputable def RepO (K:PySem.W.Frag) (H:Hp):Own->D->V->List Addr->Prop
 | .no=>RepL K H true
 | .rt=>RepR K H
 | .dp=>RepL K H false
section
variable {K:PySem.W.Frag} {H H':Hp}
noncomputable def Kp (H H':Hp) (as:List Addr):Prop:=(∀ a xs,H a=some (.tup xs)->H' a=some (.tup xs))/\(∀ a o u,H a=some (.frz o u)->H' a=some (.frz o u))/\∀ a∈as,∀ ob,H a=some ob->H' a=some ob
theorem Kp.left {as bs} (k:Kp H H' (as++bs)):Kp H H' as:=⟨k.1,k.2.1,fun a ha=>k.2.2 a (List.mem_append_left _ ha)⟩
theorem Kp.right {as bs} (k:Kp H H' (as++bs)):Kp H H' bs:=⟨k.1,k.2.1,fun a ha=>k.2.2 a (List.mem_append_right _ ha)⟩
theorem Kp.tail {a} {bs} (k:Kp H H' (a :: bs)):Kp H H' bs:=⟨k.1,k.2.1,fun b hb=>k.2.2 b (List.mem_cons_of_mem _ hb)⟩
theorem Kp.tupT {as} {a} {xs} (k:Kp H H' as) (h:SqT K H a xs):SqT K H' a xs:=by
 rcases h with (h | ⟨o,h⟩) | h
 ·exact .inl (.inl (k.1 a xs h))
 ·exact .inl (.inr ⟨o,k.2.1 a o _ h⟩)
 ·exact .inr h
theorem Kp.frzL {as} {a} {xs} (k:Kp H H' as) (h:FrzL K H a xs):FrzL K H' a xs:=by
 rcases h with ⟨o,h⟩ | h
 ·exact .inl ⟨o,k.2.1 a o _ h⟩
 ·exact .inr h
mutual
theorem PuR.kp {as} (k:Kp H H' as):∀ {d} {v},PuR K H d v->PuR K H' d v
 | .non,_,h=>h
 | .int _,_,h=>by unfold PuR at h ⊢;exact h
 | .tup ds,_,h=>by
  obtain ⟨a,xs,e,s,r⟩:=h
  exact ⟨a,xs,e,k.tupT s,PuRs.kp k r⟩
 | .bl _,_,h=>h.elim
 | .str _,_,h=>by unfold PuR at h ⊢;exact h
 | .lst _,_,h=>h.elim
 | .dct _,_,h=>by unfold PuR at h;exact h.elim
 | .obj _ _,_,h=>h.elim
theorem PuRs.kp {as} (k:Kp H H' as):∀ {ds} {xs},PuRs K H ds xs->PuRs K H' ds xs
 | [],_,h=>by unfold PuRs at h ⊢;exact h
 | d :: ds,_,h=>by
  obtain ⟨x,r,e,h1,h2⟩:=h
  exact ⟨x,r,e,PuR.kp k h1,PuRs.kp k h2⟩
end
theorem Kp.dcn {a} {bs} {ks} {vs} (k:Kp H H' (a :: bs)) (h:DcN K H a ks vs):DcN K H' a ks vs:=by
 obtain ⟨es,ep,e,h1,h2,h3,h4,h5,h6⟩:=h
 exact ⟨es,ep,k.2.2 a List.mem_cons_self _ e,h1,h2,h3,h4,fun x hx=>PuR.kp k (h5 x hx),h6⟩
theorem Kp.dca {a} {bs} {ks} {vs} (k:Kp H H' (a :: bs)) (h:DcA K H a ks vs):DcA K H' a ks vs:=by
 rcases h with h | ⟨kv,m,e,h⟩
 ·exact .inl (k.dcn h)
 ·exact .inr ⟨kv,m,k.2.2 a List.mem_cons_self _ e,h⟩
theorem Kp.of_same {as} (s:Same H H'):Kp H H' as:=⟨fun a xs h=>s a _ h,fun a o u h=>s a _ h,fun a _ ob h=>s a ob h⟩
mutual
theorem RepL.kp {g}:∀ {d} {v} {as},RepL K H g d v as->Kp H H' as->RepL K H' g d v as
 | .non,_,_,h,_=>h
 | .bl _,_,_,h,_=>by unfold RepL at h ⊢;exact h
 | .int _,_,_,h,_=>h
 | .str _,_,_,h,_=>by unfold RepL at h ⊢;exact h
 | .tup ds,_,_,h,k=>by
  obtain ⟨a,xs,e,s,r⟩:=h
  exact ⟨a,xs,e,k.tupT s,RepA.kp r k⟩
 | .lst ds,_,_,h,k=>by
  obtain ⟨a,xs,bs,e,r,q⟩:=h
  refine ⟨a,xs,bs,e,?_,?_⟩
  ·rcases q with ⟨_,rfl⟩ | ⟨_,_,rfl⟩
   ·exact RepA.kp r k.tail
   ·exact RepA.kp r k
  ·rcases q with ⟨h1,rfl⟩ | ⟨hg,h1,rfl⟩
   ·exact .inl ⟨k.2.2 a List.mem_cons_self _ h1,rfl⟩
   ·exact .inr ⟨hg,k.frzL h1,rfl⟩
 | .dct kvs,_,_,h,k=>by
  obtain ⟨a,xs,bs,e,r,q,rfl⟩:=h
  exact ⟨a,xs,bs,e,RepP.kp r k.tail,k.dca q,rfl⟩
 | .obj _ _,_,_,h,k=>by
  obtain ⟨e,x,o,C,h1,h2,h3⟩:=h
  exact ⟨e,x,o,C,h1,k.2.1 _ _ _ h2,h3⟩
theorem RepA.kp {g}:∀ {ds} {xs} {as},RepA K H g ds xs as->Kp H H' as->RepA K H' g ds xs as
 | [],_,_,h,_=>by unfold RepA at h ⊢;exact h
 | d :: ds,_,_,h,k=>by
  obtain ⟨x,r,bs,cs,e1,rfl,h1,h2⟩:=h
  exact ⟨x,r,bs,cs,e1,rfl,RepL.kp h1 k.left,RepA.kp h2 k.right⟩
theorem RepP.kp {g}:∀ {ds} {xs} {as},RepP K H g ds xs as->Kp H H' as->RepP K H' g ds xs as
 | [],_,_,h,_=>by unfold RepP at h ⊢;exact h
 | _ :: ds,_,_,h,k=>by
  obtain ⟨x,r,bs,cs,e1,rfl,h1,h2⟩:=h
  exact ⟨x,r,bs,cs,e1,rfl,RepL.kp h1 k.left,RepP.kp h2 k.right⟩
end
mutual
theorem RepL.wk:∀ {d} {v} {as},RepL K H false d v as->RepL K H true d v as
 | .non,_,_,h=>h
 | .bl _,_,_,h=>by unfold RepL at h ⊢;exact h
 | .int _,_,_,h=>h
 | .str _,_,_,h=>by unfold RepL at h ⊢;exact h
 | .tup ds,_,_,h=>by
  obtain ⟨a,xs,e,s,r⟩:=h
  exact ⟨a,xs,e,s,RepA.wk r⟩
 | .lst ds,_,_,h=>by
  obtain ⟨a,xs,bs,e,r,q⟩:=h
  refine ⟨a,xs,bs,e,RepA.wk r,?_⟩
  rcases q with q | ⟨z,_⟩
  ·exact .inl q
  ·grind
 | .dct kvs,_,_,h=>by
  obtain ⟨a,xs,bs,e,r,q,z⟩:=h
  exact ⟨a,xs,bs,e,RepP.wk r,q,z⟩
 | .obj _ _,_,_,h=>h
theorem RepA.wk:∀ {ds} {xs} {as},RepA K H false ds xs as->RepA K H true ds xs as
 | [],_,_,h=>by unfold RepA at h ⊢;exact h
 | d :: ds,_,_,h=>by
  obtain ⟨x,r,bs,cs,e1,e2,h1,h2⟩:=h
  exact ⟨x,r,bs,cs,e1,e2,RepL.wk h1,RepA.wk h2⟩
theorem RepP.wk:∀ {ds} {xs} {as},RepP K H false ds xs as->RepP K H true ds xs as
 | [],_,_,h=>h
 | _ :: ds,_,_,h=>by
  obtain ⟨x,r,bs,cs,e1,e2,h1,h2⟩:=h
  exact ⟨x,r,bs,cs,e1,e2,RepL.wk h1,RepP.wk h2⟩
end
mutual
theorem RepL.al {g}:∀ {d} {v} {as},RepL K H g d v as->∀ a∈as,(∃ xs,H a=some (.lst xs))\/(∃ φ,H a=some (.ext φ))\/∃ kvs,H a=some (.dK kvs)
 | .non,_,_,h=>by rw [h.2];exact fun _ z=>nomatch z
 | .bl _,_,_,h=>by rw [h.2];exact fun _ z=>nomatch z
 | .int _,_,_,h=>by rw [h.2];exact fun _ z=>nomatch z
 | .str _,_,_,h=>by rw [h.2.1];exact fun _ z=>nomatch z
 | .tup ds,_,_,h=>by
  obtain ⟨a,xs,e,s,r⟩:=h
  exact RepA.al r
 | .lst ds,_,_,h=>by
  obtain ⟨a,xs,bs,e,r,q⟩:=h
  rcases q with ⟨h1,rfl⟩ | ⟨_,_,rfl⟩
  ·intro b hb
   rcases List.mem_cons.mp hb with rfl | hb
   ·exact .inl ⟨_,h1⟩
   ·exact RepA.al r b hb
  ·exact RepA.al r
 | .dct kvs,_,_,h=>by
  obtain ⟨a,xs,bs,e,r,q,rfl⟩:=h
  intro b hb
  rcases List.mem_cons.mp hb with rfl | hb
  ·rcases q with ⟨es,ep,q,_⟩ | ⟨kv,m,q,_⟩
   ·exact .inr (.inl ⟨_,q⟩)
   ·exact .inr (.inr ⟨_,q⟩)
  ·exact RepP.al r b hb
 | .obj _ _,_,_,h=>by rw [h.1];exact fun _ z=>nomatch z
theorem RepA.al {g}:∀ {ds} {xs} {as},RepA K H g ds xs as->∀ a∈as,(∃ xs,H a=some (.lst xs))\/(∃ φ,H a=some (.ext φ))\/∃ kvs,H a=some (.dK kvs)
 | [],_,_,h=>by rw [h.2];exact fun _ z=>nomatch z
 | d :: ds,_,_,h=>by
  obtain ⟨x,r,bs,cs,e1,rfl,h1,h2⟩:=h
  intro a ha
  rcases List.mem_append.mp ha with ha | ha
  ·exact RepL.al h1 a ha
  ·exact RepA.al h2 a ha
theorem RepP.al {g}:∀ {ds} {xs} {as},RepP K H g ds xs as->∀ a∈as,(∃ xs,H a=some (.lst xs))\/(∃ φ,H a=some (.ext φ))\/∃ kvs,H a=some (.dK kvs)
 | [],_,_,h=>by rw [h.2];exact fun _ z=>nomatch z
 | _ :: ds,_,_,h=>by
  obtain ⟨x,r,bs,cs,e1,rfl,h1,h2⟩:=h
  intro a ha
  rcases List.mem_append.mp ha with ha | ha
  ·exact RepL.al h1 a ha
  ·exact RepP.al h2 a ha
end
mutual
theorem RepL.pu {g g'}:∀ {d} {v} {as},RepL K H g d v as->d.pure=true->as=[]/\RepL K H g' d v []
 | .non,_,_,h,_=>⟨h.2,h.1,rfl⟩
 | .bl _,_,_,h,_=>⟨h.2,h.1,rfl⟩
 | .int _,_,_,h,_=>⟨h.2,h.1,rfl⟩
 | .str _,_,_,h,_=>⟨h.2.1,h.1,rfl,h.2.2⟩
 | .tup ds,_,_,h,p=>by
  obtain ⟨a,xs,e,s,r⟩:=h
  obtain ⟨z,r'⟩:=RepA.pu (g':=g') r (p)
  exact ⟨z,a,xs,e,s,r'⟩
 | .lst ds,_,_,h,p=>by unfold D.pure at p;cases p
 | .dct ds,_,_,h,p=>by cases p
 | .obj _ _,_,_,h,p=>by unfold D.pure at p;cases p
theorem RepA.pu {g g'}:∀ {ds} {xs} {as},RepA K H g ds xs as->D.pures ds=true->as=[]/\RepA K H g' ds xs []
 | [],_,_,h,_=>⟨h.2,h.1,rfl⟩
 | d :: ds,_,_,h,p=>by
  unfold D.pures at p
  rw [Bool.and_eq_true] at p
  obtain ⟨x,r,bs,cs,e1,rfl,h1,h2⟩:=h
  obtain ⟨rfl,q1⟩:=RepL.pu (g':=g') h1 p.1
  obtain ⟨rfl,q2⟩:=RepA.pu (g':=g') h2 p.2
  exact ⟨rfl,x,r,[],[],e1,rfl,q1,q2⟩
end
theorem RepR.wk:∀ {d} {v} {as},RepR K H d v as->RepL K H true d v as
 | .lst ds,_,_,h=>by
  obtain ⟨a,xs,bs,e,r,q,z⟩:=h
  exact ⟨a,xs,bs,e,r,.inl ⟨q,z⟩⟩
 | .dct kvs,_,_,h=>by
  obtain ⟨a,xs,bs,e,r,q,z⟩:=h
  exact ⟨a,xs,bs,e,r,q,z⟩
theorem RepR.kp:∀ {d} {v} {as},RepR K H d v as->Kp H H' as->RepR K H' d v as
 | .lst ds,_,_,h,k=>by
  obtain ⟨a,xs,bs,e,r,q,rfl⟩:=h
  exact ⟨a,xs,bs,e,r.kp k.tail,k.2.2 a List.mem_cons_self _ q,rfl⟩
 | .dct kvs,_,_,h,k=>by
  obtain ⟨a,xs,bs,e,r,q,rfl⟩:=h
  exact ⟨a,xs,bs,e,r.kp k.tail,k.dca q,rfl⟩
theorem RepO.wk:∀ {o} {d} {v} {as},RepO K H o d v as->RepL K H true d v as
 | .no,_,_,_,h=>h
 | .rt,_,_,_,h=>RepR.wk h
 | .dp,_,_,_,h=>RepL.wk h
theorem RepO.kp:∀ {o} {d} {v} {as},RepO K H o d v as->Kp H H' as->RepO K H' o d v as
 | .no,_,_,_,h,k=>RepL.kp h k
 | .rt,_,_,_,h,k=>RepR.kp h k
 | .dp,_,_,_,h,k=>RepL.kp h k
end
structure Sl where
 o:Own
 d:D
 v:V
 as:List Addr
noncomputable def Sl.own (x:Sl):List Addr:=match x.o with
 | .no=>[]
 | .rt=>x.as.take 1
 | .dp=>x.as
noncomputable def Sl.frz (x:Sl):List Addr:=match x.o with
 | .no=>x.as
 | .rt=>x.as.drop 1
 | .dp=>[]
theorem Sl.parts (x:Sl):x.own++x.frz=x.as:=by
 unfold Sl.own Sl.frz
 cases x.o with
 | no=>rfl
 | rt=>exact List.take_append_drop 1 x.as
 | dp=>exact List.append_nil _
theorem Sl.own_as {x:Sl} {a} (h:a∈x.own):a∈x.as:=by rw [← x.parts];exact List.mem_append_left _ h
theorem Sl.frz_as {x:Sl} {a} (h:a∈x.frz):a∈x.as:=by rw [← x.parts];exact List.mem_append_right _ h
theorem Sl.as_of {x:Sl} {a} (h:a∈x.as):a∈x.own\/a∈x.frz:=by rw [← x.parts] at h;exact List.mem_append.mp h
noncomputable def Sl.let (x:Sl):Sl:={ x with o:=.no }
noncomputable abbrev Ls:=List (Option Sl)
noncomputable def owned (L:Ls):List Addr:=L.flatMap fun x=>x.elim [] Sl.own
noncomputable def frozen (L:Ls):List Addr:=L.flatMap fun x=>x.elim [] Sl.frz
@[simp] theorem owned_nil:owned []=[]:=rfl
@[simp] theorem frozen_nil:frozen []=[]:=rfl
@[simp] theorem owned_some x (L:Ls):owned (some x :: L)=x.own++owned L:=by simp [owned]
@[simp] theorem frozen_some x (L:Ls):frozen (some x :: L)=x.frz++frozen L:=by simp [frozen]
@[simp] theorem owned_none (L:Ls):owned (none :: L)=owned L:=by simp [owned]
@[simp] theorem frozen_none (L:Ls):frozen (none :: L)=frozen L:=by simp [frozen]
@[simp] theorem owned_app (L T):owned (L++T)=owned L++owned T:=by simp [owned]
@[simp] theorem frozen_app (L T):frozen (L++T)=frozen L++frozen T:=by simp [frozen]
theorem mem_owned {L} {a}:a∈owned L↔∃ x,some x∈L/\a∈x.own:=by
 unfold owned
 rw [List.mem_flatMap]
 constructor
 ·rintro ⟨y,hy,h⟩
  cases y with
  | none=>simp_all
  | some x=>exact ⟨x,hy,h⟩
 ·rintro ⟨x,hx,h⟩
  exact ⟨some x,hx,h⟩
theorem mem_frozen {L} {a}:a∈frozen L↔∃ x,some x∈L/\a∈x.frz:=by
 unfold frozen
 rw [List.mem_flatMap]
 constructor
 ·rintro ⟨y,hy,h⟩
  cases y with
  | none=>simp_all
  | some x=>exact ⟨x,hy,h⟩
 ·rintro ⟨x,hx,h⟩
  exact ⟨some x,hx,h⟩
noncomputable def Sl.ok (K:PySem.W.Frag) (H:Hp) (x:Sl):Prop:=RepO K H x.o x.d x.v x.as
theorem Sl.ok.al {K} {H} {x:Sl} (h:x.ok K H):∀ a∈x.as,(∃ xs,H a=some (.lst xs))\/(∃ φ,H a=some (.ext φ))\/∃ kvs,H a=some (.dK kvs):=(RepO.wk h).al
theorem Sl.ok.some {K} {H} {x:Sl} (h:x.ok K H) {a} (ha:a∈x.as):H a≠none:=fun z=>by
 rcases h.al a ha with ⟨xs,e⟩ | ⟨xs,e⟩ | ⟨xs,e⟩<;>(rw [z] at e;cases e)
structure World (K:PySem.W.Frag) (H:Hp) (L:Ls):Prop where
 ok:∀ x,some x∈L->x.ok K H
 nd:(owned L).Nodup
 ds:∀ a∈owned L,a∉frozen L
structure Step (H:Hp) (L:Ls) (H':Hp) (L':Ls):Prop where
 keep:∀ a ob,H a=some ob->a∉owned L->H' a=some ob
 own:∀ a∈owned L',a∈owned L\/H a=none
 frz:∀ a∈frozen L',a∈frozen L\/a∈owned L\/H a=none
section
variable {K:PySem.W.Frag} {H H1 H2 H':Hp} {L L1 L2' L' T:Ls} {x y:Sl}
theorem World.own_al (w:World K H L) {a} (h:a∈owned L):(∃ xs,H a=some (.lst xs))\/(∃ φ,H a=some (.ext φ))\/∃ kvs,H a=some (.dK kvs):=by
 obtain ⟨x,hx,ha⟩:=mem_owned.mp h
 exact (w.ok x hx).al a (Sl.own_as ha)
theorem World.own_some (w:World K H L) {a} (h:a∈owned L):H a≠none:=by
 obtain ⟨x,hx,ha⟩:=mem_owned.mp h
 exact (w.ok x hx).some (Sl.own_as ha)
theorem World.frz_some (w:World K H L) {a} (h:a∈frozen L):H a≠none:=by
 obtain ⟨x,hx,ha⟩:=mem_frozen.mp h
 exact (w.ok x hx).some (Sl.frz_as ha)
theorem Step.refl:Step H L H L:=⟨fun _ _ h _=>h,fun _ h=>.inl h,fun _ h=>.inl h⟩
theorem Step.trans (a:Step H L H1 L1) (b:Step H1 L1 H2 L2'):Step H L H2 L2' where
 keep:=fun c ob h hn=>b.keep c ob (a.keep c ob h hn) fun z=>(a.own c z).elim hn fun e=>by rw [h] at e;cases e
 own:=fun c hc=>by
  rcases b.own c hc with z | z
  ·exact a.own c z
  ·by_cases h:c∈owned L
   ·exact .inl h
   ·refine .inr ?_
    cases e:H c with
    | none=>rfl
    | some ob=>rw [a.keep c ob e h] at z;cases z
 frz:=fun c hc=>by
  rcases b.frz c hc with z | z | z
  ·exact a.frz c z
  ·exact .inr (a.own c z)
  ·by_cases h:c∈owned L
   ·exact .inr (.inl h)
   ·refine .inr (.inr ?_)
    cases e:H c with
    | none=>rfl
    | some ob=>rw [a.keep c ob e h] at z;cases z
theorem Step.kp (a:Step H L H' L') (w:World K H L) {as} (h:∀ b∈as,b∉owned L):Kp H H' as:=by
 have no:∀ b ob,H b=some ob->(∀ xs,ob≠.lst xs)->(∀ φ,ob≠.ext φ)->(∀ kvs,ob≠.dK kvs)->H' b=some ob:=fun b ob e h1 h2 h3=>a.keep b ob e fun z=>by
  rcases w.own_al z with _ | _ | _
  ·grind
  ·grind
  ·grind
 exact ⟨fun b xs e=>no b _ e (fun _ z=>(nomatch z)) (fun _ z=>(nomatch z)) (fun _ z=>(nomatch z)),fun b o u e=>no b _ e (fun _ z=>(nomatch z)) (fun _ z=>(nomatch z)) (fun _ z=>(nomatch z)),fun b hb ob e=>a.keep b ob e (h b hb)⟩
theorem Step.frame (a:Step H L H' L') (w:World K H (L++T)) (w':World K H' L') (wL:World K H L):World K H' (L'++T):=by
 have nd:=w.nd
 rw [owned_app,List.nodup_append] at nd
 have dis:=fun b hb hT=>nd.2.2 b hb b hT rfl
 have okT:=fun x hx=>w.ok x (List.mem_append_right _ hx)
 have nT:∀ x,some x∈T->∀ b∈x.as,b∉owned L:=fun x hx b hb hL=>by
  rcases Sl.as_of hb with z | z
  ·exact dis b hL (mem_owned.mpr ⟨x,hx,z⟩)
  ·refine w.ds b (by rw [owned_app];exact List.mem_append_left _ hL) ?_
   rw [frozen_app]
   exact List.mem_append_right _ (mem_frozen.mpr ⟨x,hx,z⟩)
 refine ⟨fun x hx=>?_,?_,fun b hb=>?_⟩
 ·rcases List.mem_append.mp hx with hx | hx
  ·exact w'.ok x hx
  ·exact (okT x hx).kp (a.kp wL (nT x hx))
 ·rw [owned_app,List.nodup_append]
  refine ⟨w'.nd,nd.2.1,fun b hb c hc e=>?_⟩
  subst e
  obtain ⟨x,hx,hbx⟩:=mem_owned.mp hc
  rcases a.own b hb with z | z
  ·exact dis b z hc
  ·exact (okT x hx).some (Sl.own_as hbx) z
 ·rw [owned_app] at hb
  rw [frozen_app]
  intro hf
  rcases List.mem_append.mp hb with hb | hb
  ·rcases List.mem_append.mp hf with hf | hf
   ·exact w'.ds b hb hf
   ·obtain ⟨x,hx,hbx⟩:=mem_frozen.mp hf
    rcases a.own b hb with z | z
    ·exact nT x hx b (Sl.frz_as hbx) z
    ·exact (okT x hx).some (Sl.frz_as hbx) z
  ·rcases List.mem_append.mp hf with hf | hf
   ·obtain ⟨x,hx,hbx⟩:=mem_owned.mp hb
    rcases a.frz b hf with z | z | z
    ·exact w.ds b (by rw [owned_app];exact List.mem_append_right _ hb) (by rw [frozen_app];exact List.mem_append_left _ z)
    ·exact dis b z hb
    ·exact (okT x hx).some (Sl.own_as hbx) z
   ·exact w.ds b (by rw [owned_app];exact List.mem_append_right _ hb) (by rw [frozen_app];exact List.mem_append_right _ hf)
theorem World.left (w:World K H (L++T)):World K H L:=by
 have nd:=w.nd
 rw [owned_app,List.nodup_append] at nd
 exact ⟨fun x hx=>w.ok x (List.mem_append_left _ hx),nd.1,fun a ha hf=>w.ds a (by rw [owned_app];exact List.mem_append_left _ ha) (by rw [frozen_app];exact List.mem_append_left _ hf)⟩
theorem World.right (w:World K H (L++T)):World K H T:=by
 have nd:=w.nd
 rw [owned_app,List.nodup_append] at nd
 exact ⟨fun x hx=>w.ok x (List.mem_append_right _ hx),nd.2.1,fun a ha hf=>w.ds a (by rw [owned_app];exact List.mem_append_right _ ha) (by rw [frozen_app];exact List.mem_append_right _ hf)⟩
theorem World.comm (w:World K H (L++T)):World K H (T++L):=by
 refine ⟨fun x hx=>w.ok x ?_,?_,fun a ha hf=>w.ds a ?_ ?_⟩
 ·grind
 ·have nd:=w.nd
  rw [owned_app,List.nodup_append] at nd ⊢
  exact ⟨nd.2.1,nd.1,fun a ha b hb e=>nd.2.2 b hb a ha e.symm⟩
 ·rw [owned_app] at ha ⊢
  rcases List.mem_append.mp ha with h | h
  ·exact List.mem_append_right _ h
  ·exact List.mem_append_left _ h
 ·rw [frozen_app] at hf ⊢
  rcases List.mem_append.mp hf with h | h
  ·exact List.mem_append_right _ h
  ·exact List.mem_append_left _ h
theorem World.tail {q} (w:World K H (q :: L)):World K H L:=World.right (L:=[q]) w
theorem World.head (w:World K H (some x :: L)):x.ok K H:=w.ok x List.mem_cons_self
theorem World.apart (w:World K H (some x :: L)):∀ a∈x.as,a∉owned L:=fun a ha hL=>by
 rcases Sl.as_of ha with z | z
 ·have nd:=w.nd
  rw [owned_some,List.nodup_append] at nd
  exact nd.2.2 a z a hL rfl
 ·exact w.ds a (List.mem_append_right _ hL) (by rw [frozen_some];exact List.mem_append_left _ z)
theorem World.cons (w:World K H L) (h:x.ok K H) (n:x.own.Nodup) (h1:∀ a∈x.own,a∉owned L) (h2:∀ a∈x.own,a∉frozen L) (h3:∀ a∈x.frz,a∉owned L) (h4:∀ a∈x.own,a∉x.frz):World K H (some x :: L):=by
 refine ⟨fun y hy=>?_,?_,fun a ha hf=>?_⟩
 ·rcases List.mem_cons.mp hy with z | z
  ·grind
  ·exact w.ok y z
 ·rw [owned_some,List.nodup_append]
  exact ⟨n,w.nd,fun a ha b hb e=>by subst e;exact h1 a ha hb⟩
 ·rw [frozen_some] at hf
  rcases List.mem_append.mp ha with ha | ha
  ·simp_all
  ·rcases List.mem_append.mp hf with hf | hf
   ·exact h3 a hf ha
   ·exact w.ds a ha hf
theorem World.consNo (w:World K H L) (h:x.ok K H) (ho:x.o=.no) (h3:∀ a∈x.as,a∉owned L):World K H (some x :: L):=by
 have e1:x.own=[]:=by unfold Sl.own;rw [ho]
 have e2:x.frz=x.as:=by unfold Sl.frz;rw [ho]
 exact w.cons h (by simp_all) (e1▸fun _ z=>nomatch z) (by simp_all) (e2▸h3) (by simp_all)
theorem World.consPu (w:World K H L) (h:x.ok K H) (e:x.as=[]):World K H (some x :: L):=by
 have e1:∀ a,a∉x.own:=fun a ha=>by have:=Sl.own_as ha;rw [e] at this;exact nomatch this
 have e2:∀ a,a∉x.frz:=fun a ha=>by have:=Sl.frz_as ha;rw [e] at this;exact nomatch this
 have e3:=List.eq_nil_iff_forall_not_mem.mpr e1
 exact w.cons h (by simp_all) (fun a z=>absurd z (e1 a)) (fun a z=>absurd z (e1 a)) (fun a z=>absurd z (e2 a)) (fun a z=>absurd z (e1 a))
theorem mem_set_some {L:Ls} {i} {q} (h:some y∈L.set i q):q=some y\/some y∈L:=by
 rcases List.mem_or_eq_of_mem_set h with z | z
 ·exact .inr z
 ·exact .inl z.symm
theorem owned_set_mem {i} {a} (h:a∈owned (L.set i (some x))):a∈x.own\/a∈owned L:=by
 obtain ⟨y,hy,ha⟩:=mem_owned.mp h
 rcases mem_set_some hy with z | z
 ·grind
 ·exact .inr (mem_owned.mpr ⟨y,z,ha⟩)
theorem frozen_set_mem {i} {a} (h:a∈frozen (L.set i (some x))):a∈x.frz\/a∈frozen L:=by
 obtain ⟨y,hy,ha⟩:=mem_frozen.mp h
 rcases mem_set_some hy with z | z
 ·grind
 ·exact .inr (mem_frozen.mpr ⟨y,z,ha⟩)
theorem owned_set_nodup:∀ {L} {i},(x.own++owned L).Nodup->(owned (L.set i (some x))).Nodup
 | [],_,h=>by simp
 | q :: L,0,h=>by
  rw [List.set_cons_zero,owned_some]
  have e:owned (q :: L)=q.elim [] Sl.own++owned L:=by simp [owned]
  rw [e,List.nodup_append] at h
  obtain ⟨h1,h2,h3⟩:=h
  rw [List.nodup_append] at h2 ⊢
  exact ⟨h1,h2.2.1,fun a ha b hb=>h3 a ha b (List.mem_append_right _ hb)⟩
 | q :: L,i + 1,h=>by
  rw [List.set_cons_succ]
  have e:∀ M,owned (q :: M)=q.elim [] Sl.own++owned M:=fun M=>by simp [owned]
  rw [e] at h ⊢
  rw [List.nodup_append] at h
  obtain ⟨h1,h2,h3⟩:=h
  rw [List.nodup_append] at h2
  rw [List.nodup_append]
  refine ⟨h2.1,owned_set_nodup (by rw [List.nodup_append];exact ⟨h1,h2.2.1,fun a ha b hb=>h3 a ha b (List.mem_append_right _ hb)⟩),fun a ha b hb e=>?_⟩
  subst e
  rcases owned_set_mem hb with z | z
  ·exact h3 a z a (List.mem_append_left _ ha) rfl
  ·exact h2.2.2 a ha a z rfl
theorem World.set {i} (w:World K H (some x :: L)):World K H (L.set i (some x)):=by
 refine ⟨fun y hy=>?_,owned_set_nodup (by have:=w.nd;rwa [owned_some] at this),fun a ha hf=>?_⟩
 ·rcases mem_set_some hy with z | z
  ·cases z;exact w.head
  ·exact w.ok y (List.mem_cons_of_mem _ z)
 ·refine w.ds a ?_ ?_
  ·rw [owned_some];exact List.mem_append.mpr (owned_set_mem ha)
  ·rw [frozen_some];exact List.mem_append.mpr (frozen_set_mem hf)
theorem Step.set {i}:Step H (some x :: L) H (L.set i (some x)) where
 keep:=fun _ _ h _=>h
 own:=fun a ha=>.inl (List.mem_append.mpr (owned_set_mem ha))
 frz:=fun a ha=>.inl (List.mem_append.mpr (frozen_set_mem ha))
theorem Step.drop {q}:Step H (q :: L) H L where
 keep:=fun _ _ h _=>h
 own:=fun a ha=>.inl (by rw [show (q :: L:Ls)=[q]++L from rfl];exact List.mem_append_right _ ha)
 frz:=fun a ha=>.inl (by rw [show (q :: L:Ls)=[q]++L from rfl];exact List.mem_append_right _ ha)
theorem getD_mem {i:Nat} (h:L[i]?=some (some x)):some x∈L:=List.mem_of_getElem? h
theorem let_as (x:Sl):x.let.own=[]/\x.let.frz=x.as/\x.let.as=x.as:=⟨rfl,rfl,rfl⟩
theorem owned_let {i} {a} (h:a∈owned (L.set i (some x.let))):a∈owned L:=by
 rcases owned_set_mem h with z | z
 ·exact nomatch z
 ·exact z
theorem let_out:∀ {L} {i},(owned L).Nodup->(∀ a∈owned L,a∉frozen L)->L[i]?=some (some x)->∀ a∈x.as,a∉owned (L.set i (some x.let))
 | [],_,_,_,h,_,_=>by simp_all
 | q :: L,0,nd,ds,h,a,ha=>by
  have e:q=some x:=by simpa using h
  subst e
  intro hm
  have hm:a∈owned L:=by simpa [let_as] using hm
  rcases Sl.as_of ha with z | z
  ·rw [owned_some,List.nodup_append] at nd
   exact nd.2.2 a z a hm rfl
  ·exact ds a (List.mem_append_right _ hm) (by rw [frozen_some];exact List.mem_append_left _ z)
 | q :: L,i + 1,nd,ds,h,a,ha=>by
  rw [List.set_cons_succ]
  have e:∀ M,owned (q :: M)=q.elim [] Sl.own++owned M:=fun M=>by simp [owned]
  have f:frozen (q :: L)=q.elim [] Sl.frz++frozen L:=by simp [frozen]
  intro hm
  rw [e,List.nodup_append] at nd
  rcases List.mem_append.mp hm with hm | hm
  ·rcases Sl.as_of ha with z | z
   ·exact nd.2.2 a hm a (mem_owned.mpr ⟨x,getD_mem h,z⟩) rfl
   ·exact ds a (List.mem_append_left _ hm) (by rw [f];exact List.mem_append_right _ (mem_frozen.mpr ⟨x,getD_mem h,z⟩))
  ·exact let_out nd.2.1 (fun b hb hf=>ds b (List.mem_append_right _ hb) (f▸List.mem_append_right _ hf)) h a ha hm
theorem let_ok (h:x.ok K H):x.let.ok K H:=RepO.wk h
theorem World.let {i} (w:World K H L) (h:L[i]?=some (some x)):World K H (L.set i (some x.let)):=by
 refine ⟨fun y hy=>?_,owned_set_nodup ((let_as x).1▸w.nd),fun a ha hf=>?_⟩
 ·rcases mem_set_some hy with z | z
  ·cases z;exact let_ok (w.ok x (getD_mem h))
  ·exact w.ok y z
 ·rcases frozen_set_mem hf with z | z
  ·exact (let_out w.nd w.ds h) a z ha
  ·exact w.ds a (owned_let ha) z
theorem World.read {i} (w:World K H L) (h:L[i]?=some (some x)):World K H (some x.let :: L.set i (some x.let)) :=
 (w.let h).consNo (let_ok (w.ok x (getD_mem h))) rfl (let_out (x:=x) w.nd w.ds h)
theorem Step.read {i} (h:L[i]?=some (some x)):Step H L H (some x.let :: L.set i (some x.let)) where
 keep:=fun _ _ h _=>h
 own:=fun a ha=>.inl (by rw [owned_some] at ha;exact owned_let ha)
 frz:=fun a ha=>by
  have hx:=getD_mem h
  have q:∀ a∈x.as,a∈frozen L\/a∈owned L\/H a=none:=fun a ha=>by
   rcases Sl.as_of ha with z | z
   ·exact .inr (.inl (mem_owned.mpr ⟨x,hx,z⟩))
   ·exact .inl (mem_frozen.mpr ⟨x,hx,z⟩)
  rcases List.mem_append.mp ha with z | z
  ·exact q a z
  ·rcases frozen_set_mem z with z | z
   ·exact q a z
   ·exact .inl z
end
inductive Mt:En->L2.St->Ls->Prop
 | nil:Mt [] [] []
 | un {E:En} {σ:L2.St} {L:Ls} {y:Option V}:Mt E σ L->Mt (none :: E) (y :: σ) (none :: L)
 | cons {E:En} {σ:L2.St} {L:Ls} {x:Sl}:Mt E σ L->Mt (some (x.o,x.d) :: E) (some x.v :: σ) (some x :: L)
theorem Mt.get:∀ {E} {σ} {L} {i:Nat} {o} {d},Mt E σ L->E[i]?=some (some (o,d))->∃ x,L[i]?=some (some x)/\x.o=o/\x.d=d/\σ[i]?=some (some x.v)
 | _,_,_,_,_,_,.nil,h=>by simp_all
 | _,_,_,0,_,_,.un _,h=>by simp_all
 | _,_,_,i + 1,_,_,.un m,h=>by simpa using m.get (by simpa using h)
 | _,_,_,0,_,_,.cons (x:=x) m,h=>by
  simp at h
  exact ⟨x,by simp,h.1,h.2,by simp⟩
 | _,_,_,i + 1,_,_,.cons m,h=>by simpa using m.get (by simpa using h)
theorem Mt.set {x}:∀ {E} {σ} {L} (i),Mt E σ L->Mt (E.set i (some (x.o,x.d))) (σ.set i (some x.v)) (L.set i (some x))
 | _,_,_,_,.nil=>.nil
 | _,_,_,0,.un m=>.cons m
 | _,_,_,i + 1,.un m=>.un (m.set i)
 | _,_,_,0,.cons m=>.cons m
 | _,_,_,i + 1,.cons m=>.cons (m.set i)
theorem Mt.let {x}:∀ {E} {σ} {L} {i},Mt E σ L->L[i]?=some (some x)->Mt (E.set i (some (.no,x.d))) σ (L.set i (some x.let))
 | _,_,_,_,.nil,h=>by simp_all
 | _,_,_,i + 1,.un m,h=>.un (m.let (by simpa using h))
 | _,_,_,0,.cons (x:=y) m,h=>by
  have e:y=x:=by simpa using h
  subst e
  exact .cons (x:=y.let) m
 | _,_,_,i + 1,.cons m,h=>.cons (m.let (by simpa using h))
theorem Mt.len:∀ {E} {σ} {L},Mt E σ L->E.length=σ.length/\L.length=σ.length
 | _,_,_,.nil=>⟨rfl,rfl⟩
 | _,_,_,.un m=>by simp [m.len]
 | _,_,_,.cons m=>by simp [m.len]
end Q
namespace Q
open PySem PySem.Spec PyProof.Rows L2 L3
noncomputable def sls (L:Ls):List Sl:=L.filterMap id
theorem owned_sls L:owned L=(sls L).flatMap Sl.own:=by
 induction L with
 | nil=>rfl
 | cons q L ih =>
  cases q with
  | none=>rw [owned_none,ih];rfl
  | some x=>rw [owned_some,ih];rfl
theorem frozen_sls L:frozen L=(sls L).flatMap Sl.frz:=by
 induction L with
 | nil=>rfl
 | cons q L ih =>
  cases q with
  | none=>rw [frozen_none,ih];rfl
  | some x=>rw [frozen_some,ih];rfl
theorem mem_sls {L} {x}:x∈sls L↔some x∈L:=by simp [sls]
@[simp] theorem sls_app (L T):sls (L++T)=sls L++sls T:=by simp [sls]
@[simp] theorem sls_none (L:Ls):sls (none :: L)=sls L:=rfl
@[simp] theorem sls_some (x:Sl) (L:Ls):sls (some x :: L)=x :: sls L:=rfl
@[simp] theorem sls_nil:sls []=[]:=rfl
@[simp] theorem sls_map T:sls (T.map some)=T:=by simp [sls]
@[simp] theorem sls_rep k:sls (List.replicate k none)=[]:=by
 induction k with
 | zero=>rfl
 | succ k ih=>rw [List.replicate_succ,sls_none,ih]
theorem sub_flatMap {α β:Type} (f:α->List β) {l l':List α} (h:l.Sublist l'):(l.flatMap f).Sublist (l'.flatMap f):=by
 induction h with
 | slnil=>exact List.Sublist.refl _
 | cons a _ ih=>rw [List.flatMap_cons];exact List.Sublist.trans ih (List.sublist_append_right _ _)
 | cons_cons a _ ih=>rw [List.flatMap_cons];exact List.Sublist.append (List.Sublist.refl _) ih
section
variable {K:PySem.W.Frag} {H H':Hp} {L L' M M':Ls}
theorem World.same (w:World K H L) (p:(sls L).Perm (sls L')):World K H L':=by
 have po:(owned L).Perm (owned L'):=by rw [owned_sls,owned_sls];exact p.flatMap_right _
 have pf:(frozen L).Perm (frozen L'):=by rw [frozen_sls,frozen_sls];exact p.flatMap_right _
 exact ⟨fun x hx=>w.ok x (mem_sls.mp (p.mem_iff.mpr (mem_sls.mpr hx))),po.nodup_iff.mp w.nd,fun a ha hf=>w.ds a (po.mem_iff.mpr ha) (pf.mem_iff.mpr hf)⟩
theorem Step.same (s:Step H L H' L') (p:(sls L).Perm (sls M)) (p':(sls L').Perm (sls M')):Step H M H' M':=by
 have po:(owned L).Perm (owned M):=by rw [owned_sls,owned_sls];exact p.flatMap_right _
 have pf:(frozen L).Perm (frozen M):=by rw [frozen_sls,frozen_sls];exact p.flatMap_right _
 have po':(owned L').Perm (owned M'):=by rw [owned_sls,owned_sls];exact p'.flatMap_right _
 have pf':(frozen L').Perm (frozen M'):=by rw [frozen_sls,frozen_sls];exact p'.flatMap_right _
 exact ⟨fun a ob h hn=>s.keep a ob h fun z=>hn (po.mem_iff.mp z),fun a ha=>(s.own a (po'.mem_iff.mpr ha)).imp (fun z=>po.mem_iff.mp z) id,
  fun a ha=>(s.frz a (pf'.mem_iff.mpr ha)).imp (fun z=>pf.mem_iff.mp z) fun z=>z.imp (fun z=>po.mem_iff.mp z) id⟩
theorem World.sub (w:World K H L) (p:(sls L').Sublist (sls L)):World K H L':=by
 refine ⟨fun x hx=>w.ok x (mem_sls.mp (p.subset (mem_sls.mpr hx))),?_,fun a ha hf=>w.ds a ?_ ?_⟩
 ·have:=w.nd
  rw [owned_sls] at this ⊢
  exact (sub_flatMap _ p).nodup this
 ·rw [owned_sls] at ha ⊢;exact (sub_flatMap _ p).subset ha
 ·rw [frozen_sls] at hf ⊢;exact (sub_flatMap _ p).subset hf
theorem Step.sub (s:Step H L H' L') (p:(sls M).Sublist (sls L')):Step H L H' M:=by
 refine ⟨s.keep,fun a ha=>s.own a ?_,fun a ha=>s.frz a ?_⟩
 ·rw [owned_sls] at ha ⊢;exact (sub_flatMap _ p).subset ha
 ·rw [frozen_sls] at ha ⊢;exact (sub_flatMap _ p).subset ha
end
theorem set_none_perm:∀ {L:Ls} {j},(sls (at' L j :: L.set j none)).Perm (sls L)
 | [],j=>by simp [at']
 | q :: L,0=>by
  cases q with
  | none=>simp [at']
  | some x=>simp [at']
 | q :: L,j + 1=>by
  have ih:=set_none_perm (L:=L) (j:=j)
  have e:at' (q :: L) (j + 1)=at' L j:=by simp [at']
  rw [e]
  have e2:∀ a b M,(sls (a :: b :: M)).Perm (sls (b :: a :: M)):=fun a b M=>by
   cases a<;>cases b<;>simp [sls]
   exact List.Perm.swap ..
  refine (e2 _ _ _).trans ?_
  cases q with
  | none=>simpa [sls] using ih
  | some y=>simpa [sls] using ih
theorem clr_perm:∀ {R} {L:Ls},R.Nodup->(sls (R.map (at' L)++clr R L)).Perm (sls L)
 | [],L,_=>by simp [clr]
 | j :: R,L,h=>by
  rw [List.nodup_cons] at h
  have e:R.map (at' L)=R.map (at' (L.set j none)):=by
   apply List.map_congr_left
   intro i hi
   have:j≠i:=fun e=>h.1 (e▸hi)
   unfold at'
   rw [List.getElem?_set_ne this]
  rw [List.map_cons,clr,e]
  have ih:=clr_perm (L:=L.set j none) h.2
  refine List.Perm.trans ?_ (set_none_perm (j:=j))
  cases hq:at' L j with
  | none=>simpa [sls] using ih
  | some x=>simpa [sls] using ih
theorem clr_len {α}:∀ {R} {L:List (Option α)},(clr R L).length=L.length
 | [],_=>rfl
 | j :: R,L=>by rw [clr,clr_len,List.length_set]
theorem clr_get {α}:∀ {R} {L:List (Option α)} {j},j∈R->at' (clr R L) j=none
 | [],_,_,h=>by grind
 | i :: R,L,j,h=>by
  rw [clr]
  by_cases hR:j∈R
  ·exact clr_get hR
  ·have e:j=i:=by simpa [hR] using h
   subst e
   have gen:∀ {R} {M:List (Option α)},j∉R->at' (clr R M) j=at' M j:=by
    intro R
    induction R with
    | nil=>intro M _;rfl
    | cons r R ih =>
     intro M h
     rw [List.mem_cons,not_or] at h
     rw [clr,ih h.2]
     unfold at'
     rw [List.getElem?_set_ne (Ne.symm h.1)]
   rw [gen hR]
   unfold at'
   by_cases hl:j < L.length
   ·rw [List.getElem?_set_self hl];rfl
   ·rw [List.set_eq_of_length_le (by lia),List.getElem?_eq_none (by lia)];rfl
theorem back_perm:∀ {R} {B L:Ls},R.Nodup->(∀ j∈R,at' L j=none)->(∀ j∈R,j < L.length)->B.length=R.length->(sls (back R B L)).Perm (sls (B++L))
 | [],B,L,_,_,_,hl=>by
  have:B=[]:=by simpa using hl
  subst this
  simp [back]
 | j :: R,q :: B,L,hn,hz,hr,hl=>by
  rw [List.nodup_cons] at hn
  have ih:=back_perm (L:=L.set j q) hn.2 (fun i hi=>by
   have:j≠i:=fun e=>hn.1 (e▸hi)
   unfold at'
   rw [List.getElem?_set_ne this]
   exact hz i (List.mem_cons_of_mem _ hi)) (fun i hi=>by rw [List.length_set];exact hr i (List.mem_cons_of_mem _ hi)) (by simpa using hl)
  refine ih.trans ?_
  have sp:∀ {M} {i},at' M i=none->i < M.length->(sls (M.set i q)).Perm (sls (q :: M)):=by
   intro M
   induction M with
   | nil=>intro i _ h;simp at h
   | cons r M ihM =>
    intro i h1 h2
    cases i with
    | zero =>
     have:r=none:=by simpa [at'] using h1
     subst this
     cases q<;>simp [sls]
    | succ i =>
     have:=ihM (by simpa [at'] using h1) (by simpa using h2)
     cases r with
     | none=>cases q<;>simpa [sls] using this
     | some y =>
      cases q with
      | none=>simpa [sls] using this
      | some x =>
       exact (this.cons y).trans (List.Perm.swap ..)
  rw [sls_app]
  have h2:(sls B++sls _).Perm _:=(sp (hz j List.mem_cons_self) (hr j List.mem_cons_self)).append_left _
  refine h2.trans ?_
  cases q with
  | none=>simp
  | some x =>
   simp only [sls_app]
   exact List.perm_middle
end Q
namespace Q
open PySem PySem.Spec PyProof.Rows L2 L3
section
variable {K:PySem.W.Frag} {H H1 H2 H':Hp} {L L1 L' T:Ls} {x y:Sl}
theorem owned_perm (p:L.Perm L'):(owned L).Perm (owned L'):=p.flatMap_right _
theorem frozen_perm (p:L.Perm L'):(frozen L).Perm (frozen L'):=p.flatMap_right _
theorem World.perm (w:World K H L) (p:L.Perm L'):World K H L' :=
 ⟨fun x hx=>w.ok x (p.mem_iff.mpr hx),(owned_perm p).nodup_iff.mp w.nd,fun a ha hf=>w.ds a ((owned_perm p).mem_iff.mpr ha) ((frozen_perm p).mem_iff.mpr hf)⟩
theorem Step.perm (s : Step H L H' L') {M M' : Ls} (p : L.Perm M) (p' : L'.Perm M') : Step H M H' M' :=
  ⟨fun a ob h hn => s.keep a ob h fun z => hn ((owned_perm p).mem_iff.mp z),
   fun a ha => (s.own a ((owned_perm p').mem_iff.mpr ha)).imp (fun z => (owned_perm p).mem_iff.mp z) id,
   fun a ha => (s.frz a ((frozen_perm p').mem_iff.mpr ha)).imp (fun z => (frozen_perm p).mem_iff.mp z) fun z => z.imp (fun z => (owned_perm p).mem_iff.mp z) id⟩
theorem Step.frm (s:Step H L H' L'):Step H (L++T) H' (L'++T) where
 keep:=fun a ob h hn=>s.keep a ob h fun z=>hn (by rw [owned_app];exact List.mem_append_left _ z)
 own:=fun a ha=>by
  rw [owned_app] at ha ⊢
  rcases List.mem_append.mp ha with z | z
  ·exact (s.own a z).imp (List.mem_append_left _) id
  ·exact .inl (List.mem_append_right _ z)
 frz:=fun a ha=>by
  rw [frozen_app] at ha ⊢
  rw [owned_app]
  rcases List.mem_append.mp ha with z | z
  ·exact (s.frz a z).imp (List.mem_append_left _) fun z=>z.imp (List.mem_append_left _) id
  ·exact .inl (List.mem_append_right _ z)
theorem hold (w:World K H (T++L)) (s:Step H L H' L') (w':World K H' L'):World K H' (T++L')/\Step H (T++L) H' (T++L'):=by
 have w1:=w.comm
 exact ⟨(s.frame w1 w' w1.left).comm,s.frm.perm List.perm_append_comm List.perm_append_comm⟩
end
theorem ex8 {α β γ:Type} {P:Prop} {a b c d e:α->β->γ->Prop} (h:∃ x y z,a x y z/\b x y z/\c x y z/\d x y z/\e x y z) (f:∀ x y z,a x y z->b x y z->c x y z->d x y z->e x y z->P):P :=
 h.elim fun x h=>h.elim fun y h=>h.elim fun z h=>f x y z h.1 h.2.1 h.2.2.1 h.2.2.2.1 h.2.2.2.2
theorem ex7 {α β γ:Type} {P:Prop} {a b c d:α->β->γ->Prop} (h:∃ x y z,a x y z/\b x y z/\c x y z/\d x y z) (f:∀ x y z,a x y z->b x y z->c x y z->d x y z->P):P :=
 h.elim fun x h=>h.elim fun y h=>h.elim fun z h=>f x y z h.1 h.2.1 h.2.2.1 h.2.2.2
theorem pe_imp {X} {e} {t t'} (h:PE X e t) (w:∀ σ H Q,t' σ H Q->t σ H Q):PE X e t':=fun pins s σ H Q I q=>h pins s σ H Q I (w σ H Q q)
theorem pt_imp {X} {e} {t t'} (h:PT X e t) (w:∀ σ H Q,t' σ H Q->t σ H Q):PT X e t':=fun pins s σ H Q I q=>h pins s σ H Q I (w σ H Q q)
theorem ps_imp {X} {e} {t t'} (h:PS X e t) (w:∀ D σ H,t' D σ H->t D σ H):PS X e t':=fun pins s σ H D I q=>h pins s σ H D I (w D σ H q)
theorem pss_imp {X} {e} {t t'} (h:PSs X e t) (w:∀ D σ H,t' D σ H->t D σ H):PSs X e t':=fun pins s σ H D I q=>h pins s σ H D I (w D σ H q)
structure Fx0 where
 K:PySem.W.Frag
 mg:Str->Option Value
 EX:XK
noncomputable def Xc {α:Type} (Z:Fx0) (σ:L2.St) (H:Hp) (L:Ls) (r:Res α):Prop:=∀ E' c,r=.exc E' c->∀ C L' H',Z.mg c=some (.ref C)->Mt E' σ L'->World Z.K H' L'->Step H L H' L'->Z.EX (.ref C) none H'
theorem Xc.step {α} {Z} {σ} {H H1} {L L1} {r:Res α} (x:Xc Z σ H L r) (s:Step H L H1 L1):Xc Z σ H1 L1 r:=fun E' c e C L' H' hm m w s'=>x E' c e C L' H' hm m w (s.trans s')
theorem Xc.map {α β} {Z} {σ} {H} {L} {r:Res α} {E'} {c} (x:Xc Z σ H L r) (e:r=.exc E' c):Xc Z σ H L (.exc E' c:Res β):=fun E1 c1 e1=>by
 injection e1 with h1 h2
 subst h1 h2
 exact x _ _ e
noncomputable def tQ (Z:Fx0) (q:Bool) (c:Ex):TE:=fun σ H Q=>∃ E L r,Mt E σ L/\World Z.K H L/\c E=some r/\Xc Z σ H L r /\
 ∀ E' a,r=.ok E' a->∀ (x:Sl) L' H',x.o=a.1->x.d=a.2->Mt E' σ L'->World Z.K H' (some x :: L')->Step H L H' (some x :: L')->(q=true->Same H H'/\∀ b∈x.own,H b=none)->Q x.v H'
noncomputable def Src (H:Hp) (L:Ls) (as:List Addr):Prop:=∀ b∈as,b∈frozen L\/b∈owned L\/H b=none
theorem Src.back {H H1} {L L1} {as} (h:Src H1 L1 as) (s:Step H L H1 L1):Src H L as:=fun b hb=>by
 rcases h b hb with z | z | z
 ·exact s.frz b z
 ·exact .inr (s.own b z)
 ·by_cases ho:b∈owned L
  ·exact .inr (.inl ho)
  ·refine .inr (.inr ?_)
   cases e:H b with
   | none=>rfl
   | some ob=>rw [s.keep b ob e ho] at z;cases z
noncomputable def tV (Z:Fx0) (q:Bool) (c:Ex):TE:=fun σ H Q=>∃ E L r,Mt E σ L/\World Z.K H L/\c E=some r/\Xc Z σ H L r /\
 ∀ E' a,r=.ok E' a->∀ (x:Sl) L' H',x.o=a.1->x.d=a.2->Mt E' σ L'->World Z.K H' L'->x.ok Z.K H'->(∀ b∈x.frz,b∉owned L')->Src H L x.as->Step H L H' L'->(q=true->Same H H')->Q x.v H'
noncomputable def QE (X:Cx) (Z:Fx0) (q:Bool) (c:Ex) (e:Expr):Prop:=PE X e (tQ Z q c)
noncomputable def QV (X:Cx) (Z:Fx0) (q:Bool) (c:Ex) (e:Expr):Prop:=PE X e (tV Z q c)
section
variable {X:Cx} {Z:Fx0} {q qa qb:Bool} {a b c:Ex} {e ea eb:Expr} {pos:Pos} {α:Type} {σ:L2.St} {H:Hp} {L:Ls} {E:En}
theorem bnd_cases {β} {m} {F:En->α->Option _} {r:Res β} (h:bnd m F=some r):(∃ E1 x,m=some (.ok E1 x)/\F E1 x=some r)\/∃ E1 c,m=some (.exc E1 c)/\r=.exc E1 c:=by
 cases m with
 | none=>cases h
 | some q =>
  cases q with
  | ok E1 x=>exact .inl ⟨E1,x,rfl,h⟩
  | exc E1 c=>exact .inr ⟨E1,c,rfl,(Option.some.inj h).symm⟩
theorem qbind {F} {r:Res α} {G} (m:Mt E σ L) (w:World Z.K H L) (h:bnd (a E) F=some r) (xc:Xc Z σ H L r)
  (k:∀ E1 s,F E1 s=some r->∀ x L1 H1,x.o=s.1->x.d=s.2->Mt E1 σ L1->World Z.K H1 (some x :: L1)->Step H L H1 (some x :: L1)->(q=true->Same H H1/\∀ b∈x.own,H b=none)->G x.v H1):tQ Z q a σ H G:=by
 rcases bnd_cases h with ⟨E1,s,h1,h2⟩ | ⟨E1,c,h1,h2⟩
 ·exact ⟨E,L,_,m,w,h1,(fun _ _ z=>by cases z),fun E' s' z x L' H' e1 e2 m' w' st sm=>by
   injection z with z1 z2
   subst z1 z2
   exact k _ _ h2 x L' H' e1 e2 m' w' st sm⟩
 ·exact ⟨E,L,_,m,w,h1,xc.map h2,fun E' s' z=>by cases z⟩
theorem vbind {F} {r:Res α} {G} (m:Mt E σ L) (w:World Z.K H L) (h:bnd (a E) F=some r) (xc:Xc Z σ H L r)
  (k:∀ E1 s,F E1 s=some r->∀ (x:Sl) L1 H1,x.o=s.1->x.d=s.2->Mt E1 σ L1->World Z.K H1 L1->x.ok Z.K H1->(∀ b∈x.frz,b∉owned L1)->Src H L x.as->Step H L H1 L1->(q=true->Same H H1)->G x.v H1):tV Z q a σ H G:=by
 rcases bnd_cases h with ⟨E1,s,h1,h2⟩ | ⟨E1,c,h1,h2⟩
 ·exact ⟨E,L,_,m,w,h1,(fun _ _ z=>by cases z),fun E' s' z x L' H' e1 e2 m' w' ok fr sr st sm=>by
   injection z with z1 z2
   subst z1 z2
   exact k _ _ h2 x L' H' e1 e2 m' w' ok fr sr st sm⟩
 ·exact ⟨E,L,_,m,w,h1,xc.map h2,fun E' s' z=>by cases z⟩
theorem view_keep {x:Sl} {K} {H1 H2} {L1 L2'} (ok:x.ok K H1) (fr:∀ b∈x.frz,b∉owned L1) (st:Step H1 L1 H2 L2') (sm:Same H1 H2):x.ok K H2/\∀ b∈x.frz,b∉owned L2' :=
 ⟨RepO.kp ok (Kp.of_same sm),fun b hb ho=>(st.own b ho).elim (fr b hb) fun z=>ok.some (Sl.frz_as hb) z⟩
theorem val_inv {x} {r:Res α} (h:val E x=some r):∃ y,x=some y/\r=.ok E y:=by
 cases x with
 | none=>cases h
 | some y=>exact ⟨y,rfl,(Option.some.inj h).symm⟩
theorem src_held {x} {H1} {L1:Ls} (st:Step H L H1 (some x :: L1)):Src H L x.as:=fun b hb=>by
 rcases Sl.as_of hb with z | z
 ·exact .inr (st.own b (List.mem_append_left _ z))
 ·exact st.frz b (by rw [frozen_some];exact List.mem_append_left _ z)
theorem q_vE (h:QE X Z q c e):QV X Z q (vE c) e:=pe_imp h fun σ H Q h_z=>ex8 h_z fun E L r m w hc xc k =>
 qbind m w hc xc fun E1 s h1 x L1 H1 e1 e2 m1 w1 st sm=>by
  cases Option.some.inj h1
  exact k _ _ rfl x.let L1 H1 rfl e2 m1 w1.tail (let_ok w1.head) (fun b hb=>w1.apart b hb) (src_held (x:=x) st) (st.trans Step.drop) fun hq=>(sm hq).1
theorem stepNo {x} {H1} {L1} (st:Step H L H1 L1) (sr:Src H L x.as) (ho:x.own=[]):Step H L H1 (some x :: L1) where
 keep:=st.keep
 own:=fun b hb=>by rw [owned_some,ho] at hb;exact st.own b hb
 frz:=fun b hb=>by
  rcases List.mem_append.mp hb with z | z
  ·exact sr b (Sl.frz_as z)
  ·exact st.frz b z
theorem own_no {x:Sl} (h:x.o=.no):x.own=[]:=by unfold Sl.own;rw [h]
theorem frz_no {x:Sl} (h:x.o=.no):x.frz=x.as:=by unfold Sl.frz;rw [h]
theorem own_nil {x:Sl} (h:x.as=[]):x.own=[]:=List.eq_nil_iff_forall_not_mem.mpr fun a ha=>by have:=Sl.own_as ha;rw [h] at this;exact nomatch this
theorem q_cH (h:QV X Z q c e):QE X Z q (cH c) e:=pe_imp h fun σ H Q h_z=>ex8 h_z fun E L r m w hc xc k =>
 vbind m w hc xc fun E1 s h1 x L1 H1 e1 e2 m1 w1 ok fr sr st sm=>by
  by_cases ho:s.1=.no
  ·rw [if_pos ho] at h1
   cases Option.some.inj h1
   have eo:=e1.trans ho
   exact k _ _ rfl x L1 H1 eo e2 m1 (w1.consNo ok eo fun b hb=>fr b (frz_no eo▸hb)) (stepNo st sr (own_no eo)) fun hq=>⟨sm hq,by rw [own_no eo];exact fun _ z=>(nomatch z)⟩
  ·rw [if_neg ho] at h1
   by_cases hp:s.2.pure=true
   ·rw [if_pos hp] at h1
    cases Option.some.inj h1
    obtain ⟨z,rp⟩:=RepL.pu (g':=false) (RepO.wk ok) (by simp_all)
    exact k _ _ rfl ⟨.dp,x.d,x.v,[]⟩ L1 H1 rfl e2 m1 (w1.consPu rp rfl) (stepNo st (fun b hb=>nomatch hb) rfl) fun hq=>⟨sm hq,fun _ z=>(nomatch z)⟩
   ·simp_all
theorem q_C {d} {v} (h:PE X e (tC v)) (hr:∀ H,RepL Z.K H false d v []):QE X Z true (cC d) e:=pe_imp h fun σ H Q h_z=>ex8 h_z fun E L r m w hc xc k=>by
 cases Option.some.inj hc
 exact k _ _ rfl ⟨.dp,d,v,[]⟩ L H rfl rfl m (w.consPu (hr H) rfl) (stepNo Step.refl (fun b hb=>nomatch hb) rfl) fun _=>⟨fun _ _ z=>z,fun _ z=>(nomatch z)⟩
theorem q_V {i} (h:PE X e (tVar i)):QE X Z true (cV i) e:=pe_imp h fun σ H Q h_z=>ex8 h_z fun E L r m w hc xc k=>by
 unfold cV at hc
 split at hc
 ·rename_i o d hE
  cases Option.some.inj hc
  obtain ⟨x,h1,h2,h3,h4⟩:=m.get hE
  refine ⟨x.v,h4,k _ _ rfl x.let _ H rfl h3 ?_ (w.read h1) (Step.read h1) fun _=>⟨fun _ _ z=>z,fun _ z=>(nomatch z)⟩⟩
  have:=m.let h1
  rwa [h3] at this
 ·cases hc
theorem mt_none:∀ {E} {σ} {L} j,Mt E σ L->Mt (E.set j none) σ (L.set j none):=by
 intro E σ L j m
 induction m generalizing j with
 | nil=>exact .nil
 | un m ih=>cases j with
  | zero=>exact .un m
  | succ j=>exact .un (ih j)
 | cons m ih=>cases j with
  | zero=>exact .un m
  | succ j=>exact .cons (ih j)
theorem perm_take {x}:∀ {L:Ls} {i},L[i]?=some (some x)->(none :: L).Perm (some x :: L.set i none)
 | [],_,h=>by simp_all
 | q :: L,0,h=>by
  have e:q=some x:=by simpa using h
  subst e
  exact List.Perm.swap ..
 | q :: L,i + 1,h=>by
  have:=perm_take (L:=L) (by simpa using h)
  exact (List.Perm.swap ..).trans ((this.cons q).trans (List.Perm.swap ..))
theorem q_mv {i} (h:PE X e (tVar i)):QE X Z false (cMv i) e:=pe_imp h fun σ H Q h_z=>ex8 h_z fun E L r m w hc xc k=>by
 unfold cMv at hc
 split at hc
 ·rename_i s hE
  cases Option.some.inj hc
  obtain ⟨x,h1,h2,h3,h4⟩:=m.get hE
  have wn:World Z.K H (none :: L):=⟨fun y hy=>w.ok y (by simp_all),by simpa using w.nd,by simpa using w.ds⟩
  have sn:Step H L H (none :: L):=⟨fun _ _ z _=>z,fun a z=>.inl (by simp_all),fun a z=>.inl (by simp_all)⟩
  exact ⟨x.v,h4,k _ _ rfl x _ H h2 h3 (mt_none i m) (wn.perm (perm_take h1)) (sn.trans (Step.refl.perm (List.Perm.refl _) (perm_take h1))) fun z=>(nomatch z)⟩
 ·cases hc
theorem q_vV {i} (h:PE X e (tVar i)):QV X Z true (vV i) e:=pe_imp h fun σ H Q h_z=>ex8 h_z fun E L r m w hc xc k=>by
 unfold vV at hc
 split at hc
 ·rename_i s hE
  cases Option.some.inj hc
  obtain ⟨x,h1,h2,h3,h4⟩:=m.get hE
  have hx:=getD_mem h1
  refine ⟨x.v,h4,k _ _ rfl x L H h2 h3 m w (w.ok x hx) (fun b hb ho=>w.ds b ho (mem_frozen.mpr ⟨x,hx,hb⟩)) (fun b hb=>?_) Step.refl fun _=>fun _ _ z=>z⟩
  rcases Sl.as_of hb with z | z
  ·exact .inr (.inl (mem_owned.mpr ⟨x,hx,z⟩))
  ·exact .inl (mem_frozen.mpr ⟨x,hx,z⟩)
 ·cases hc
structure Out (K:PySem.W.Frag) (H H':Hp) (z:Sl) (fr:List Addr):Prop where
 same:Same H H'
 ok:z.ok K H'
 new:∀ b∈z.own,H b=none
 nd:z.own.Nodup
 fr:∀ b∈z.frz,b∈fr
noncomputable def Ad1 (K:PySem.W.Frag) (r:V->Hp->VK->Prop) (f:Sd->Option Sd):Prop:=∀ (H:Hp) (x:Sl) (s:Sd) (Q:VK),x.ok K H->f (x.o,x.d)=some s->(∀ (z:Sl) H',z.o=s.1->z.d=s.2->Out K H H' z x.frz->Q z.v H')->r x.v H Q
noncomputable def Ad2 (K:PySem.W.Frag) (r:R2) (f:Sd->Sd->Option Sd):Prop:=∀ (H:Hp) (x y:Sl) (s:Sd) (Q:VK),x.ok K H->y.ok K H->f (x.o,x.d) (y.o,y.d)=some s->(∀ (z:Sl) H',z.o=s.1->z.d=s.2->Out K H H' z (x.frz++y.frz)->Q z.v H')->r x.v y.v H Q
theorem out_pure {K} {H H'} {d} {v} {fr} (s:Same H H') (r:RepL K H' false d v []):Out K H H' ⟨.dp,d,v,[]⟩ fr:=⟨s,r,fun _ h=>(nomatch h),List.nodup_nil,fun _ h=>(nomatch h)⟩
theorem same_refl {H}:Same H H:=fun _ _ z=>z
theorem same_trans {H H1 H2} (a:Same H H1) (b:Same H1 H2):Same H H2:=fun c ob h=>b c ob (a c ob h)
theorem out_world {z} {fr} {H1 H2} {L1} (w:World Z.K H1 L1) (st:Step H L H1 L1) (o:Out Z.K H1 H2 z fr) (ap:∀ b∈fr,b∉owned L1) (al:∀ b∈fr,H1 b≠none) (sr:Src H L fr) :
  World Z.K H2 (some z :: L1)/\Step H L H2 (some z :: L1):=by
 have w2:World Z.K H2 L1:=⟨fun x hx=>RepO.kp (w.ok x hx) (Kp.of_same o.same),w.nd,w.ds⟩
 refine ⟨w2.cons o.ok o.nd (fun b hb ho=>w.own_some ho (o.new b hb)) (fun b hb hf=>w.frz_some hf (o.new b hb)) (fun b hb=>ap b (o.fr b hb)) (fun b hb hf=>al b (o.fr b hf) (o.new b hb)),(⟨fun b ob h hn=>o.same b ob (st.keep b ob h hn),fun b hb=>?_,fun b hb=>?_⟩)⟩
 ·rcases List.mem_append.mp hb with z | z
  ·by_cases ho:b∈owned L
   ·exact .inl ho
   ·refine .inr ?_
    cases e:H b with
    | none=>rfl
    | some ob=>have:=o.new b z;rw [st.keep b ob e ho] at this;cases this
  ·exact st.own b z
 ·rcases List.mem_append.mp hb with z | z
  ·exact sr b (o.fr b z)
  ·exact st.frz b z
theorem src_mono {as bs} (h:Src H L as) (hb:∀ b∈bs,b∈as):Src H L bs:=fun b z=>h b (hb b z)
theorem src_app {as bs} (h:Src H L as) (h':Src H L bs):Src H L (as++bs):=fun b z=>(List.mem_append.mp z).elim (h b) (h' b)
theorem none_back {H H1} {b} (s:Same H H1) (h:H1 b=none):H b=none:=by
 cases e:H b with
 | none=>rfl
 | some ob=>rw [s b ob e] at h;cases h
theorem ad1_read {r} {f} (ad:Ad1 Z.K r f) {Q} (h:tQ Z q (cF1 f a) σ H Q):tUn r (tV Z q a) σ H Q:=by
 obtain ⟨E,L,R,m,w,hc,xc,k⟩:=h
 refine vbind m w hc xc fun E1 s h1 x L1 H1 e1 e2 m1 w1 ok fr sr st sm=>?_
 obtain ⟨z,hz,rfl⟩:=val_inv h1
 refine ad H1 x z Q ok (by simp_all) fun y H' ho hd o=>?_
 obtain ⟨w3,st3⟩:=out_world w1 st o fr (fun b hb=>ok.some (Sl.frz_as hb)) (src_mono sr fun b hb=>Sl.frz_as hb)
 exact k _ _ rfl y L1 H' ho hd m1 w3 st3 fun hq=>⟨same_trans (sm hq) o.same,fun b hb=>none_back (sm hq) (o.new b hb)⟩
theorem ad2_read {r} {f} (ad:Ad2 Z.K r f) {Q} (h:tQ Z qa (cF2 f a b) σ H Q):tOp r (tV Z qa a) (tV Z true b) σ H Q:=by
 obtain ⟨E,L,R,m,w,hc,xc,k⟩:=h
 refine vbind m w hc xc fun E1 s h1 x L1 H1 e1 e2 m1 w1 ok fr sr st sm=>(vbind m1 w1 h1 (xc.step st) fun E2 s2 h2 y L2 H2 e3 e4 m2 w2 ok2 fr2 sr2 st2 sm2=>?_)
 obtain ⟨z,hz,rfl⟩:=val_inv h2
 have kx:=view_keep ok fr st2 (sm2 rfl)
 refine ad H2 x y z Q kx.1 ok2 (by simp_all) fun y' H' ho hd o=>?_
 obtain ⟨w3,st3⟩:=out_world w2 (st.trans st2) o (fun b hb=>(List.mem_append.mp hb).elim (kx.2 b) (fr2 b)) (fun b hb=>(List.mem_append.mp hb).elim (fun z=>kx.1.some (Sl.frz_as z)) fun z=>ok2.some (Sl.frz_as z))
  (src_app (src_mono sr fun b hb=>Sl.frz_as hb) (src_mono (sr2.back st) fun b hb=>Sl.frz_as hb))
 exact k _ _ rfl y' L2 H' ho hd m2 w3 st3 fun hq=>⟨same_trans (sm hq) (same_trans (sm2 rfl) o.same),fun b hb=>none_back (same_trans (sm hq) (sm2 rfl)) (o.new b hb)⟩
theorem q_op {op} {r} {f} (ho:OpR X (binaryOp op) r) (ad:Ad2 Z.K r f) (ha:QV X Z qa a ea) (hb:QV X Z true b eb):QE X Z qa (cF2 f a b) (.BinOp ea op eb pos) :=
 pe_imp (pe_op ho ha hb) fun σ H Q h=>ad2_read ad h
theorem q_cmp {op} {r} {f} (ho:OpR X (compareOp op) r) (ad:Ad2 Z.K r f) (ha:QV X Z qa a ea) (hb:QV X Z true b eb) (hm:behindInMarks op eb=false):QE X Z qa (cF2 f a b) (.Compare ea [op] [eb] pos) :=
 pe_imp (pe_cmpR ho ha hb hm) fun σ H Q h=>ad2_read ad h
theorem q_un {op:UnaryOp} {r:V->Hp->VK->Prop} {f:Sd->Option Sd} (ho:UnR X (unaryOp op) r) (ad:Ad1 Z.K r f) (ha:QV X Z q a ea):QE X Z q (cF1 f a) (.UnaryOp op ea pos) :=
 pe_imp (pe_un ho ha) fun σ H Q h=>ad1_read ad h
theorem RepA.get {K} {H} {g}:∀ {ds} {xs} {as} {i:Nat} {d},RepA K H g ds xs as->ds[i]?=some d->∃ v bs,xs[i]?=some v/\RepL K H g d v bs/\∀ b∈bs,b∈as
 | [],_,_,_,_,_,e=>by simp_all
 | d :: ds,_,_,i,d',h,e=>by
  obtain ⟨x,r,bs,cs,rfl,rfl,h1,h2⟩:=h
  cases i with
  | zero =>
   have e:d=d':=by simpa using e
   subst e
   exact ⟨x,bs,by simp,h1,fun b hb=>List.mem_append_left _ hb⟩
  | succ i =>
   obtain ⟨v,bs',e1,e2,e3⟩:=RepA.get h2 (by simpa using e)
   exact ⟨v,bs',by simpa using e1,e2,fun b hb=>List.mem_append_right _ (e3 b hb)⟩
theorem RepA.len {K} {H} {g}:∀ {ds} {xs} {as},RepA K H g ds xs as->ds.length=xs.length
 | [],_,_,h=>by rw [h.1];rfl
 | d :: ds,_,_,h=>by
  obtain ⟨x,r,bs,cs,rfl,rfl,h1,h2⟩:=h
  simp [RepA.len h2]
theorem items {K} {H} {x:Sl} {ds} (ok:x.ok K H) (h:x.d=.lst ds\/x.d=.tup ds):∃ a xs bs,x.v=.ref a/\((x.d=.lst ds/\LsR K H a xs)\/(x.d=.tup ds/\SqT K H a xs))/\RepA K H (x.o != .dp) ds xs bs/\(∀ b∈bs,b∈x.as)/\(x.o≠.dp->∀ b∈bs,b∈x.frz):=by
 obtain ⟨o,d,v,as⟩:=x
 rcases h with rfl | rfl
 ·cases o with
  | no =>
   have ok:RepL K H true _ v as:=ok
   obtain ⟨a,xs,bs,rfl,r,q⟩:=ok
   rcases q with ⟨q,rfl⟩ | ⟨_,q,rfl⟩
   ·exact ⟨a,xs,bs,rfl,.inl ⟨rfl,.inl (.inl q)⟩,r,fun b hb=>List.mem_cons_of_mem _ hb,fun _ b hb=>List.mem_cons_of_mem _ hb⟩
   ·exact ⟨a,xs,as,rfl,.inl ⟨rfl,.of q⟩,r,fun b hb=>hb,fun _ b hb=>hb⟩
  | rt =>
   obtain ⟨a,xs,bs,rfl,r,q,rfl⟩:=(ok)
   exact ⟨a,xs,bs,rfl,.inl ⟨rfl,.inl (.inl q)⟩,r,fun b hb=>List.mem_cons_of_mem _ hb,fun _ b hb=>by simpa [Sl.frz] using hb⟩
  | dp =>
   have ok:RepL K H false _ v as:=ok
   obtain ⟨a,xs,bs,rfl,r,q⟩:=ok
   rcases q with ⟨q,rfl⟩ | ⟨z,_⟩
   ·exact ⟨a,xs,bs,rfl,.inl ⟨rfl,.inl (.inl q)⟩,r,fun b hb=>List.mem_cons_of_mem _ hb,fun z=>absurd rfl z⟩
   ·grind
 ·cases o with
  | no =>
   have ok:=ok
   obtain ⟨a,xs,rfl,q,r⟩:=ok
   exact ⟨a,xs,as,rfl,.inr ⟨rfl,q⟩,r,fun b hb=>hb,fun _ b hb=>hb⟩
  | rt=>exact (ok).elim
  | dp =>
   obtain ⟨a,xs,rfl,q,r⟩:=ok
   exact ⟨a,xs,as,rfl,.inr ⟨rfl,q⟩,r,fun b hb=>hb,fun z=>absurd rfl z⟩
theorem items_loose {K} {H} {x:Sl} {ds} (ok:x.ok K H) (h:x.d=.lst ds\/x.d=.tup ds) (hl:loose (x.o,x.d)=true):∃ a xs bs,x.v=.ref a/\((x.d=.lst ds/\LsR K H a xs)\/(x.d=.tup ds/\SqT K H a xs))/\RepA K H true ds xs bs/\(∀ b∈bs,b∈x.frz):=by
 obtain ⟨a,xs,bs,e,q,r,h1,h2⟩:=items ok h
 by_cases ho:x.o=.dp
 ·have hp:D.pures ds=true:=by
   unfold loose at hl
   rw [show (x.o,x.d).1=Own.dp from ho] at hl
   have:kids x.d=ds:=by rcases h with h | h<;>rw [h]<;>rfl
   simpa [this] using hl
  obtain ⟨rfl,r'⟩:=RepA.pu (g':=true) r hp
  exact ⟨a,xs,[],e,q,r',fun _ z=>nomatch z⟩
 ·have:(x.o != Own.dp)=true:=by simpa using ho
  rw [this] at r
  exact ⟨a,xs,bs,e,q,r,h2 ho⟩
end
end Q
namespace Q
open PySem PySem.Spec PyProof.Rows L2 L3
section
variable {K:PySem.W.Frag} {H:Hp} {x y:Sl}
theorem of_int {i} (ok:x.ok K H) (h:x.d=.int i):x.v=.int i:=by
 have:=RepO.wk ok
 rw [h] at this
 exact this.1
theorem of_bl {i} (ok:x.ok K H) (h:x.d=.bl i):x.v=.bl i:=by
 have:=RepO.wk ok
 rw [h] at this
 exact this.1
theorem of_non (ok:x.ok K H) (h:x.d=.non):x.v=.non:=by
 have:=RepO.wk ok
 rw [h] at this
 exact this.1
theorem of_str {z} (ok:x.ok K H) (h:x.d=.str z):x.v=.str z/\z.length<=sizeLine:=by
 have:=RepO.wk ok
 rw [h] at this
 exact ⟨this.1,this.2.2⟩
theorem rep_int {i} {g}:RepL K H g (.int i) (.int i) []:=⟨rfl,rfl⟩
theorem rep_bl {i} {g}:RepL K H g (.bl i) (.bl i) []:=⟨rfl,rfl⟩
theorem rep_non {g}:RepL K H g .non .non []:=⟨rfl,rfl⟩
theorem rep_str {z} {g} (h:z.length<=sizeLine):RepL K H g (.str z) (.str z) []:=⟨rfl,rfl,h⟩
theorem outI {i} {fr}:Out K H H ⟨.dp,.int i,.int i,[]⟩ fr:=out_pure same_refl rep_int
theorem outB {i} {fr}:Out K H H ⟨.dp,.bl i,.bl i,[]⟩ fr:=out_pure same_refl rep_bl
theorem outS {z} {fr} (h:z.length<=sizeLine):Out K H H ⟨.dp,.str z,.str z,[]⟩ fr:=out_pure same_refl (rep_str h)
theorem ad_i2 {C} {g:Int->Int->Int} {f} (h:∀ i j k,f i j=some k->C i j/\k=g i j):Ad2 K (rI C fun i j=>.int (g i j)) (pu2 (i2 f)):=by
 intro H x y s Q ox oy hf k
 unfold pu2 i2 at hf
 dsimp only at hf
 split at hf
 ·rename_i i j e1 e2
  cases hk:f i j with
  | none=>rw [hk] at hf;cases hf
  | some n =>
   rw [hk] at hf
   cases Option.some.inj hf
   obtain ⟨hc,rfl⟩:=h i j n hk
   exact ⟨i,j,of_int ox e1,of_int oy e2,hc,k _ H rfl rfl outI⟩
 ·cases hf
theorem ad_i0 {g:Int->Int->Int} {f} (h:∀ i j,f i j=some (g i j)):Ad2 K (rI0 fun i j=>.int (g i j)) (pu2 (i2 f)):=by
 intro H x y s Q ox oy hf k
 unfold pu2 i2 at hf
 dsimp only at hf
 split at hf
 ·rename_i i j e1 e2
  rw [h] at hf
  cases Option.some.inj hf
  exact ⟨i,j,of_int ox e1,of_int oy e2,k _ H rfl rfl outI⟩
 ·cases hf
theorem ad_c2 {g}:Ad2 K (rI0 fun i j=>.bl (g i j)) (pu2 (c2 g)):=by
 intro H x y s Q ox oy hf k
 unfold pu2 c2 at hf
 dsimp only at hf
 split at hf
 ·rename_i i j e1 e2
  cases Option.some.inj hf
  exact ⟨i,j,of_int ox e1,of_int oy e2,k _ H rfl rfl outB⟩
 ·cases hf
theorem ad_sub:Ad2 K (rI0 fun i j=>.int (i - j)) (pu2 fSub):=ad_i0 fun _ _=>rfl
theorem ad_div:Ad2 K (rI CDivB fun i j=>.int (i / j)) (pu2 fDiv):=ad_i2 fun i j k h=>by
 split at h
 ·rename_i c;exact ⟨c,(Option.some.inj h).symm⟩
 ·grind
theorem ad_mod:Ad2 K (rI (fun _ j=>0 < j) fun i j=>.int (i % j)) (pu2 fMod):=ad_i2 fun i j k h=>by
 split at h
 ·rename_i c;exact ⟨c,(Option.some.inj h).symm⟩
 ·grind
theorem ad_pow:Ad2 K (rI CPow fun i j=>.int (i ^ j.toNat)) (pu2 fPow):=ad_i2 fun i j k h=>by
 split at h
 ·rename_i c;exact ⟨c,(Option.some.inj h).symm⟩
 ·grind
theorem ad_shl:Ad2 K (rI CPow fun i j=>.int (i * 2 ^ j.toNat)) (pu2 fShl):=ad_i2 fun i j k h=>by
 split at h
 ·rename_i c;exact ⟨c,(Option.some.inj h).symm⟩
 ·grind
end
noncomputable def rCatL (K:PySem.W.Frag):R2:=fun x y H Q=>∃ l b xs zs,x=.ref l/\y=.ref b/\LsR K H l xs/\LsR K H b zs/\xs.length + zs.length<=sizeLine/\∀ p,H p=none->Q (.ref p) (upd H p (.lst (xs++zs)))
theorem op_catL {X}:OpR X (binaryOp .Add) (rCatL X.K):=by
 rintro pins s σ H x y v u Q I rx ry ⟨l,b,xs,zs,rfl,rfl,hH,hB,hz,q⟩
 cases rx
 cases ry
 obtain ⟨z,its,n,r,e⟩:=hH.is I
 obtain ⟨z2,its2,n2,r2,e2⟩:=hB.is I
 have hl:=r.length
 have hl2:=r2.length
 refine PySem.P.add_list e e2 ?_ (by rw [List.size_toArray,List.size_toArray];lia)
 have ea:its.toArray++its2.toArray=(its++its2).toArray:=by simp
 rw [ea]
 exact ⟨.ref _,_,I.lnew (t':=s.toks) (r.append r2) (by rw [List.length_append];lia),rfl,q _ I.fresh⟩
noncomputable def rCatE (K:PySem.W.Frag):R2:=fun x y H Q=>∃ a b ys,x=.ref a/\y=.ref b/\SqT K H a []/\SqT K H b ys/\Q (.ref b) H
theorem op_catE {X}:OpR X (binaryOp .Add) (rCatE X.K):=by
 rintro pins s σ H x y v u Q I rx ry ⟨a,b,ys,rfl,rfl,ha,hb,q⟩
 cases rx
 cases ry
 obtain ⟨its,r1,p1,_⟩:=I.tuple ha
 obtain ⟨its2,r2,p2,_⟩:=I.tuple hb
 obtain ⟨⟨cls,dd,data,sl⟩,ho,hc,n,hd⟩:=id p1
 obtain ⟨⟨cls2,dd2,data2,sl2⟩,ho2,hc2,n2,hd2⟩:=id p2
 subst hc hd hc2 hd2
 have e:=r1.nil_iff.mpr rfl
 subst e
 exact concat_meets ⟨_,ho,rfl⟩ ⟨_,ho2,rfl⟩ noFill_tuple_add seq_tuple_add PySem.F.slot_tuple_add PySem.F.entry_tuple_add (PySem.F.args_tuple_add_2 _ _)
   (tuple_addW0 a b [].toArray its2.toArray n n2 dd dd2 sl sl2 (by simp)) ⟨ho,ho2,⟨.ref b,H,I,rfl,q⟩⟩
noncomputable def rAddQ (K:PySem.W.Frag):R2:=fun x y H Q=>rI0 (fun i j=>.int (i + j)) x y H Q\/(∃ i j,x=.str i/\y=.str j/\i.length + j.length<=sizeLine/\Q (.str (i++j)) H)\/rCatL K x y H Q\/rCatE K x y H Q\/rCatT K x y H Q
theorem opAddQ {X} {K} (hK:X.K=K):OpR X (binaryOp .Add) (rAddQ K):=by subst hK;exact op_add.or (op_add_str.or (op_catL.or (op_catE.or op_catT)))
theorem RepA.app {K} {H} {g} {ds'} {xs'} {bs'} (h':RepA K H g ds' xs' bs'):∀ {ds} {xs} {as},RepA K H g ds xs as->RepA K H g (ds++ds') (xs++xs') (as++bs')
 | [],_,_,h=>by rw [h.1,h.2];exact h'
 | d :: ds,_,_,h=>by
  obtain ⟨x,r,bs,cs,rfl,rfl,h1,h2⟩:=h
  rw [List.cons_append]
  exact ⟨x,r++xs',bs,cs++bs',rfl,by rw [List.append_assoc],h1,RepA.app h' h2⟩
theorem same_upd {H} {p} {o} (h:H p=none):Same H (upd H p o):=fun b u q=>by rw [upd_ne (ne_of_none q h)];exact q
theorem out_lst {K} {H} {p} {ds} {xs} {bs fr} (hp:H p=none) (r:RepA K H true ds xs bs) (hb:∀ b∈bs,b∈fr):Out K H (upd H p (.lst xs)) ⟨.rt,.lst ds,.ref p,p :: bs⟩ fr:=by
 refine ⟨same_upd hp,⟨p,xs,bs,rfl,r.kp (Kp.of_same (same_upd hp)),upd_same,rfl⟩,fun b hb=>?_,?_,fun b hb'=>hb b (by simpa [Sl.frz] using hb')⟩
 ·have:b=p:=by simpa [Sl.own] using hb
  rw [this];exact hp
 ·simp [Sl.own]
theorem out_tup {K} {H} {p} {ds} {xs} {bs fr} (hp:H p=none) (r:RepA K H true ds xs bs) (hb:∀ b∈bs,b∈fr):Out K H (upd H p (.tup xs)) ⟨.no,.tup ds,.ref p,bs⟩ fr:=by
 refine ⟨same_upd hp,?_,fun b hb=>(nomatch hb),List.nodup_nil,fun b hb'=>hb b hb'⟩
 show RepL K _ true _ _ bs
 exact ⟨p,xs,rfl,SqT.of upd_same,r.kp (Kp.of_same (same_upd hp))⟩
theorem ad_add {K}:Ad2 K (rAddQ K) fAdd:=by
 intro H x y s Q ox oy hf k
 unfold fAdd at hf
 dsimp only at hf
 split at hf
 ·rename_i i j e1 e2
  cases Option.some.inj hf
  exact .inl ⟨i,j,of_int ox e1,of_int oy e2,k _ H rfl rfl outI⟩
 ·rename_i i j e1 e2
  split at hf
  ·rename_i hl
   cases Option.some.inj hf
   have hl':(i++j).length<=sizeLine:=by rw [strLen_append];exact hl
   exact .inr (.inl ⟨i,j,(of_str ox e1).1,(of_str oy e2).1,hl,k _ H rfl rfl (outS hl')⟩)
  ·cases hf
 ·rename_i i j e1 e2
  split at hf
  ·rename_i hl
   cases Option.some.inj hf
   obtain ⟨a,xs,bs,e3,q3,r3,h3⟩:=items_loose ox (.inl e1) hl.2.1
   obtain ⟨b,ys,cs,e4,q4,r4,h4⟩:=items_loose oy (.inl e2) hl.2.2
   have q3:LsR K H a xs:=by rcases q3 with ⟨_,z⟩ | ⟨z,_⟩;exact z;rw [e1] at z;cases z
   have q4:LsR K H b ys:=by rcases q4 with ⟨_,z⟩ | ⟨z,_⟩;exact z;rw [e2] at z;cases z
   exact .inr (.inr (.inl ⟨a,b,xs,ys,e3,e4,q3,q4,by rw [← r3.len,← r4.len];exact hl.1,fun p hp=>(k _ _ rfl rfl (out_lst hp (r4.app r3) fun b hb=>(List.mem_append.mp hb).elim (fun z=>List.mem_append_left _ (h3 b z)) fun z=>List.mem_append_right _ (h4 b z)))⟩))
  ·cases hf
 ·rename_i i j e1 e2
  split at hf
  ·rename_i hl
   cases Option.some.inj hf
   obtain ⟨a,xs,bs,e3,q3,r3,h3⟩:=items_loose ox (.inr e1) hl.2.1
   obtain ⟨b,ys,cs,e4,q4,r4,h4⟩:=items_loose oy (.inr e2) hl.2.2
   have q3:SqT K H a xs:=by rcases q3 with ⟨z,_⟩ | ⟨_,z⟩;rw [e1] at z;cases z;exact z
   have q4:SqT K H b ys:=by rcases q4 with ⟨z,_⟩ | ⟨_,z⟩;rw [e2] at z;cases z;exact z
   have ap:=r4.app r3
   have hfr:=fun b hb=>(List.mem_append.mp hb).elim (fun z=>List.mem_append_left _ (h3 b z)) fun z=>List.mem_append_right _ (h4 b z)
   have same:∀ c zs,zs=xs++ys->SqT K H c zs->Q (.ref c) H:=fun c zs e hq=>by
    refine k ⟨.no,.tup _,.ref c,bs++cs⟩ H rfl rfl ⟨same_refl,?_,fun b hb=>(nomatch hb),List.nodup_nil,hfr⟩
    show RepL K H true _ _ _
    exact ⟨c,zs,rfl,hq,by rw [e];exact ap⟩
   by_cases hx:xs=[]
   ·subst hx
    exact .inr (.inr (.inr (.inl ⟨a,b,ys,e3,e4,q3,q4,same b ys rfl q4⟩)))
   ·refine .inr (.inr (.inr (.inr ⟨a,b,xs,ys,e3,e4,q3,q4,hx,by rw [← r3.len,← r4.len];exact hl.1,fun hy=>?_,fun hy p hp=>?_⟩)))
    ·exact same a xs (by rw [hy,List.append_nil]) q3
    ·exact k _ _ rfl rfl (out_tup hp ap hfr)
  ·cases hf
 ·cases hf
end Q
namespace Q
open PySem PySem.Spec PyProof.Rows L2 L3
noncomputable def tT (Z:Fx0) (q:Bool) (c:Ts):TT:=fun σ H Q=>∃ E L r,Mt E σ L/\World Z.K H L/\c E=some r/\Xc Z σ H L r /\
 ∀ E' k,r=.ok E' k->∀ L' H',Mt E' σ L'->World Z.K H' L'->Step H L H' L'->(q=true->Same H H')->Q k H'
noncomputable def QT (X:Cx) (Z:Fx0) (q:Bool) (c:Ts) (e:Expr):Prop:=PT X e (tT Z q c)
noncomputable def QW (X:Cx) (Z:Fx0) (q:Bool) (c:Ts) (e:Expr):Prop:=PW X e (tT Z q c)
section
variable {X:Cx} {Z:Fx0} {q qa qb:Bool} {a b c:Ex} {u v:Ts} {e ea eb:Expr} {es:List Expr} {pos:Pos} {α β:Type} {σ:L2.St} {H:Hp} {L:Ls} {E:En}
theorem pw_imp {e} {t t'} (h:PW X e t) (w:∀ σ H Q,t' σ H Q->t σ H Q):PW X e t':=fun wh pins s σ H Q I q=>h wh pins s σ H Q I (w σ H Q q)
theorem tbind {F} {r:Res α} {G} (m:Mt E σ L) (w:World Z.K H L) (h:bnd (u E) F=some r) (xc:Xc Z σ H L r)
  (k:∀ E1 s,F E1 s=some r->∀ L1 H1,Mt E1 σ L1->World Z.K H1 L1->Step H L H1 L1->(q=true->Same H H1)->G s H1):tT Z q u σ H G:=by
 rcases bnd_cases h with ⟨E1,s,h1,h2⟩ | ⟨E1,c,h1,h2⟩
 ·exact ⟨E,L,_,m,w,h1,(fun _ _ z=>by cases z),fun E' s' z L' H' m' w' st sm=>by
   injection z with z1 z2
   subst z1 z2
   exact k _ _ h2 L' H' m' w' st sm⟩
 ·exact ⟨E,L,_,m,w,h1,xc.map h2,fun E' s' z=>by cases z⟩
theorem q_tOr1 (ha:QT X Z q u ea):QW X Z q u (.BoolOp .Or [ea] pos):=pw_or1 ha
theorem q_tOr (ha:QT X Z q u ea) (hb:QW X Z q v (.BoolOp .Or (eb :: es) pos)):QW X Z q (Q.tOr u v) (.BoolOp .Or (ea :: eb :: es) pos) :=
 pw_imp (pw_or ha hb) fun σ H Q h_z=>ex8 h_z fun E L r m w hc xc k=>tbind m w hc xc fun E1 s h1 L1 H1 m1 w1 st sm=>by
  cases s with
  | false =>
   exact ⟨E1,L1,r,m1,w1,h1,xc.step st,fun E' k' z L' H' m' w' st' sm'=>k E' k' z L' H' m' w' (st.trans st') fun hq=>same_trans (sm hq) (sm' hq)⟩
  | true=>grind
theorem QW.pt (h:QW X Z q u e):QT X Z q u e:=PW.pt h
theorem q_tNot (ha:QT X Z q u ea):QT X Z q (Q.tNot u) (.UnaryOp .Not ea pos) :=
 pt_imp (pt_not ha) fun σ H Q h_z=>ex8 h_z fun E L r m w hc xc k=>tbind m w hc xc fun E1 s h1 L1 H1 m1 w1 st sm=>by
  cases Option.some.inj h1
  exact k _ _ rfl L1 H1 m1 w1 st sm
theorem q_tCmp {op} {r} {f} (ho:OpR X (compareOp op) r) (ad:Ad2 Z.K r f) (ha:QV X Z qa a ea) (hb:QV X Z true b eb) (hm:behindInMarks op eb=false) (hf:∀ x y s,f x y=some s->∃ k,s.2=.bl k):QT X Z qa (Q.tE (cF2 f a b)) (.Compare ea [op] [eb] pos) :=
 pt_imp (pt_cmpR ho ha hb hm) fun σ H Q h_z=>ex8 h_z fun E L r m w hc xc k=>by
  refine ad2_read ad ?_
  rcases bnd_cases hc with ⟨E1,s,h1,h2⟩ | ⟨E1,c,h1,h2⟩
  ·refine ⟨E,L,_,m,w,h1,(fun _ _ z=>by cases z),fun E' s' z x L' H' e1 e2 m' w' st sm=>?_⟩
   injection z with z1 z2
   subst z1 z2
   obtain ⟨kk,hk⟩:∃ k,s.2=.bl k:=by
    rcases bnd_cases h1 with ⟨E2,s2,h3,h4⟩ | ⟨_,_,_,z⟩
    ·rcases bnd_cases h4 with ⟨E3,s3,h5,h6⟩ | ⟨_,_,_,z⟩
     ·obtain ⟨y,hy,z⟩:=val_inv h6
      cases z
      exact hf _ _ _ hy
     ·cases z
    ·cases z
   rw [hk] at h2
   cases Option.some.inj h2
   exact ⟨kk,of_bl w'.head (e2.trans hk),k _ _ rfl L' H' m' w'.tail (st.trans Step.drop) fun hq=>(sm hq).1⟩
  ·exact ⟨E,L,_,m,w,h1,xc.map h2,fun E' s' z=>by cases z⟩
end
noncomputable def Pn (pn:List Nat) (σ σ':L2.St):Prop:=∀ p∈pn,σ'[p]?=σ[p]?
theorem Pn.refl {pn} {σ}:Pn pn σ σ:=fun _ _=>rfl
theorem Pn.trans {pn} {σ σ1 σ2} (a:Pn pn σ σ1) (b:Pn pn σ1 σ2):Pn pn σ σ2:=fun p hp=>(b p hp).trans (a p hp)
theorem Pn.set {pn} {σ σ1} {i} {y} (a:Pn pn σ σ1) (h:i∉pn):Pn pn σ (σ1.set i y):=fun p hp=>by
 have:i≠p:=fun e=>h (e▸hp)
 rw [List.getElem?_set_ne this]
 exact a p hp
noncomputable def FlP (Z:Fx0) (pn:List Nat) (D:Ends) (σ:L2.St) (H:Hp) (L:Ls):Fl->Prop
 | .nx E'=>∀ σ' L' H',Pn pn σ σ'->Mt E' σ' L'->World Z.K H' L'->Step H L H' L'->D.nx σ' H'
 | .ct E'=>∀ σ' L' H',Pn pn σ σ'->Mt E' σ' L'->World Z.K H' L'->Step H L H' L'->D.ct σ' H'
 | .bk E'=>∀ σ' L' H',Pn pn σ σ'->Mt E' σ' L'->World Z.K H' L'->Step H L H' L'->D.bk σ' H'
 | .rt E' a=>∀ (x:Sl) σ' L' H',x.o=a.1->x.d=a.2->Pn pn σ σ'->Mt E' σ' L'->World Z.K H' (some x :: L')->Step H L H' (some x :: L')->D.rt x.v H'
 | .xc E' c=>∀ C σ' L' H',Z.mg c=some (.ref C)->Pn pn σ σ'->Mt E' σ' L'->World Z.K H' L'->Step H L H' L'->Z.EX (.ref C) none H'
theorem FlP.step {Z} {pn} {D} {σ σ1} {H H1} {L L1} {r} (k:FlP Z pn D σ H L r) (s:Step H L H1 L1) (p:Pn pn σ σ1):FlP Z pn D σ1 H1 L1 r:=by
 cases r with
 | nx E'=>exact fun σ' L' H' p' m w s'=>k σ' L' H' (p.trans p') m w (s.trans s')
 | ct E'=>exact fun σ' L' H' p' m w s'=>k σ' L' H' (p.trans p') m w (s.trans s')
 | bk E'=>exact fun σ' L' H' p' m w s'=>k σ' L' H' (p.trans p') m w (s.trans s')
 | rt E' a=>exact fun x σ' L' H' e1 e2 p' m w s'=>k x σ' L' H' e1 e2 (p.trans p') m w (s.trans s')
 | xc E' c=>exact fun C σ' L' H' hm p' m w s'=>k C σ' L' H' hm (p.trans p') m w (s.trans s')
theorem FlP.xc {α} {Z} {pn} {D} {σ} {H} {L} {E'} {c} (k:FlP Z pn D σ H L (.xc E' c)):Xc Z σ H L (.exc E' c:Res α):=fun E1 c1 e C L' H' hm m w s=>by
 injection e with h1 h2
 subst h1 h2
 exact k C σ L' H' hm Pn.refl m w s
noncomputable def tS (Z:Fx0) (pn:List Nat) (c:Sm):TS:=fun D σ H=>∃ E L r,Mt E σ L/\World Z.K H L/\c E=some r/\FlP Z pn D σ H L r
noncomputable def QS (X:Cx) (Z:Fx0) (pn:List Nat) (c:Sm) (st:Stmt):Prop:=PS X st (tS Z pn c)
noncomputable def QSs (X:Cx) (Z:Fx0) (pn:List Nat) (c:Sm) (st:List Stmt):Prop:=PSs X st (tS Z pn c)
section
variable {X:Cx} {Z:Fx0} {pn:List Nat} {q qa qb:Bool} {a b c:Ex} {u v:Ts} {A B:Sm} {e ea eb:Expr} {st:Stmt} {ss tt:List Stmt} {pos:Pos} {α:Type} {σ:L2.St} {H:Hp} {L:Ls} {E:En} {D:Ends}
theorem ofE_cases {m} {F:En->α->Option Fl} {r} (h:ofE m F=some r):(∃ E1 x,m=some (.ok E1 x)/\F E1 x=some r)\/∃ E1 c,m=some (.exc E1 c)/\r=.xc E1 c:=by
 cases m with
 | none=>cases h
 | some q =>
  cases q with
  | ok E1 x=>exact .inl ⟨E1,x,rfl,h⟩
  | exc E1 c=>exact .inr ⟨E1,c,rfl,(Option.some.inj h).symm⟩
theorem sbind {F} {r} {G} (m:Mt E σ L) (w:World Z.K H L) (h:ofE (a E) F=some r) (k:FlP Z pn D σ H L r)
  (g:∀ E1 s,F E1 s=some r->∀ x L1 H1,x.o=s.1->x.d=s.2->Mt E1 σ L1->World Z.K H1 (some x :: L1)->Step H L H1 (some x :: L1)->(q=true->Same H H1/\∀ b∈x.own,H b=none)->G x.v H1):tQ Z q a σ H G:=by
 rcases ofE_cases h with ⟨E1,s,h1,h2⟩ | ⟨E1,c,h1,rfl⟩
 ·exact ⟨E,L,_,m,w,h1,(fun _ _ z=>by cases z),fun E' s' z x L' H' e1 e2 m' w' st sm=>by
   injection z with z1 z2
   subst z1 z2
   exact g _ _ h2 x L' H' e1 e2 m' w' st sm⟩
 ·exact ⟨E,L,_,m,w,h1,k.xc,fun E' s' z=>by cases z⟩
theorem stbind {F} {r} {G} (m:Mt E σ L) (w:World Z.K H L) (h:ofE (u E) F=some r) (k:FlP Z pn D σ H L r)
  (g:∀ E1 s,F E1 s=some r->∀ L1 H1,Mt E1 σ L1->World Z.K H1 L1->Step H L H1 L1->G s H1):tT Z q u σ H G:=by
 rcases ofE_cases h with ⟨E1,s,h1,h2⟩ | ⟨E1,c,h1,rfl⟩
 ·exact ⟨E,L,_,m,w,h1,(fun _ _ z=>by cases z),fun E' s' z L' H' m' w' st sm=>by
   injection z with z1 z2
   subst z1 z2
   exact g _ _ h2 L' H' m' w' st⟩
 ·exact ⟨E,L,_,m,w,h1,k.xc,fun E' s' z=>by cases z⟩
theorem q_nil:QSs X Z pn sPass []:=pss_imp pss_nil fun D σ H h_z=>ex7 h_z fun E L r m w hc k=>by
 cases Option.some.inj hc
 exact k σ L H Pn.refl m w Step.refl
theorem q_seq (h1:QS X Z pn A st) (h2:QSs X Z pn B ss):QSs X Z pn (sSeq A B) (st :: ss):=pss_imp (pss_cons h1 h2) fun D σ H h_z=>ex7 h_z fun E L r m w hc k=>by
 unfold sSeq at hc
 cases ha:A E with
 | none=>rw [ha] at hc;cases hc
 | some f =>
  rw [ha] at hc
  cases f with
  | nx E1=>exact ⟨E,L,_,m,w,ha,fun σ' L' H' p m' w' s=>⟨E1,L',r,m',w',hc,k.step s p⟩⟩
  | ct E1=>cases Option.some.inj hc;exact ⟨E,L,_,m,w,ha,k⟩
  | bk E1=>cases Option.some.inj hc;exact ⟨E,L,_,m,w,ha,k⟩
  | rt E1 x=>cases Option.some.inj hc;exact ⟨E,L,_,m,w,ha,k⟩
  | xc E1 x=>cases Option.some.inj hc;exact ⟨E,L,_,m,w,ha,k⟩
theorem q_one (h1:QS X Z pn A st):QSs X Z pn A [st]:=pss_one h1
theorem q_ret (h:QE X Z q a ea):QS X Z pn (sRet a) (.Return (some ea) pos):=ps_imp (ps_ret h) fun D σ H h_z=>ex7 h_z fun E L r m w hc k =>
 sbind m w hc k fun E1 s h1 x L1 H1 e1 e2 m1 w1 st _=>by
  cases Option.some.inj h1
  exact k x σ L1 H1 e1 e2 Pn.refl m1 w1 st
theorem q_if (hc:QT X Z q u e) (ha:QSs X Z pn A ss) (hb:QSs X Z pn B tt):QS X Z pn (sIf u A B) (.If e ss tt pos):=ps_imp (ps_if hc ha hb) fun D σ H h_z=>ex7 h_z fun E L r m w hc k =>
 stbind m w hc k fun E1 s h1 L1 H1 m1 w1 st=>by
  cases s with
  | true=>rw [if_pos rfl] at h1 ⊢;exact ⟨E1,L1,r,m1,w1,h1,k.step st Pn.refl⟩
  | false=>rw [if_neg (by decide)] at h1 ⊢;exact ⟨E1,L1,r,m1,w1,h1,k.step st Pn.refl⟩
theorem mt_set {x} {i} {s} (m:Mt E σ L) (e1:x.o=s.1) (e2:x.d=s.2):Mt (E.set i (some s)) (σ.set i (some x.v)) (L.set i (some x)):=by
 have:=m.set (x:=x) i
 rw [e1,e2] at this
 exact this
theorem q_asg {i} {y} {pos'} (hN:X.N.Nodup) (hi:X.N[i]?=some y) (hx:Loc X.env.scope y) (h:QE X Z q a ea) (hp:i∉pn:=by decide) (hs:swapsWith ea (some (.Name y pos')) pos.line X.env=pure false:=by rfl) (hf:X.fn y=true\/X.env.scope.names.lookup y=some .local:=by first | exact .inl rfl | exact .inr rfl | assumption) :
  QS X Z pn (sAsg i a) (.Assign [.Name y pos'] ea pos):=ps_imp (ps_set hN hi hx h hs hf) fun D σ H h_z=>ex7 h_z fun E L r m w hc k =>
 sbind m w hc k fun E1 s h1 x L1 H1 e1 e2 m1 w1 st _=>by
  cases Option.some.inj h1
  exact k _ _ H1 (Pn.refl.set hp) (mt_set m1 e1 e2) w1.set (st.trans Step.set)
theorem q_asgX {i} {y} {pos'} (hp:i∉pn) (h:PS X (.Assign [.Name y pos'] ea pos) (fun D σ H=>tQ Z q a σ H fun v H1=>D.nx (σ.set i (some v)) H1)) :
  QS X Z pn (sAsg i a) (.Assign [.Name y pos'] ea pos):=ps_imp h fun D σ H h_z=>ex7 h_z fun E L r m w hc k =>
 sbind m w hc k fun E1 s h1 x L1 H1 e1 e2 m1 w1 st _=>by
  cases Option.some.inj h1
  exact k _ _ H1 (Pn.refl.set hp) (mt_set m1 e1 e2) w1.set (st.trans Step.set)
end
end Q
namespace Q
open PySem PySem.Spec PyProof.Rows L2 L3
structure Walks (K:PySem.W.Frag) (J:It) (T:List Sl) (ds:List D):Prop where
 no:∀ t∈T,t.o=.no
 go:∀ i H,(∀ t∈T,t.ok K H)->i < ds.length->J.go i H
 stop:∀ H,(∀ t∈T,t.ok K H)->J.stop ds.length H
 yld:∀ i H v H' d,(∀ t∈T,t.ok K H)->J.yld i H v H'->ds[i]?=some d->∃ z:Sl,z.o=.no/\z.d=d/\z.v=v/\Same H H'/\z.ok K H'/\∀ b∈z.as,∃ t∈T,b∈t.as
noncomputable def tI (Z:Fx0) (q:Bool) (it:Ev (List D)):TI:=fun σ H R=>∃ E L r,Mt E σ L/\World Z.K H L/\it E=some r/\Xc Z σ H L r /\
 ∀ E' ds,r=.ok E' ds->∀ J T L' H',Mt E' σ L'->World Z.K H' (L'++T.map some)->Step H L H' (L'++T.map some)->ds.length<=sizeLine->(q=true->Same H H')->Walks Z.K J T ds->R J H'
noncomputable def QI (X:Cx) (Z:Fx0) (q:Bool) (tg:Expr) (it:Ev (List D)) (e:Expr):Prop:=PI X tg e (tI Z q it)
noncomputable def Held (K:PySem.W.Frag) (H0:Hp) (T:List Sl) (H:Hp):Prop:=(∀ t∈T,t.ok K H)/\∀ t∈T,Kp H0 H t.as
structure WalksD (K:PySem.W.Frag) (H0:Hp) (J:It) (T:List Sl) (ds:List D):Prop where
 no:∀ t∈T,t.o=.no
 go:∀ i H,Held K H0 T H->i < ds.length->J.go i H
 stop:∀ H,Held K H0 T H->J.stop ds.length H
 yld:∀ i H v H' d,Held K H0 T H->J.yld i H v H'->ds[i]?=some d->∃ z:Sl,z.o=.no/\z.d=d/\z.v=v/\Same H H'/\z.ok K H'/\∀ b∈z.as,∃ t∈T,b∈t.as
theorem Walks.D {K} {H0} {J} {T} {ds} (h:Walks K J T ds):WalksD K H0 J T ds:=⟨h.no,fun i H o=>h.go i H o.1,fun H o=>h.stop H o.1,fun i H v H' d o=>h.yld i H v H' d o.1⟩
noncomputable def tID (Z:Fx0) (q:Bool) (it:Ev (List D)):TI:=fun σ H R=>∃ E L r,Mt E σ L/\World Z.K H L/\it E=some r/\Xc Z σ H L r /\
 ∀ E' ds,r=.ok E' ds->∀ J T L' H',Mt E' σ L'->World Z.K H' (L'++T.map some)->Step H L H' (L'++T.map some)->ds.length<=sizeLine->(q=true->Same H H')->WalksD Z.K H' J T ds->R J H'
noncomputable def QID (X:Cx) (Z:Fx0) (q:Bool) (tg:Expr) (it:Ev (List D)) (e:Expr):Prop:=PI X tg e (tID Z q it)
theorem QI.D {X} {Z} {q} {tg} {it} {e} (h:QI X Z q tg it e):QID X Z q tg it e:=fun pins s σ H R I hz=>h pins s σ H R I (by
 obtain ⟨E,L,r,m,w,e,x,k⟩:=hz
 exact ⟨E,L,r,m,w,e,x,fun E' ds z J T L' H' m' w' st hl sm wk=>k E' ds z J T L' H' m' w' st hl sm wk.D⟩)
structure WalksS (K:PySem.W.Frag) (q:Bool) (H0:Hp) (J:It) (T:List Sl) (ds:List D):Prop where
 no:∀ t∈T,t.o=.no
 go:∀ i H,(∀ t∈T,t.ok K H)->(q=true->Same H0 H)->i < ds.length->J.go i H
 stop:∀ H,(∀ t∈T,t.ok K H)->(q=true->Same H0 H)->J.stop ds.length H
 yld:∀ i H v H' d,(∀ t∈T,t.ok K H)->(q=true->Same H0 H)->J.yld i H v H'->ds[i]?=some d->∃ z:Sl,z.o=.no/\z.d=d/\z.v=v/\Same H H'/\z.ok K H'/\∀ b∈z.as,∃ t∈T,b∈t.as
theorem walks_S {K} {q} {H0} {J} {T} {ds} (h:Walks K J T ds):WalksS K q H0 J T ds:=⟨h.no,fun i H o _=>h.go i H o,fun H o _=>h.stop H o,fun i H v H' d o _=>h.yld i H v H' d o⟩
noncomputable def tIS (Z:Fx0) (q:Bool) (it:Ev (List D)):TI:=fun σ H R=>∃ E L r,Mt E σ L/\World Z.K H L/\it E=some r/\Xc Z σ H L r /\
 ∀ E' ds,r=.ok E' ds->∀ J T L' H',Mt E' σ L'->World Z.K H' (L'++T.map some)->Step H L H' (L'++T.map some)->ds.length<=sizeLine->(q=true->Same H H')->WalksS Z.K q H J T ds->R J H'
noncomputable def QIS (X:Cx) (Z:Fx0) (q:Bool) (tg:Expr) (it:Ev (List D)) (e:Expr):Prop:=PI X tg e (tIS Z q it)
theorem qi_S {X} {Z} {q} {tg} {it} {e} (h:QI X Z q tg it e):QIS X Z q tg it e:=fun pins s σ H R I hz=>h pins s σ H R I (by
 obtain ⟨E,L,r,m,w,e,x,k⟩:=hz
 exact ⟨E,L,r,m,w,e,x,fun E' ds z J T L' H' m' w' st hl sm wk=>k E' ds z J T L' H' m' w' st hl sm (walks_S wk)⟩)
noncomputable def tG (Z:Fx0) (pn:List Nat) (tg:Tg):TG:=fun v σ H Q=>∃ (E:En) (L:Ls) (z:Sl) (E':En),Mt E σ L/\World Z.K H (some z :: L)/\z.o=.no/\z.v=v/\tg.put z.d E=some E' /\
 ∀ σ' L',Pn pn σ σ'->Mt E' σ' L'->World Z.K H L'->Step H (some z :: L) H L'->Q σ' H
noncomputable def QG (X:Cx) (Z:Fx0) (pn:List Nat) (tg:Tg) (e:Expr):Prop:=PG X e (tG Z pn tg)
section
variable {X:Cx} {Z:Fx0} {pn:List Nat} {e:Expr} {σ:L2.St} {H:Hp} {L:Ls} {E:En}
theorem pg_imp {t t'} (h:PG X e t) (w:∀ v σ H Q,t' v σ H Q->t v σ H Q):PG X e t':=fun pins s σ H x v Q I r q=>h pins s σ H x v Q I r (w x σ H Q q)
theorem q_gN {i} (h:PG X e (gName i)) (hp:i∉pn:=by decide):QG X Z pn (.n i) e:=pg_imp h fun v σ H Q ⟨E,L,z,E',m,w,ho,hv,hput,k⟩=>by
 cases Option.some.inj hput
 rw [← hv]
 exact k _ _ (Pn.refl.set hp) (mt_set m ho rfl) w.set Step.set
noncomputable def gNs:List Nat->TGs
 | []=>gNil
 | i :: is=>gCons (gName i) (gNs is)
theorem gNs_set {Q} {M} {σ0}:∀ {is} {ds} {xs} {bs} {E} {L} {σ} {E'},Mt E σ L->World Z.K H L->RepA Z.K H true ds xs bs->(∀ b∈bs,b∉owned L)->(∀ b∈bs,b∈frozen M)->Step H M H L->Pn pn σ0 σ ->
  setAll is ds E=some E'->(∀ i∈is,i∉pn)->(∀ σ' L',Pn pn σ0 σ'->Mt E' σ' L'->World Z.K H L'->Step H M H L'->Q σ' H)->gNs is xs σ H Q
 | [],[],xs,bs,E,L,σ,E',m,w,r,_,_,st,p,e,_,k=>by
  cases Option.some.inj e
  exact ⟨r.1,k σ L p m w st⟩
 | [],_ :: _,_,_,_,_,_,_,_,_,_,_,_,_,_,e,_,_=>by cases e
 | _ :: _,[],_,_,_,_,_,_,_,_,_,_,_,_,_,e,_,_=>by cases e
 | i :: is,d :: ds,xs,bs,E,L,σ,E',m,w,r,hb,hf,st,p,e,hi,k=>by
  obtain ⟨x,rr,cs,es,rfl,rfl,h1,h2⟩:=r
  have s1:Step H M H (L.set i (some ⟨.no,d,x,cs⟩)):=by
   refine ⟨fun _ _ h _=>h,fun a ha=>?_,fun a ha=>?_⟩
   ·rcases owned_set_mem ha with z | z
    ·exact nomatch z
    ·exact st.own a z
   ·rcases frozen_set_mem ha with z | z
    ·exact .inl (hf a (List.mem_append_left _ z))
    ·exact st.frz a z
  exact ⟨x,rr,rfl,gNs_set (mt_set (x:=⟨.no,d,x,cs⟩) m rfl rfl) (w.consNo (x:=⟨.no,d,x,cs⟩) h1 rfl fun b hb'=>hb b (List.mem_append_left _ hb')).set h2 (fun b hb' ho=>by
   rcases owned_set_mem ho with z | z
   ·exact nomatch z
   ·exact hb b (List.mem_append_right _ hb') z) (fun b hb'=>hf b (List.mem_append_right _ hb')) s1 (p.set (hi i List.mem_cons_self)) e (fun j hj=>hi j (List.mem_cons_of_mem _ hj)) k⟩
theorem setAll_len:∀ {is} {ds} {E E'},setAll is ds E=some E'->is.length=ds.length
 | [],[],_,_,_=>rfl
 | _ :: _,[],_,_,e=>by cases e
 | i :: is,d :: ds,E,E',e=>by rw [List.length_cons,List.length_cons,setAll_len (E:=E.set i _) e]
noncomputable def gSeq (K:PySem.W.Frag) (n:Nat) (t:TGs):TG:=fun v σ H Q=>∃ a xs,v=.ref a/\(SqT K H a xs\/SqL K H a xs)/\xs.length=n/\t xs σ H Q
section
variable {prog:Program} {w:PySem.World} {A:Around} {E':Value->Shared->Prop}
theorem draw_list {it t} {items} (hne:t≠it):∀ n i (s) (Q),s.heap.IsListIter it t i->s.heap.IsList t items->i + n<=items.size ->
  (∀ h',h'.IsListIter it t (i + n)->Heap.SameBut it s.heap h'->Q ((items.toList.drop i).take n) { s with heap:=h' })->wpAny (model prog w) A (draw (.ref it) n) Q E' s
 | 0,i,s,Q,hit,_,_,hQ=>by
  exact wpAny_pure (by simpa using hQ s.heap hit (Heap.SameBut.refl ..))
 | n + 1,i,s,Q,hit,ht,hle,hQ=>by
  have hlt:i < items.size:=by omega
  refine wpAny_bind (wpAny_pyNext_list_item hit ht (x:=items[i]) (by simp) fun h₁ hit₁ hs₁=>?_)
  have ht₁:h₁.IsList t items:=by
   obtain ⟨o,ho,r⟩:=ht
   exact ⟨o,(hs₁.2 t hne).trans ho,r⟩
  refine wpAny_bind (wpAny_holding (draw_list hne n _ _ _ hit₁ ht₁ (by omega) fun h₂ hit₂ hs₂=>wpAny_pure ?_))
  have hd:items.toList.drop i=items[i] :: items.toList.drop (i + 1):=by simp [List.drop_eq_getElem_cons,hlt]
  have:=hQ h₂ (by grind) (hs₁.trans hs₂)
  simp_all
theorem unpackItems_list {s} {t} {items} {Q} (hh:A.handled=none) (ht:s.heap.IsList t items)
  (hQ:∀ h',Heap.ExtBut s.heap.objs.size s.heap h'->Q items.toList { s with heap:=h' }):wpAny (model prog w) A (unpackItems (.ref t) items.size none) Q E' s:=by
 have hlt:t≠s.heap.objs.size:=by obtain ⟨o,ho,_⟩:=ht;exact Nat.ne_of_lt (Heap.lt_size ho)
 refine wpAny_bind ?_
 unfold notIterableAtAll
 refine wpAny_bind (wpAny_specialOf ht.typeIs slot_list_iter.lookup ?_)
 refine wpAny_pure ?_
 refine wpAny_bind (wpAny_holding (wpAny_pyIter_list ht ?_))
 have ht0:∀ o,(s.heap.push o).IsList t items:=fun o=>by
  obtain ⟨ob,ho,r⟩:=ht
  exact ⟨ob,Heap.get?_push_of_some _ ho,r⟩
 refine wpAny_bind (wpAny_holding (draw_list hlt items.size 0 _ _ ⟨_,Heap.get?_push_size _ rfl,rfl,rfl⟩ (ht0 _) (by simp) fun h₁ hit₁ hs₁=>?_))
 have hall:List.take items.size (List.drop 0 items.toList)=items.toList:=by
  rw [List.drop_zero];exact List.take_of_length_le (by simp)
 rw [hall]
 rw [if_neg (by simp)]
 have ht₁:h₁.IsList t items:=by
  obtain ⟨o,ho,r⟩:=ht0 _
  exact ⟨o,(hs₁.2 t hlt).trans ho,r⟩
 refine wpAny_bind (wpAny_holding (wpAny_pyNext_list_end hh hit₁ ht₁ (by simp) fun h₂ he₂=>?_))
 exact wpAny_pure (hQ h₂ fun b o hb e=>he₂ b o hb (hs₁.extBut b o hb (Heap.get?_push_of_some _ e)))
theorem assign_Tuple_list {s} {env} {elts} {x1} {pos} {t} {items} {Q} (hh:A.handled=none) (ht:s.heap.IsList t items)
  (hn:(assignEach elts env).length=items.size) (hstar:(assignEach elts env).findIdx? (·.1)=none)
  (h:∀ h',Heap.ExtBut s.heap.objs.size s.heap h'->wpAny (model prog w) A (assignInOrder ((assignEach elts env).map (·.2)) items.toList) Q E' { s with heap:=h' }) :
  wpAny (model prog w) A (assign (.Tuple elts x1 pos) env (.ref t)) Q E' s:=by
 refine wpAny_bind (wpAny_standAt ?_)
 unfold unpack
 rw [hn,hstar]
 exact wpAny_bind (wpAny_holding (unpackItems_list hh ht h))
end
theorem pg_seq K {es} {k} {t} {n} {pos} (h:PGs X es t) (hc:X.calm=true:=by rfl) (hK:X.K=K:=by rfl)
  (hn:(assignEach es X.env).length=n:=by rfl) (hst:(assignEach es X.env).findIdx? (·.1)=none:=by rfl):PG X (.Tuple es k pos) (gSeq K n t):=by
 subst hK
 rintro pins s σ H v u Q I r ⟨a,xs,e1,hq,hl,hw⟩
 subst e1
 cases r
 rcases hq with hq | hq
 ·obtain ⟨its,rv,ht,hz⟩:=I.tuple hq
  refine assign_Tuple_tuple (I.ok.hd hc) ht (by simp [hn,← hl,rv.length]) hst fun h' hx=>?_
  have I1:L2.Inv X pins σ H { s with heap:=h' }:=I.kept (t':=s.toks) fun b o e=>hx b o (Nat.ne_of_lt (Heap.lt_size e)) e
  exact h pins _ σ H xs _ Q I1 (by simp_all) hw
 ·obtain ⟨its,rv,ht,hz⟩:=I.list hq
  refine assign_Tuple_list (I.ok.hd hc) ht.isList (by simp [hn,← hl,rv.length]) hst fun h' hx=>?_
  have I1:L2.Inv X pins σ H { s with heap:=h' }:=I.kept (t':=s.toks) fun b o e=>hx b o (Nat.ne_of_lt (Heap.lt_size e)) e
  exact h pins _ σ H xs _ Q I1 (by simpa using rv) hw
theorem q_gT {is} (h:PG X e (gSeq Z.K is.length (gNs is))) (hp:∀ i∈is,i∉pn:=by decide):QG X Z pn (.t is) e:=pg_imp h fun v σ H Q ⟨E,L,z,E',m,w,ho,hv,hput,k⟩=>by
 have fin:∀ ds,_->setAll is ds E=some E'->gSeq Z.K is.length (gNs is) v σ H Q:=fun ds hd hput=>by
  obtain ⟨a,xs,bs,e1,q1,r,h1,h2⟩:=items w.head hd
  rw [ho] at r
  refine ⟨a,xs,hv.symm.trans e1,?_,by rw [setAll_len hput,r.len],gNs_set m w.tail r (fun b hb=>w.apart b (h1 b hb)) (fun b hb=>?_) Step.drop Pn.refl hput hp k⟩
  ·rcases q1 with ⟨_,z'⟩ | ⟨_,z'⟩
   ·exact .inr z'.sq
   ·exact .inl z'
  ·rw [frozen_some,frz_no ho]
   exact List.mem_append_left _ (h1 b hb)
 cases hd:z.d with
 | tup ds=>rw [hd] at hput;exact fin ds (.inr hd) hput
 | lst ds=>rw [hd] at hput;exact fin ds (.inl hd) hput
 | _=>rw [hd] at hput;cases hput
end
section
variable {X:Cx} {Z:Fx0} {pn:List Nat} {q:Bool} {tg iter:Expr} {it:Ev (List D)} {t:Tg} {B:Sm} {ss:List Stmt} {pos:Pos} {σ:L2.St} {H:Hp} {L:Ls} {E:En}
theorem item_world {K} {T:List Sl} {H1 H2} {L1} {z} (w:World K H1 (L1++T.map some)) (hT:∀ t∈T,t.o=.no) (sm:Same H1 H2) (ok:z.ok K H2) (ho:z.o=.no) (hz:∀ b∈z.as,∃ t∈T,b∈t.as) :
  World K H2 ((some z :: L1)++T.map some)/\Step H1 (L1++T.map some) H2 ((some z :: L1)++T.map some):=by
 have w2:World K H2 _:=⟨fun x hx=>RepO.kp (w.ok x hx) (Kp.of_same sm),w.nd,w.ds⟩
 have hf:∀ b∈z.as,b∈frozen (L1++T.map some):=fun b hb=>by
  obtain ⟨t,ht,hbt⟩:=hz b hb
  rw [frozen_app]
  exact List.mem_append_right _ (mem_frozen.mpr ⟨t,List.mem_map_of_mem ht,by rw [frz_no (hT t ht)];exact hbt⟩)
 refine ⟨w2.consNo ok ho fun b hb hL=>w2.ds b hL (hf b hb),fun a ob h _=>sm a ob h,fun a ha=>?_,fun a ha=>?_⟩
 ·rw [List.cons_append,owned_some,own_no ho] at ha
  exact .inl ha
 ·rw [List.cons_append,frozen_some,frz_no ho] at ha
  rcases List.mem_append.mp ha with q | q
  ·exact .inl (hf a q)
  ·exact .inl q
theorem stay {K} {T L1 L2} {H1 H2} (w:World K H1 (L1++T)) (s:Step H1 L1 H2 L2) (w2:World K H2 L2):World K H2 (L2++T)/\Step H1 (L1++T) H2 (L2++T):=⟨s.frame w w2 w.left,s.frm⟩
theorem Step.dropT {T} {H1} {L1}:Step H1 (L1++T) H1 L1:=⟨fun _ _ h _=>h,fun a ha=>.inl (by rw [owned_app];exact List.mem_append_left _ ha),fun a ha=>.inl (by rw [frozen_app];exact List.mem_append_left _ ha)⟩
theorem Kp.trans {H H1 H2} {as} (a:Kp H H1 as) (b:Kp H1 H2 as):Kp H H2 as:=⟨fun c xs e=>b.1 c xs (a.1 c xs e),fun c o u e=>b.2.1 c o u (a.2.1 c o u e),fun c hc ob e=>b.2.2 c hc ob (a.2.2 c hc ob e)⟩
theorem pin_keep {K} {H2 H3} {L2 L3} {T:List Sl} (w:World K H2 (L2++T.map some)) (hT:∀ t∈T,t.o=.no) (s:Step H2 L2 H3 L3) {H0} (h:∀ t∈T,Kp H0 H2 t.as):∀ t∈T,Kp H0 H3 t.as:=fun t ht =>
 (h t ht).trans (s.kp w.left fun b hb z=>w.ds b (by rw [owned_app];exact List.mem_append_left _ z) (by
  rw [frozen_app]
  exact List.mem_append_right _ (mem_frozen.mpr ⟨t,List.mem_map_of_mem ht,by rw [frz_no (hT t ht)];exact hb⟩)))
theorem q_forD (hp:PassesOwn (model X.prog X.w) X.A X.env X.xe) (hc:X.calm=true) (hi:QID X Z q tg it iter) (hg:QG X Z pn t tg) (hb:QSs X Z pn B ss) (hs:∀ x,foldedSetIterable iter X.env x=pure x:=by intro _;rfl):QS X Z pn (sFor it t B) (.For tg iter ss [] pos):=ps_imp (ps_for hp hc hi hg hb hs) fun D σ H h_z=>ex7 h_z fun E L r m w hr k=>by
 have hr:ofE (it E) (fun E ds=>forL t B ds E)=some r:=hr
 rcases ofE_cases hr with ⟨E1,ds,h1,h2⟩ | ⟨E1,c,h1,rfl⟩
 rotate_left
 ·exact ⟨E,L,_,m,w,h1,k.xc,fun E' s' z=>by cases z⟩
 refine ⟨E,L,_,m,w,h1,(fun _ _ z=>by cases z),fun E' ds' z J T L' H' m' w' st hz _ wk=>?_⟩
 injection z with z1 z2
 subst z1 z2
 have okT:∀ {H2:Hp} {L2:Ls},World Z.K H2 (L2++T.map some)->∀ t∈T,t.ok Z.K H2:=fun w2 t ht=>w2.ok t (List.mem_append_right _ (List.mem_map_of_mem ht))
 refine ⟨fun i n σ1 H1=>∃ E1 L1,Mt E1 σ1 L1/\World Z.K H1 (L1++T.map some)/\Step H L H1 (L1++T.map some)/\Pn pn σ σ1/\forL t B (ds.drop i) E1=some r/\i<=ds.length/\n=ds.length - i/\∀ t∈T,Kp H' H1 t.as,⟨_,E1,L',m',w',st,Pn.refl,h2,Nat.zero_le _,rfl,fun _ _=>Kp.of_same same_refl⟩,?_⟩
 rintro i n σ1 H1 ⟨E1,L1,m1,w1,st1,p1,f1,hi,rfl,pins⟩
 by_cases hlt:i < ds.length
 ·have hd:ds.drop i=ds[i] :: ds.drop (i + 1):=List.drop_eq_getElem_cons hlt
  rw [hd] at f1
  unfold forL at f1
  cases hput:t.put ds[i] E1 with
  | none=>rw [hput] at f1;cases f1
  | some E2 =>
   rw [hput] at f1
   dsimp only at f1
   refine .inr ⟨wk.go i H1 ⟨okT w1,pins⟩ hlt,fun σ2 H2=>∃ E2 L2,Mt E2 σ2 L2/\World Z.K H2 (L2++T.map some)/\Step H L H2 (L2++T.map some)/\Pn pn σ σ2/\forL t B (ds.drop (i + 1)) E2=some r/\∀ t∈T,Kp H' H2 t.as,fun σ2 H2 ⟨E2,L2,a1,a2,a3,a4,a5,a6⟩=>⟨ds.length - (i + 1),by omega,E2,L2,a1,a2,a3,a4,a5,hlt,rfl,a6⟩,fun v H2 hy=>?_⟩
   obtain ⟨z,zo,zd,zv,sm,zok,zas⟩:=wk.yld i H1 v H2 ds[i] ⟨okT w1,pins⟩ hy (List.getElem?_eq_getElem hlt)
   obtain ⟨wz,sz⟩:=item_world w1 wk.no sm zok zo zas
   refine ⟨E1,L1,z,E2,m1,wz.left,zo,zv,by rw [zd];exact hput,fun σ2 L2 p2 m2 w2 st2=>?_⟩
   obtain ⟨w3,st3⟩:=stay wz st2 w2
   have st4:Step H L H2 (L2++T.map some):=st1.trans (sz.trans st3)
   have pins2:∀ t∈T,Kp H' H2 t.as:=fun t ht=>(pins t ht).trans (Kp.of_same sm)
   cases hB:B E2 with
   | none=>rw [hB] at f1;cases f1
   | some g =>
    rw [hB] at f1
    refine ⟨E2,L2,g,m2,w2,hB,?_⟩
    have fin:∀ {g:Fl},g=r->(∀ σ',D.nx σ'=D.nx σ')->FlP Z pn D σ2 H2 (L2++T.map some) g:=fun e _=>e▸k.step st4 (p1.trans p2)
    cases g with
    | nx E3 =>
     intro σ3 L3 H3 p3 m3 w4 s3
     obtain ⟨w5,s5⟩:=stay w3 s3 w4
     exact ⟨E3,L3,m3,w5,st4.trans s5,(p1.trans p2).trans p3,f1,pin_keep w3 wk.no s3 pins2⟩
    | ct E3 =>
     intro σ3 L3 H3 p3 m3 w4 s3
     obtain ⟨w5,s5⟩:=stay w3 s3 w4
     exact ⟨E3,L3,m3,w5,st4.trans s5,(p1.trans p2).trans p3,f1,pin_keep w3 wk.no s3 pins2⟩
    | bk E3 =>
     have e:=Option.some.inj f1
     subst e
     intro σ3 L3 H3 p3 m3 w4 s3
     exact k σ3 L3 H3 ((p1.trans p2).trans p3) m3 w4 ((st4.trans Step.dropT).trans s3)
    | rt E3 x =>
     have e:=Option.some.inj f1
     subst e
     intro y σ3 L3 H3 e1 e2 p3 m3 w4 s3
     exact k y σ3 L3 H3 e1 e2 ((p1.trans p2).trans p3) m3 w4 ((st4.trans Step.dropT).trans s3)
    | xc E3 c =>
     have e:=Option.some.inj f1
     subst e
     intro C σ3 L3 H3 hm p3 m3 w4 s3
     exact k C σ3 L3 H3 hm ((p1.trans p2).trans p3) m3 w4 ((st4.trans Step.dropT).trans s3)
 ·have e:i=ds.length:=by omega
  subst e
  rw [List.drop_length] at f1
  cases Option.some.inj f1
  exact .inl ⟨wk.stop H1 ⟨okT w1,pins⟩,k σ1 L1 H1 p1 m1 w1.left (st1.trans Step.dropT)⟩
theorem q_for (hp:PassesOwn (model X.prog X.w) X.A X.env X.xe) (hc:X.calm=true) (hi:QI X Z q tg it iter) (hg:QG X Z pn t tg) (hb:QSs X Z pn B ss) (hs:∀ x,foldedSetIterable iter X.env x=pure x:=by intro _;rfl):QS X Z pn (sFor it t B) (.For tg iter ss [] pos):=q_forD hp hc hi.D hg hb hs
end
end Q
namespace Q
open PySem PySem.Spec PyProof.Rows L2 L3
mutual
noncomputable def CRep (h:Heap):D->Value->Prop
 | .non,u=>u=.none
 | .bl b,u=>u=.bool b
 | .int i,u=>∃ t,u=.int i t
 | .str z,u=>∃ t,u=.str z t
 | .tup ds,u=>∃ a us,u=.ref a/\h.IsTuple a us.toArray/\CReps h ds us
 | .lst ds,u=>∃ a us,u=.ref a/\h.IsList a us.toArray/\CReps h ds us
 | .dct _,_=>False
 | .obj _ _,_=>False
noncomputable def CReps (h:Heap):List D->List Value->Prop
 | [],us=>us=[]
 | d :: ds,us=>∃ u r,us=u :: r/\CRep h d u/\CReps h ds r
end
theorem flat_dct {n} {k}:D.flat n (.dct k)=false:=by cases n<;>simp [D.flat]
theorem flat_obj {n} {c} {k}:D.flat n (.obj c k)=false:=by cases n<;>simp [D.flat]
section
variable {X:Cx} {pins:List (Addr×Obj)} {σ:L2.St} {H:Hp} {s:Shared}
mutual
theorem crep_of (I:Inv X pins σ H s) {g}:∀ {n} {d} {v} {as} {u},RepL X.K H g d v as->d.flat n=true->RelV v u->CRep s.heap d u
 | _,.non,_,_,_,h,_,r=>by
  unfold RepL at h;rw [h.1] at r;exact r
 | _,.bl _,_,_,_,h,_,r=>by
  unfold RepL at h;rw [h.1] at r;exact r
 | _,.int _,_,_,_,h,_,r=>by
  unfold RepL at h;rw [h.1] at r;exact r
 | _,.str _,_,_,_,h,_,r=>by
  unfold RepL at h;rw [h.1] at r;unfold CRep;exact r
 | 0,.tup ds,_,_,_,h,f,r=>by cases f
 | n + 1,.tup ds,_,_,_,h,f,r=>by
  unfold D.flat at f
  obtain ⟨a,xs,rfl,q,ra⟩:=h
  cases r
  obtain ⟨its,rv,p,_⟩:=I.tuple q
  exact ⟨a,its,rfl,p,creps_of I ra f rv⟩
 | 0,.lst ds,_,_,_,h,f,r=>by unfold D.flat at f;cases f
 | n + 1,.lst ds,_,_,_,h,f,r=>by
  unfold D.flat at f
  obtain ⟨a,xs,bs,rfl,ra,q⟩:=h
  cases r
  have q':SqL X.K H a xs:=by
   rcases q with ⟨q,_⟩ | ⟨_,q,_⟩
   ·exact SqL.of q
   ·exact (LsR.of q).sq
  obtain ⟨its,rv,p,_⟩:=I.list q'
  exact ⟨a,its,rfl,p.isList,creps_of I ra f rv⟩
 | _,.dct _,_,_,_,h,f,r=>by rw [flat_dct] at f;cases f
 | _,.obj _ _,_,_,_,h,f,r=>by rw [flat_obj] at f;cases f
theorem creps_of (I:Inv X pins σ H s) {g}:∀ {n} {ds} {xs} {as} {us},RepA X.K H g ds xs as->D.flats n ds=true->Vals xs us->CReps s.heap ds us
 | _,[],_,_,_,h,_,r=>by
  rw [h.1] at r
  cases r
  unfold CReps;rfl
 | n,d :: ds,_,_,_,h,f,r=>by
  unfold D.flats at f
  rw [Bool.and_eq_true] at f
  obtain ⟨x,rr,bs,cs,rfl,rfl,h1,h2⟩:=h
  cases r with
  | cons r1 r2 =>
   exact ⟨_,_,rfl,crep_of I h1 f.1 r1,creps_of I h2 f.2 r2⟩
end
end
theorem CReps.len {h}:∀ {ds} {us},CReps h ds us->ds.length=us.length
 | [],_,r=>by rw [r];rfl
 | d :: ds,_,r=>by
  obtain ⟨u,rr,rfl,_,h2⟩:=r
  simp [CReps.len h2]
theorem CReps.get {h}:∀ {ds} {us} {j:Nat} {d},CReps h ds us->ds[j]?=some d->∃ u,us[j]?=some u/\CRep h d u
 | [],_,_,_,_,e=>by simp_all
 | d :: ds,_,j,d',r,e=>by
  obtain ⟨u,rr,rfl,h1,h2⟩:=r
  cases j with
  | zero=>simp_all
  | succ j =>
   obtain _:=CReps.get h2 (by simpa using e)
   simp_all
theorem tup_arr {h:Heap} {a} {x y} (p:h.IsTuple a x) (q:h.IsTuple a y):x=y:=by
 obtain ⟨o,h1,_,n,h2⟩:=p
 obtain ⟨o',h3,_,n',h4⟩:=q
 grind
theorem lst_arr {h:Heap} {a} {x y} (p:h.IsList a x) (q:h.IsList a y):x=y:=by
 obtain ⟨o,h1,_,n,h2⟩:=p
 obtain ⟨o',h3,_,n',h4⟩:=q
 grind
theorem lst_tup {h:Heap} {a} {x y} (p:h.IsList a x) (q:h.IsTuple a y):False:=by
 obtain ⟨o,h1,h2,_⟩:=p
 obtain ⟨o',h3,h4,_⟩:=q
 grind
inductive Cv (h:Heap):D->Value->Prop
 | non:Cv h .non .none
 | bl (b:Bool):Cv h (.bl b) (.bool b)
 | int (i:Int) (t:_):Cv h (.int i) (.int i t)
 | str (z:Str) (t:_):Cv h (.str z) (.str z t)
 | lst {ds:List D} {a:Addr} {us:List Value} (p:h.IsList a us.toArray) (q:CReps h ds us):Cv h (.lst ds) (.ref a)
 | tup {ds:List D} {a:Addr} {us:List Value} (p:h.IsTuple a us.toArray) (q:CReps h ds us):Cv h (.tup ds) (.ref a)
theorem crv {h} {d} {u} (r:CRep h d u):Cv h d u:=by
 cases d<;>unfold CRep at r
 all_goals first | exact r.elim | (subst r;constructor) | (obtain ⟨_,rfl⟩:=r;constructor) | (obtain ⟨_,_,rfl,p,q⟩:=r;first | exact .lst p q | exact .tup p q)
mutual
theorem crep_inj {h} {d d'} {u} (a:CRep h d u) (b:CRep h d' u):d=d':=by
 cases d<;>cases crv a<;>cases crv b<;>try rfl
 ·exact (lst_tup ‹_› ‹_›).elim
 ·rename_i p r _ _ r' p'
  cases Array.mk.inj (tup_arr p p')
  rw [creps_inj r r']
 ·rename_i p r _ _ r' p'
  cases Array.mk.inj (lst_arr p p')
  rw [creps_inj r r']
 ·exact (lst_tup ‹_› ‹_›).elim
theorem creps_inj {h}:∀ {ds ds'} {us},CReps h ds us->CReps h ds' us->ds=ds'
 | [],ds',us,a,b=>by
  unfold CReps at a;subst a
  cases ds' with
  | nil=>rfl
  | cons d ds=>unfold CReps at b;obtain ⟨_,_,e,_⟩:=b;cases e
 | d :: ds,ds',us,a,b=>by
  unfold CReps at a;obtain ⟨u,r,rfl,h1,h2⟩:=a
  cases ds' with
  | nil=>unfold CReps at b;cases b
  | cons d' ds' =>
   obtain ⟨u',r',e,h3,h4⟩:=b
   cases e
   rw [crep_inj h1 h3,creps_inj h2 h4]
end
mutual
theorem peq_refl:∀ {n} {d},d.flat n=true->peq d d=true
 | _,.non,_=>by rfl
 | _,.bl b,_=>by unfold peq;simp
 | _,.int b,_=>by unfold peq;simp
 | _,.str b,_=>by unfold peq;simp
 | n + 1,.tup ds,f=>peqs_refl f
 | 0,.lst ds,f=>by unfold D.flat at f;cases f
 | n + 1,.lst ds,f=>peqs_refl f
 | _,.dct _,f=>by rw [flat_dct] at f;cases f
 | _,.obj _ _,f=>by rw [flat_obj] at f;cases f
theorem peqs_refl:∀ {n} {d},D.flats n d=true->peqs d d=true
 | _,[],_=>by rfl
 | n,d :: ds,f=>by
  unfold D.flats at f
  rw [Bool.and_eq_true] at f
  unfold peqs
  rw [peq_refl f.1,peqs_refl f.2];rfl
end
theorem flats_get:∀ {n} {ds} {j:Nat} {d},D.flats n ds=true->ds[j]?=some d->d.flat n=true
 | _,[],_,_,_,e=>by simp_all
 | n,d :: ds,j,d',f,e=>by
  unfold D.flats at f
  rw [Bool.and_eq_true] at f
  cases j with
  | zero=>simp_all
  | succ j=>exact flats_get f.2 (by simpa using e)
noncomputable def pAt (as bs:List D) (j:Nat):Bool:=match as[j]?,bs[j]? with
 | some a,some b=>peq a b
 | _,_=>true
theorem range_peqs:∀ as bs,as.length=bs.length->(List.range as.length).all (pAt as bs)=peqs as bs
 | [],[],_=>by rfl
 | a :: as,b :: bs,h=>by
  rw [List.length_cons,List.range_succ_eq_map,List.all_cons,List.all_map]
  unfold peqs
  rw [← (range_peqs as bs (by simpa using h))]
  rfl
 | _ :: _,[],h=>by simp_all
theorem peqs_len:∀ as bs,as.length≠bs.length->peqs as bs=false
 | [],[],h=>by simp_all
 | a :: as,b :: bs,h=>by
  unfold peqs
  rw [peqs_len as bs (by simpa using h),Bool.and_false]
 | [],_ :: _,_=>by rfl
 | _ :: _,[],_=>by unfold peqs;rfl
theorem tup_pall (as bs):((List.range (min as.length bs.length)).all (pAt as bs) && as.length == bs.length)=peqs as bs:=by
 by_cases e:as.length=bs.length
 ·rw [← e,Nat.min_self,range_peqs as bs e]
  simp [e]
 ·rw [peqs_len as bs e]
  grind
section
variable {s:Shared}
theorem pall_of {as bs} {us ws} {A} (ra:CReps s.heap as us) (rb:CReps s.heap bs ws)
  (h:∀ (j:Nat) (d d') (u w),as[j]?=some d->bs[j]?=some d'->CRep s.heap d u->CRep s.heap d' w->SeqAt.EqAt A s u w (peq d d')) :
  ∀ j h1 (h2:j < ws.toArray.size),SeqAt.EqAt A s us.toArray[j] ws.toArray[j] (pAt as bs j):=fun j h1 h2=>by
 have l1:=ra.len
 have l2:=rb.len
 simp at h1 h2
 have ha:j < as.length:=by lia
 have hb:j < bs.length:=by lia
 obtain ⟨u,eu,ru⟩:=ra.get (List.getElem?_eq_getElem ha)
 obtain ⟨w,ew,rw'⟩:=rb.get (List.getElem?_eq_getElem hb)
 have e1:us.toArray[j]=u:=by
  simp_all
 have e2:ws.toArray[j]=w:=by
  simp_all
 have e3:pAt as bs j=peq as[j] bs[j]:=by
  unfold pAt
  rw [List.getElem?_eq_getElem ha,List.getElem?_eq_getElem hb]
 rw [e1,e2,e3]
 exact h j _ _ u w (List.getElem?_eq_getElem ha) (List.getElem?_eq_getElem hb) ru rw'
theorem rc_eq {A} {d d'} {u w} (hu:A.units < cLine) (r:CRep s.heap d u) (r':CRep s.heap d' w)
  (el:∀ as bs (us ws),(d=.lst as\/d=.tup as)->(d'=.lst bs\/d'=.tup bs)->CReps s.heap as us->CReps s.heap bs ws->∀ j (h1) (h2:j < ws.toArray.size),SeqAt.EqAt A.in1 s us.toArray[j] ws.toArray[j] (pAt as bs j)) :
  SeqAt.RcAt A s u w (peq d d'):=by
 cases crv r<;>cases crv r'<;>unfold peq
 ·exact SeqAt.RcAt.none_none
 ·exact SeqAt.RcAt.none_bool _
 ·exact SeqAt.RcAt.none_int _ _
 ·exact SeqAt.RcAt.none_str _ _
 ·exact SeqAt.RcAt.none_list ‹_› hu
 ·exact SeqAt.RcAt.none_tuple ‹_› hu
 ·exact SeqAt.RcAt.bool_none _
 ·exact SeqAt.RcAt.bool_bool _ _
 ·exact SeqAt.RcAt.bool_int _ _ _
 ·exact SeqAt.RcAt.bool_str _ _ _
 ·exact SeqAt.RcAt.bool_list _ ‹_› hu
 ·exact SeqAt.RcAt.bool_tuple _ ‹_› hu
 ·exact SeqAt.RcAt.int_none _ _
 ·exact SeqAt.RcAt.int_bool _ _ _
 ·exact SeqAt.RcAt.int_int _ _ _ _
 ·exact SeqAt.RcAt.int_str _ _ _ _
 ·exact SeqAt.RcAt.int_list _ _ ‹_› hu
 ·exact SeqAt.RcAt.int_tuple _ _ ‹_› hu
 ·exact SeqAt.RcAt.str_none _ _
 ·exact SeqAt.RcAt.str_bool _ _ _
 ·exact SeqAt.RcAt.str_int _ _ _ _
 ·exact SeqAt.RcAt.str_str _ _ _ _
 ·exact SeqAt.RcAt.str_list _ _ ‹_› hu
 ·exact SeqAt.RcAt.str_tuple _ _ ‹_› hu
 ·exact SeqAt.RcAt.list_none ‹_› hu
 ·exact SeqAt.RcAt.list_bool _ ‹_› hu
 ·exact SeqAt.RcAt.list_int _ _ ‹_› hu
 ·exact SeqAt.RcAt.list_str _ _ ‹_› hu
 ·rename_i as a us p ra bs b ws p' rb
  have l1:=ra.len
  have l2:=rb.len
  by_cases hl:as.length=bs.length
  ·rw [← range_peqs as bs hl]
   have z:=SeqAt.RcAt.lists (A:=A) (s:=s) (e:=pAt as bs) p p' (by simp only [List.size_toArray];lia) hu (el as bs us ws (.inl rfl) (.inl rfl) ra rb)
   rw [List.size_toArray,← l1] at z
   exact z
  ·rw [peqs_len as bs hl]
   exact SeqAt.RcAt.lists_lengths p p' (by simp only [List.size_toArray,bne_iff_ne];lia) hu
 ·exact SeqAt.RcAt.list_tuple ‹_› ‹_› hu
 ·exact SeqAt.RcAt.tuple_none ‹_› hu
 ·exact SeqAt.RcAt.tuple_bool _ ‹_› hu
 ·exact SeqAt.RcAt.tuple_int _ _ ‹_› hu
 ·exact SeqAt.RcAt.tuple_str _ _ ‹_› hu
 ·exact SeqAt.RcAt.tuple_list ‹_› ‹_› hu
 ·rename_i as a us p ra bs b ws p' rb
  rw [← tup_pall as bs]
  have z:=SeqAt.RcAt.tuples (A:=A) (s:=s) (e:=pAt as bs) p p' hu (el as bs us ws (.inr rfl) (.inr rfl) ra rb)
  rw [List.size_toArray,List.size_toArray,← ra.len,← rb.len] at z
  exact z
theorem rc_ne {A} {d d'} {u w} (hu:A.units < cLine) (r:CRep s.heap d u) (r':CRep s.heap d' w)
  (el:∀ as bs (us ws),(d=.lst as\/d=.tup as)->(d'=.lst bs\/d'=.tup bs)->CReps s.heap as us->CReps s.heap bs ws->∀ j (h1) (h2:j < ws.toArray.size),SeqAt.EqAt A.in1 s us.toArray[j] ws.toArray[j] (pAt as bs j)) :
  SeqAt.RcNeAt A s u w (!peq d d'):=by
 cases crv r<;>cases crv r'<;>unfold peq
 ·exact SeqAt.RcNeAt.none_none
 ·exact SeqAt.RcNeAt.none_bool _
 ·exact SeqAt.RcNeAt.none_int _ _
 ·exact SeqAt.RcNeAt.none_str _ _
 ·exact SeqAt.RcNeAt.none_list ‹_› hu
 ·exact SeqAt.RcNeAt.none_tuple ‹_› hu
 ·exact SeqAt.RcNeAt.bool_none _
 ·exact SeqAt.RcNeAt.bool_bool _ _
 ·exact SeqAt.RcNeAt.bool_int _ _ _
 ·exact SeqAt.RcNeAt.bool_str _ _ _
 ·exact SeqAt.RcNeAt.bool_list _ ‹_› hu
 ·exact SeqAt.RcNeAt.bool_tuple _ ‹_› hu
 ·exact SeqAt.RcNeAt.int_none _ _
 ·exact SeqAt.RcNeAt.int_bool _ _ _
 ·exact SeqAt.RcNeAt.int_int _ _ _ _
 ·exact SeqAt.RcNeAt.int_str _ _ _ _
 ·exact SeqAt.RcNeAt.int_list _ _ ‹_› hu
 ·exact SeqAt.RcNeAt.int_tuple _ _ ‹_› hu
 ·exact SeqAt.RcNeAt.str_none _ _
 ·exact SeqAt.RcNeAt.str_bool _ _ _
 ·exact SeqAt.RcNeAt.str_int _ _ _ _
 ·exact SeqAt.RcNeAt.str_str _ _ _ _
 ·exact SeqAt.RcNeAt.str_list _ _ ‹_› hu
 ·exact SeqAt.RcNeAt.str_tuple _ _ ‹_› hu
 ·exact SeqAt.RcNeAt.list_none ‹_› hu
 ·exact SeqAt.RcNeAt.list_bool _ ‹_› hu
 ·exact SeqAt.RcNeAt.list_int _ _ ‹_› hu
 ·exact SeqAt.RcNeAt.list_str _ _ ‹_› hu
 ·rename_i as a us p ra bs b ws p' rb
  have l1:=ra.len
  have l2:=rb.len
  by_cases hl:as.length=bs.length
  ·rw [← range_peqs as bs hl]
   have z:=SeqAt.RcNeAt.lists (A:=A) (s:=s) (e:=pAt as bs) p p' (by simp only [List.size_toArray];lia) hu (el as bs us ws (.inl rfl) (.inl rfl) ra rb)
   rw [List.size_toArray,← l1] at z
   exact z
  ·rw [peqs_len as bs hl]
   exact SeqAt.RcNeAt.lists_lengths p p' (by simp only [List.size_toArray,bne_iff_ne];lia) hu
 ·exact SeqAt.RcNeAt.list_tuple ‹_› ‹_› hu
 ·exact SeqAt.RcNeAt.tuple_none ‹_› hu
 ·exact SeqAt.RcNeAt.tuple_bool _ ‹_› hu
 ·exact SeqAt.RcNeAt.tuple_int _ _ ‹_› hu
 ·exact SeqAt.RcNeAt.tuple_str _ _ ‹_› hu
 ·exact SeqAt.RcNeAt.tuple_list ‹_› ‹_› hu
 ·rename_i as a us p ra bs b ws p' rb
  rw [← tup_pall as bs]
  have z:=SeqAt.RcNeAt.tuples (A:=A) (s:=s) (e:=pAt as bs) p p' hu (el as bs us ws (.inr rfl) (.inr rfl) ra rb)
  rw [List.size_toArray,List.size_toArray,← ra.len,← rb.len] at z
  exact z
theorem eq_refs {A} {a a'} {b} (hid:Value.ref a=Value.ref a'->b=true) (rc:SeqAt.RcAt A s (.ref a) (.ref a') b):SeqAt.EqAt A s (.ref a) (.ref a') b:=by
 by_cases e:a=a'
 ·subst e;rw [hid rfl];exact SeqAt.EqAt.same _
 ·exact SeqAt.EqAt.of_refs e rc
theorem eq_at {A} {d d'} {u w} (hu:A.units < cLine) (r:CRep s.heap d u) (r':CRep s.heap d' w) (hid:u=w->peq d d'=true) (rc:SeqAt.RcAt A s u w (peq d d')):SeqAt.EqAt A s u w (peq d d'):=by
 cases crv r<;>cases crv r'<;>try unfold peq
 ·exact SeqAt.EqAt.same _
 ·exact SeqAt.EqAt.none_bool _
 ·exact SeqAt.EqAt.none_int _ _
 ·exact SeqAt.EqAt.none_str _ _
 ·exact SeqAt.EqAt.none_list ‹_› hu
 ·exact SeqAt.EqAt.none_tuple ‹_› hu
 ·exact SeqAt.EqAt.bool_none _
 ·exact SeqAt.EqAt.bool_bool _ _
 ·exact SeqAt.EqAt.bool_int _ _ _
 ·exact SeqAt.EqAt.bool_str _ _ _
 ·exact SeqAt.EqAt.bool_list _ ‹_› hu
 ·exact SeqAt.EqAt.bool_tuple _ ‹_› hu
 ·exact SeqAt.EqAt.int_none _ _
 ·exact SeqAt.EqAt.int_bool _ _ _
 ·exact SeqAt.EqAt.int_int _ _ _ _
 ·exact SeqAt.EqAt.int_str _ _ _ _
 ·exact SeqAt.EqAt.int_list _ _ ‹_› hu
 ·exact SeqAt.EqAt.int_tuple _ _ ‹_› hu
 ·exact SeqAt.EqAt.str_none _ _
 ·exact SeqAt.EqAt.str_bool _ _ _
 ·exact SeqAt.EqAt.str_int _ _ _ _
 ·exact SeqAt.EqAt.str_str _ _ _ _
 ·exact SeqAt.EqAt.str_list _ _ ‹_› hu
 ·exact SeqAt.EqAt.str_tuple _ _ ‹_› hu
 ·exact SeqAt.EqAt.list_none ‹_› hu
 ·exact SeqAt.EqAt.list_bool _ ‹_› hu
 ·exact SeqAt.EqAt.list_int _ _ ‹_› hu
 ·exact SeqAt.EqAt.list_str _ _ ‹_› hu
 ·exact eq_refs hid rc
 ·exact eq_refs hid rc
 ·exact SeqAt.EqAt.tuple_none ‹_› hu
 ·exact SeqAt.EqAt.tuple_bool _ ‹_› hu
 ·exact SeqAt.EqAt.tuple_int _ _ ‹_› hu
 ·exact SeqAt.EqAt.tuple_str _ _ ‹_› hu
 ·exact eq_refs hid rc
 ·exact eq_refs hid rc
theorem eqAt_C:∀ n {d d'} {u w} {A},d.flat n=true->CRep s.heap d u->CRep s.heap d' w->A.units + n < cLine->SeqAt.EqAt A s u w (peq d d')
 | n,d,d',u,w,A,f,r,r',hu=>by
  refine eq_at (by lia) r r' (fun e=>?_) (rc_eq (by lia) r r' fun as bs us ws h1 h2 ra rb=>?_)
  rotate_left
  ·cases n with
   | zero=>rcases h1 with rfl | rfl<;>(unfold D.flat at f;cases f)
   | succ n =>
    have fs:D.flats n as=true:=by rcases h1 with rfl | rfl<;>(unfold D.flat at f;exact f)
    exact pall_of ra rb fun j d d' u w e1 e2 q1 q2=>eqAt_C n (flats_get fs e1) q1 q2 (by lia)
  ·subst e
   rw [crep_inj r' r]
   exact peq_refl f
end
section
variable {X:Cx} {Z:Fx0} {K:PySem.W.Frag}
noncomputable def rEqQ (K:PySem.W.Frag):R2:=fun x y H Q=>∃ d d' as bs,RepL K H true d x as/\RepL K H true d' y bs/\d.flat 40=true/\d'.flat 40=true/\Q (.bl (peq d d')) H
noncomputable def rNeQ (K:PySem.W.Frag):R2:=fun x y H Q=>∃ d d' as bs,RepL K H true d x as/\RepL K H true d' y bs/\d.flat 40=true/\d'.flat 40=true/\Q (.bl (!peq d d')) H
theorem opEqQ (hu:X.A.units + 64 < cLine) (hK:X.K=K:=by rfl):OpR X (compareOp .Eq) (rEqQ K):=by
 subst hK
 rintro pins s σ H x y v u Q I rx ry ⟨d,d',as,bs,h1,h2,f1,f2,q⟩
 refine rc_eq (by lia) (crep_of I h1 f1 rx) (crep_of I h2 f2 ry) (fun as bs us ws e1 e2 ra rb=>pall_of ra rb fun j d d' u w e3 e4 q1 q2=>?_) _ _ _ _ ⟨.bl _,H,I,rfl,q⟩
 have fs:D.flats 39 as=true:=by rcases e1 with rfl | rfl<;>(unfold D.flat at f1;exact f1)
 exact eqAt_C 39 (flats_get fs e3) q1 q2 (by lia)
theorem opNeQ (hu:X.A.units + 64 < cLine) (hK:X.K=K:=by rfl):OpR X (compareOp .NotEq) (rNeQ K):=by
 subst hK
 rintro pins s σ H x y v u Q I rx ry ⟨d,d',as,bs,h1,h2,f1,f2,q⟩
 refine rc_ne (by lia) (crep_of I h1 f1 rx) (crep_of I h2 f2 ry) (fun as bs us ws e1 e2 ra rb=>pall_of ra rb fun j d d' u w e3 e4 q1 q2=>?_) _ _ _ _ ⟨.bl _,H,I,rfl,q⟩
 have fs:D.flats 39 as=true:=by rcases e1 with rfl | rfl<;>(unfold D.flat at f1;exact f1)
 exact eqAt_C 39 (flats_get fs e3) q1 q2 (by lia)
theorem ad_eq:Ad2 K (rEqQ K) (pu2 fEq):=by
 intro H x y s Q ox oy hf k
 unfold pu2 fEq at hf
 by_cases hc:(x.d.flat 40 && y.d.flat 40)=true
 ·rw [if_pos hc] at hf
  rw [Bool.and_eq_true] at hc
  cases Option.some.inj hf
  exact ⟨x.d,y.d,x.as,y.as,RepO.wk ox,RepO.wk oy,hc.1,hc.2,k _ H rfl rfl outB⟩
 ·simp_all
theorem ad_ne:Ad2 K (rNeQ K) (pu2 fNe):=by
 intro H x y s Q ox oy hf k
 unfold pu2 fNe at hf
 by_cases hc:(x.d.flat 40 && y.d.flat 40)=true
 ·rw [if_pos hc] at hf
  rw [Bool.and_eq_true] at hc
  cases Option.some.inj hf
  exact ⟨x.d,y.d,x.as,y.as,RepO.wk ox,RepO.wk oy,hc.1,hc.2,k _ H rfl rfl outB⟩
 ·simp_all
end
end Q
noncomputable section
namespace Q
open PySem PySem.Spec PyProof.Rows L2 L3
mutual
theorem key_flat {n:Nat} {d:D} (h:keyD n d=true):d.flat n=true:=by
 cases d<;>cases n<;>unfold keyD at h<;>first | rfl | (cases h) | skip
 exact keys_flat h
theorem keys_flat {n:Nat} {ds:List D} (h:keyDs n ds=true):D.flats n ds=true:=by
 cases ds<;>unfold keyDs at h<;>unfold D.flats
 ·rfl
 rw [Bool.and_eq_true] at h
 rw [key_flat h.1,keys_flat h.2];rfl
end
mutual
theorem key_peq {n m:Nat} {a b:D} (ha:keyD n a=true) (hb:keyD m b=true):peq a b=decide (a=b):=by
 cases a<;>first | (cases n<;>(unfold keyD at ha;cases ha);done) | (cases b<;>first | (cases m<;>(unfold keyD at hb;cases hb);done) | (simp [peq];done) | (simp [peq];first | rfl | exact Bool.beq_eq_decide_eq _ _) | skip)
 cases n<;>cases m<;>unfold keyD at ha hb<;>first | (cases ha) | (cases hb) | simpa [peq] using keys_peq ha hb
theorem keys_peq {n m:Nat} {a b:List D} (ha:keyDs n a=true) (hb:keyDs m b=true):peqs a b=decide (a=b):=by
 cases a<;>cases b<;>unfold keyDs at ha hb<;>simp [peqs]
 rw [Bool.and_eq_true] at ha hb
 rw [key_peq ha.1 hb.1,keys_peq ha.2 hb.2]
end
end Q
namespace Q
open PySem PySem.Spec PyProof.Rows L2 L3
noncomputable abbrev Sl.sd (x:Sl):Sd:=(x.o,x.d)
noncomputable def tA (Z:Fx0) (q:Bool) (cs:List Ex):TA:=fun σ H Q=>∃ E L r,Mt E σ L/\World Z.K H L/\cArgs cs E=some r/\Xc Z σ H L r /\
 ∀ E' ys,r=.ok E' ys->∀ (xs:List Sl) L' H',xs.map Sl.sd=ys->Mt E' σ L'->World Z.K H' (xs.map some++L')->Step H L H' (xs.map some++L')->(q=true->Same H H'/\∀ b∈owned (xs.map some),H b=none)->Q (xs.map Sl.v) H'
noncomputable def QA (X:Cx) (Z:Fx0) (q:Bool) (cs:List Ex) (es:List Expr):Prop:=PA X es (tA Z q cs)
theorem pa_imp {X} {es} {t t'} (h:PA X es t) (w:∀ σ H Q,t' σ H Q->t σ H Q):PA X es t':=fun pos pins s σ H Q I q=>h pos pins s σ H Q I (w σ H Q q)
section
variable {X:Cx} {Z:Fx0} {pn:List Nat} {q:Bool} {c:Ex} {cs:List Ex} {e:Expr} {es:List Expr} {pos:Pos} {σ:L2.St} {H:Hp} {L:Ls} {E:En}
theorem q_a0:QA X Z true [] []:=pa_imp pa_nil fun σ H Q h_z=>ex8 h_z fun E L r m w hc xc k=>by
 cases Option.some.inj hc
 exact k _ _ rfl [] L H rfl m w Step.refl fun _=>⟨fun _ _ z=>z,fun _ z=>(nomatch z)⟩
theorem q_a1 (h:QE X Z q c e) (hs:QA X Z q cs es) (hst:starEach (e :: es) X.env=(false,eval e X.env) :: starEach es X.env:=by rfl):QA X Z q (c :: cs) (e :: es) :=
 pa_imp (pa_cons h hs hst) fun σ H Q h_z=>ex8 h_z fun E L r m w hc xc k=>by
  refine qbind m w (hc) xc fun E1 s h1 x L1 H1 e1 e2 m1 w1 st sm=>?_
  rcases bnd_cases h1 with ⟨E2,ys,h2,h3⟩ | ⟨E2,cc,h2,h3⟩
  ·cases Option.some.inj h3
   refine ⟨E1,L1,_,m1,w1.tail,h2,(fun _ _ z=>by cases z),fun E' ys' z xs L2 H2 e3 m2 w2 st2 sm2=>?_⟩
   injection z with z1 z2
   subst z1 z2
   obtain ⟨w3,st3⟩:=hold (T:=[some x]) w1 st2 w2
   refine k _ _ rfl (x :: xs) L2 H2 (by rw [List.map_cons,e3];simp [Sl.sd,e1,e2]) m2 w3 (st.trans st3) fun hq=>?_
   obtain ⟨a1,a2⟩:=sm hq
   obtain ⟨b1,b2⟩:=sm2 hq
   refine ⟨same_trans a1 b1,fun b hb=>?_⟩
   rcases List.mem_append.mp hb with z | z
   ·exact a2 b z
   ·exact none_back a1 (b2 b z)
  ·exact ⟨E1,L1,_,m1,w1.tail,h2,(xc.step (st.trans Step.drop)).map h3,fun E' s' z=>by cases z⟩
end
section
variable {X:Cx} {Z:Fx0} {q:Bool} {cs:List Ex} {es:List Expr} {pos:Pos} {σ:L2.St} {H:Hp} {L:Ls} {E:En} {α:Type}
theorem cArgs_len:∀ {cs} {E E'} {ys},cArgs cs E=some (.ok E' ys)->ys.length=cs.length
 | [],E,E',ys,h=>by cases Option.some.inj h;rfl
 | c :: cs,E,E',ys,h=>by
  rcases bnd_cases (h) with ⟨E1,x,h1,h2⟩ | ⟨_,_,_,z⟩
  ·rcases bnd_cases h2 with ⟨E2,xs,h3,h4⟩ | ⟨_,_,_,z⟩
   ·cases Option.some.inj h4
    rw [List.length_cons,List.length_cons,cArgs_len h3]
   ·cases z
  ·cases z
theorem abind {F} {r:Res α} {G} (m:Mt E σ L) (w:World Z.K H L) (h:bnd (cArgs cs E) F=some r) (xc:Xc Z σ H L r)
  (k:∀ E1 ys,F E1 ys=some r->ys.length=cs.length->∀ (xs:List Sl) L1 H1,xs.map Sl.sd=ys->Mt E1 σ L1->World Z.K H1 (xs.map some++L1)->Step H L H1 (xs.map some++L1)->(q=true->Same H H1/\∀ b∈owned (xs.map some),H b=none)->G (xs.map Sl.v) H1):tA Z q cs σ H G:=by
 rcases bnd_cases h with ⟨E1,s,h1,h2⟩ | ⟨E1,c,h1,h2⟩
 ·exact ⟨E,L,_,m,w,h1,(fun _ _ z=>by cases z),fun E' s' z xs L' H' e1 m' w' st sm=>by
   injection z with z1 z2
   subst z1 z2
   exact k _ _ h2 (cArgs_len h1) xs L' H' e1 m' w' st sm⟩
 ·exact ⟨E,L,_,m,w,h1,xc.map h2,fun E' s' z=>by cases z⟩
theorem held_items {K} {H} (g):∀ {xs:List Sl},(∀ x∈xs,x.ok K H)->(g=false->∀ x∈xs,tight x.sd=true)->∃ bs,RepA K H g (xs.map Sl.d) (xs.map Sl.v) bs/\(∀ b∈bs,∃ x∈xs,b∈x.as)/\(g=false->bs=owned (xs.map some))/\(g=true->bs=xs.flatMap Sl.as)
 | [],_,_=>⟨[],⟨rfl,rfl⟩,fun _ h=>(nomatch h),fun _=>rfl,fun _=>rfl⟩
 | x :: xs,h,ht=>by
  obtain ⟨bs,r,hb,ho,hg⟩:=held_items g (fun y hy=>h y (List.mem_cons_of_mem _ hy)) fun hg y hy=>ht hg y (List.mem_cons_of_mem _ hy)
  have hx:=h x List.mem_cons_self
  have key:∃ cs,RepL K H g x.d x.v cs/\(∀ b∈cs,b∈x.as)/\(g=false->cs=x.own)/\(g=true->cs=x.as):=by
   cases g with
   | true=>exact ⟨x.as,RepO.wk hx,fun b hb=>hb,(fun z=>by cases z),fun _=>rfl⟩
   | false =>
    by_cases ho:x.o=.dp
    ·refine ⟨x.as,?_,fun b hb=>hb,fun _=>?_,fun z=>by cases z⟩
     ·have:=hx
      unfold Sl.ok at this
      rw [ho] at this
      exact this
     ·unfold Sl.own;rw [ho]
    ·have hp:x.d.pure=true:=by
      rcases Bool.or_eq_true_iff.mp (ht rfl x List.mem_cons_self) with z | z
      ·simp_all
      ·exact z
     obtain ⟨z,rp⟩:=RepL.pu (g':=false) (RepO.wk hx) hp
     exact ⟨[],rp,fun _ h=>(nomatch h),fun _=>(own_nil z).symm,fun z=>by cases z⟩
  obtain ⟨cs,r1,h1,h2,h3⟩:=key
  refine ⟨cs++bs,?_,fun b hb'=>?_,fun hg'=>?_,fun hg'=>?_⟩
  ·unfold RepA
   exact ⟨x.v,xs.map Sl.v,cs,bs,rfl,rfl,r1,r⟩
  ·rcases List.mem_append.mp hb' with z | z
   ·exact ⟨x,List.mem_cons_self,h1 b z⟩
   ·simp_all
  ·rw [List.map_cons,owned_some,h2 hg',ho hg']
  ·rw [List.flatMap_cons,h3 hg',hg hg']
theorem made_lst {K} {H} {p} {xs:List Sl} {L} (w:World K H (xs.map some++L)) (hp:H p=none) :
  ∃ bs,World K (upd H p (.lst (xs.map Sl.v))) (some ⟨.rt,.lst (xs.map Sl.d),.ref p,p :: bs⟩ :: L)/\Step H (xs.map some++L) (upd H p (.lst (xs.map Sl.v))) (some ⟨.rt,.lst (xs.map Sl.d),.ref p,p :: bs⟩ :: L):=by
 obtain ⟨bs,r,hb,_,_⟩:=held_items true (fun x hx=>w.ok x (List.mem_append_left _ (List.mem_map_of_mem hx))) (fun z=>by cases z)
 have ap:∀ b∈bs,b∉owned L:=fun b hb' hL=>by
  obtain ⟨x,hx,hbx⟩:=hb b hb'
  rcases Sl.as_of hbx with z | z
  ·have nd:=w.nd
   rw [owned_app,List.nodup_append] at nd
   exact nd.2.2 b (mem_owned.mpr ⟨x,List.mem_map_of_mem hx,z⟩) b hL rfl
  ·exact w.ds b (by rw [owned_app];exact List.mem_append_right _ hL) (by rw [frozen_app];exact List.mem_append_left _ (mem_frozen.mpr ⟨x,List.mem_map_of_mem hx,z⟩))
 have al:∀ b∈bs,H b≠none:=fun b hb'=>by
  obtain ⟨x,hx,hbx⟩:=hb b hb'
  exact (w.ok x (List.mem_append_left _ (List.mem_map_of_mem hx))).some hbx
 have sr:Src H (xs.map some++L) bs:=fun b hb'=>by
  obtain ⟨x,hx,hbx⟩:=hb b hb'
  rcases Sl.as_of hbx with z | z
  ·exact .inr (.inl (by rw [owned_app];exact List.mem_append_left _ (mem_owned.mpr ⟨x,List.mem_map_of_mem hx,z⟩)))
  ·exact .inl (by rw [frozen_app];exact List.mem_append_left _ (mem_frozen.mpr ⟨x,List.mem_map_of_mem hx,z⟩))
 have st:Step H (xs.map some++L) H L:=⟨fun _ _ h _=>h,fun a ha=>.inl (by rw [owned_app];exact List.mem_append_right _ ha),fun a ha=>.inl (by rw [frozen_app];exact List.mem_append_right _ ha)⟩
 exact ⟨bs,out_world (Z:=⟨K,fun _=>none,fun _ _ _=>True⟩) w.right st (out_lst hp r fun b hb=>hb) ap al sr⟩
theorem made_tup {K} {H} {p} {xs:List Sl} {L} (w:World K H (xs.map some++L)) (hp:H p=none) :
  ∃ bs,World K (upd H p (.tup (xs.map Sl.v))) (some ⟨.no,.tup (xs.map Sl.d),.ref p,bs⟩ :: L)/\Step H (xs.map some++L) (upd H p (.tup (xs.map Sl.v))) (some ⟨.no,.tup (xs.map Sl.d),.ref p,bs⟩ :: L):=by
 obtain ⟨bs,r,hb,_,_⟩:=held_items true (fun x hx=>w.ok x (List.mem_append_left _ (List.mem_map_of_mem hx))) (fun z=>by cases z)
 have ap:∀ b∈bs,b∉owned L:=fun b hb' hL=>by
  obtain ⟨x,hx,hbx⟩:=hb b hb'
  rcases Sl.as_of hbx with z | z
  ·have nd:=w.nd
   rw [owned_app,List.nodup_append] at nd
   exact nd.2.2 b (mem_owned.mpr ⟨x,List.mem_map_of_mem hx,z⟩) b hL rfl
  ·exact w.ds b (by rw [owned_app];exact List.mem_append_right _ hL) (by rw [frozen_app];exact List.mem_append_left _ (mem_frozen.mpr ⟨x,List.mem_map_of_mem hx,z⟩))
 have al:∀ b∈bs,H b≠none:=fun b hb'=>by
  obtain ⟨x,hx,hbx⟩:=hb b hb'
  exact (w.ok x (List.mem_append_left _ (List.mem_map_of_mem hx))).some hbx
 have sr:Src H (xs.map some++L) bs:=fun b hb'=>by
  obtain ⟨x,hx,hbx⟩:=hb b hb'
  rcases Sl.as_of hbx with z | z
  ·exact .inr (.inl (by rw [owned_app];exact List.mem_append_left _ (mem_owned.mpr ⟨x,List.mem_map_of_mem hx,z⟩)))
  ·exact .inl (by rw [frozen_app];exact List.mem_append_left _ (mem_frozen.mpr ⟨x,List.mem_map_of_mem hx,z⟩))
 have st:Step H (xs.map some++L) H L:=⟨fun _ _ h _=>h,fun a ha=>.inl (by rw [owned_app];exact List.mem_append_right _ ha),fun a ha=>.inl (by rw [frozen_app];exact List.mem_append_right _ ha)⟩
 exact ⟨bs,out_world (Z:=⟨K,fun _=>none,fun _ _ _=>True⟩) w.right st (out_tup hp r fun b hb=>hb) ap al sr⟩
theorem made_dp {K} {H H'} {xs:List Sl} {L} {d} {v} {ps} (w:World K H (xs.map some++L)) (ht:∀ x∈xs,tight x.sd=true) (hp:∀ b∈ps,H b=none) (nd:ps.Nodup) (sm:Same H H')
  (rep:∀ bs,RepA K H false (xs.map Sl.d) (xs.map Sl.v) bs->RepL K H' false d v (ps++bs)) :
  World K H' (some ⟨.dp,d,v,ps++owned (xs.map some)⟩ :: L)/\Step H (xs.map some++L) H' (some ⟨.dp,d,v,ps++owned (xs.map some)⟩ :: L):=by
 obtain ⟨bs,r,hb,ho,_⟩:=held_items false (fun x hx=>w.ok x (List.mem_append_left _ (List.mem_map_of_mem hx))) (fun _=>ht)
 have e:=ho rfl
 subst e
 have w2:World K H' _:=⟨fun x hx=>RepO.kp (w.ok x hx) (Kp.of_same sm),w.nd,w.ds⟩
 have ndx:=w.nd
 rw [owned_app,List.nodup_append] at ndx
 have al:∀ b∈owned _,H b≠none:=fun b hb=>w.own_some (by rw [owned_app];exact List.mem_append_left _ hb)
 refine ⟨w2.right.cons (rep _ r) ?_ (fun a ha hL=>?_) (fun a ha hf=>?_) (fun a ha=>(nomatch ha)) (fun a ha=>fun z=>(nomatch z)),⟨fun a ob h _=>sm a ob h,fun a ha=>?_,fun a ha=>?_⟩⟩
 ·show (ps++owned _).Nodup
  rw [List.nodup_append]
  exact ⟨nd,ndx.1,fun a ha b hb e=>by subst e;exact al a hb (hp a ha)⟩
 ·rcases List.mem_append.mp (ha) with z | z
  ·exact w.own_some (by rw [owned_app];exact List.mem_append_right _ hL) (hp a z)
  ·exact ndx.2.2 a z a hL rfl
 ·rcases List.mem_append.mp (ha) with z | z
  ·exact w.frz_some (by rw [frozen_app];exact List.mem_append_right _ hf) (hp a z)
  ·exact w.ds a (by rw [owned_app];exact List.mem_append_left _ z) (by rw [frozen_app];exact List.mem_append_right _ hf)
 ·rw [owned_some] at ha
  rcases List.mem_append.mp ha with z | z
  ·rcases List.mem_append.mp (z) with y | y
   ·exact .inr (hp a y)
   ·exact .inl (by rw [owned_app];exact List.mem_append_left _ y)
  ·simp_all
 ·exact .inl (by rw [frozen_app];exact List.mem_append_right _ ha)
theorem sd_d {xs:List Sl} {ys} (h:xs.map Sl.sd=ys):xs.map Sl.d=ys.map (·.2):=by rw [← h,List.map_map];rfl
theorem sd_tight {xs:List Sl} {ys} (h:xs.map Sl.sd=ys) (ht:ys.all tight=true):∀ x∈xs,tight x.sd=true:=fun x hx=>by
 rw [← h,List.all_map,List.all_eq_true] at ht
 exact ht x hx
theorem mkL_read {o} {xs:List Sl} {ys} {E'} {r} {L'} {H1} {Q:VK} {Hq} {Lq} (h:mkL o E' ys=some r) (e:xs.map Sl.sd=ys) (w:World Z.K H1 (xs.map some++L')) (st:Step Hq Lq H1 (xs.map some++L')) (sm:q=true->Same Hq H1/\∀ b∈owned (xs.map some),Hq b=none)
  (k:∀ E'' a,r=.ok E'' a->∀ x L'' H',x.o=a.1->x.d=a.2->Mt E'' σ L''->World Z.K H' (some x :: L'')->Step Hq Lq H' (some x :: L'')->(q=true->Same Hq H'/\∀ b∈x.own,Hq b=none)->Q x.v H') (m:Mt E' σ L') :
  ∀ p,H1 p=none->Q (.ref p) (upd H1 p (.lst (xs.map Sl.v))):=by
 intro p hp
 unfold mkL at h
 by_cases ho:o=.dp
 ·rw [if_pos ho] at h
  by_cases ht:ys.all tight=true
  ·rw [if_pos ht] at h
   cases Option.some.inj h
   obtain ⟨w2,s2⟩:=made_dp (d:=.lst _) w (sd_tight e ht) (fun b hb=>by rw [List.mem_singleton.mp hb];exact hp) (by simp) (same_upd hp) (fun bs r=>by
    exact ⟨p,_,bs,rfl,r.kp (Kp.of_same (same_upd hp)),.inl ⟨upd_same,rfl⟩⟩)
   refine k _ _ rfl _ L' _ rfl (by rw [sd_d e]) m w2 (st.trans s2) fun hq=>⟨same_trans (sm hq).1 (same_upd hp),fun b hb=>?_⟩
   rcases List.mem_append.mp (hb) with z | z
   ·rw [List.mem_singleton.mp z];exact none_back (sm hq).1 hp
   ·exact (sm hq).2 b z
  ·simp_all
 ·rw [if_neg ho] at h
  cases Option.some.inj h
  obtain ⟨bs,w2,s2⟩:=made_lst w hp
  refine k _ _ rfl _ L' _ rfl (by rw [sd_d e]) m w2 (st.trans s2) fun hq=>⟨same_trans (sm hq).1 (same_upd hp),fun b hb=>?_⟩
  have:b=p:=by simpa [Sl.own] using hb
  rw [this];exact none_back (sm hq).1 hp
theorem sz_of {xs:List Sl} {ys} {n} (h:xs.map Sl.sd=ys) (hl:ys.length=n) (hz:n<=1000):(xs.map Sl.v).length<=sizeLine:=by
 have:xs.length=n:=by rw [← hl,← h,List.length_map]
 rw [List.length_map,this]
 exact Nat.le_trans hz (by decide)
theorem q_lst {o} (h:QA X Z q cs es) (hz:cs.length<=1000:=by decide):QE X Z q (cLst o cs) (.List es pos):=pe_imp (pe_lst h) fun σ H Q h_z=>ex8 h_z fun E L r m w hc xc k =>
 abind m w (hc) xc fun E1 ys h1 hl xs L1 H1 e1 m1 w1 st sm=>⟨sz_of e1 hl hz,mkL_read (E':=E1) (h1) e1 w1 st sm k m1⟩
theorem q_tup {o} {x1} (h:QA X Z q cs es) (hz:cs.length<=1000:=by decide):QE X Z q (cTup o cs) (.Tuple es x1 pos):=pe_imp (pe_tup h) fun σ H Q h_z=>ex8 h_z fun E L r m w hc xc k =>
 abind m w (hc) xc fun E1 ys h1 hl xs L1 H1 e1 m1 w1 st sm=>⟨sz_of e1 hl hz,fun p hp=>by
  by_cases ho:o=.dp
  ·rw [if_pos ho] at h1
   by_cases ht:ys.all tight=true
   ·rw [if_pos ht] at h1
    cases Option.some.inj h1
    obtain ⟨w2,s2⟩:=made_dp (d:=.tup _) (ps:=[]) w1 (sd_tight e1 ht) (fun b hb=>(nomatch hb)) (by simp) (same_upd hp) (fun bs r=>by
     exact ⟨p,_,rfl,SqT.of upd_same,r.kp (Kp.of_same (same_upd hp))⟩)
    exact k _ _ rfl _ L1 _ rfl (by rw [sd_d e1]) m1 w2 (st.trans s2) fun hq=>⟨same_trans (sm hq).1 (same_upd hp),fun b hb=>(sm hq).2 b hb⟩
   ·simp_all
  ·rw [if_neg ho] at h1
   cases Option.some.inj h1
   obtain ⟨bs,w2,s2⟩:=made_tup w1 hp
   exact k _ _ rfl _ L1 _ rfl (by rw [sd_d e1]) m1 w2 (st.trans s2) fun hq=>⟨same_trans (sm hq).1 (same_upd hp),fun b hb=>(nomatch hb)⟩⟩
end
noncomputable def spF (K:PySem.W.Frag) (mg:Str->Option Value) (n:Nat) (f:Fn):Sp:=fun vs H Q E=>∃ (xs:List Sl) (r:Res Sd),vs=xs.map Sl.v/\xs.length=n/\World K H (xs.map some)/\f (xs.map Sl.sd)=some r /\
 (∀ E' c,r=.exc E' c->∀ C H',mg c=some (.ref C)->Step H (xs.map some) H' []->E (.ref C) none H') /\
 ∀ E' a,r=.ok E' a->∀ (x:Sl) H',x.o=a.1->x.d=a.2->World K H' [some x]->Step H (xs.map some) H' [some x]->Q x.v H'
theorem spF_len {K} {mg} {n} {f} {ps:List Str} (hn:ps.length=n):∀ vs H Q E,spF K mg n f vs H Q E->vs.length=ps.length:=fun vs H Q E ⟨xs,r,e,hl,_⟩=>by rw [e,List.length_map,hl,hn]
theorem mt_start:∀ (xs:List Sl) (k),Mt (xs.map (fun x=>some x.sd)++List.replicate k none) (xs.map (fun x=>some x.v)++List.replicate k none) (xs.map some++List.replicate k none)
 | [],0=>.nil
 | [],k + 1=>by
  exact .un (mt_start [] k)
 | x :: xs,k=>.cons (mt_start xs k)
theorem fn_use {X} {K} {mg} {N} {n nn} {B} {body} {H} {vs} {Q} {E} (hN:N.length=nn) (t:QSs X ⟨K,mg,E⟩ [] B body) (h:spF K mg n (fn nn B) vs H Q E) :
  ∃ t,PSs X body t/\t { nx:=fun _ H'=>Q .non H',rt:=Q } (L2.start N vs) H:=by
 refine ⟨_,t,?_⟩
 obtain ⟨xs,r,rfl,hl,w,hf,hx,hk⟩:=h
 unfold fn at hf
 rw [List.length_map,List.map_map] at hf
 have e1:L2.start N (xs.map Sl.v)=xs.map (fun x=>some x.v)++List.replicate (nn - xs.length) none:=by
  unfold L2.start
  rw [List.map_map,List.length_map,hN]
  rfl
 have wL:World K H (xs.map some++List.replicate (nn - xs.length) none):=w.same (by simp)
 have sL:Step H (xs.map some) H (xs.map some++List.replicate (nn - xs.length) none):=Step.refl.same (List.Perm.refl _) (by simp)
 cases hB:B _ with
 | none=>rw [show (some∘Sl.sd)=(fun x:Sl=>some x.sd) from rfl,hB] at hf;cases hf
 | some g =>
  rw [show (some∘Sl.sd)=(fun x:Sl=>some x.sd) from rfl,hB] at hf
  refine ⟨_,_,g,e1▸(mt_start xs (nn - xs.length)),wL,hB,?_⟩
  cases g with
  | nx E1 =>
   cases Option.some.inj hf
   intro σ' L' H' _ m' w' s'
   exact hk _ _ rfl _ H' rfl rfl (World.consPu (x:=⟨.dp,.non,.non,[]⟩) ⟨fun _ z=>(nomatch z),List.nodup_nil,fun _ z=>(nomatch z)⟩ (show RepL K H' false .non .non [] from rep_non) rfl) (stepNo ((sL.trans s').sub (by simp)) (fun b hb=>(nomatch hb)) rfl)
  | rt E1 a =>
   cases Option.some.inj hf
   intro x σ' L' H' e2 e3 _ m' w' s'
   exact hk _ _ rfl x H' e2 e3 (w'.sub (by simp)) ((sL.trans s').sub (by simp))
  | xc E1 c =>
   cases Option.some.inj hf
   intro C σ' L' H' hm _ m' w' s'
   exact hx _ _ rfl C H' hm ((sL.trans s').sub (by simp))
  | ct E1=>cases hf
  | bk E1=>cases hf
section
variable {X:Cx} {Z:Fx0} {q:Bool} {cs:List Ex} {e:Expr} {es:List Expr} {pos p:Pos} {x:Str} {ps:List Str} {k n:Nat} {f:Fn}
theorem owned_lets:∀ xs:List Sl,owned ((xs.map Sl.let).map some)=[]
 | []=>rfl
 | x :: xs=>by rw [List.map_cons,List.map_cons,owned_some,owned_lets xs];rfl
theorem frozen_lets:∀ xs:List Sl,frozen ((xs.map Sl.let).map some)=xs.flatMap Sl.as
 | []=>rfl
 | x :: xs=>by rw [List.map_cons,List.map_cons,frozen_some,frozen_lets xs];rfl
theorem lets_sd (xs:List Sl):(xs.map Sl.let).map Sl.sd=letAll (xs.map Sl.sd):=by
 unfold letAll
 rw [List.map_map,List.map_map]
 rfl
theorem world_lets {K} {H} {xs:List Sl} {L} (w:World K H (xs.map some++L)):World K H ((xs.map Sl.let).map some++L)/\Step H (xs.map some++L) H ((xs.map Sl.let).map some++L):=by
 have nd:=w.nd
 rw [owned_app,List.nodup_append] at nd
 have cl:∀ a∈xs.flatMap Sl.as,a∈owned _\/a∈frozen _:=fun a ha=>by
  obtain ⟨x,hx,hax⟩:=List.mem_flatMap.mp ha
  exact (Sl.as_of hax).imp (fun z=>mem_owned.mpr ⟨x,List.mem_map_of_mem hx,z⟩) fun z=>mem_frozen.mpr ⟨x,List.mem_map_of_mem hx,z⟩
 refine ⟨⟨fun x hx=>?_,by rw [owned_app,owned_lets];exact nd.2.1,fun a ha hf=>?_⟩,fun _ _ h _=>h,fun a ha=>?_,fun a ha=>?_⟩
 ·rcases List.mem_append.mp hx with hx | hx
  ·obtain ⟨y,hy,e⟩:=List.mem_map.mp hx
   cases e
   obtain ⟨z,hz,rfl⟩:=List.mem_map.mp hy
   exact let_ok (w.ok z (List.mem_append_left _ (List.mem_map_of_mem hz)))
  ·exact w.ok x (List.mem_append_right _ hx)
 ·rw [owned_app,owned_lets] at ha
  rw [frozen_app,frozen_lets] at hf
  rcases List.mem_append.mp hf with z | z
  ·rcases cl a z with z | z
   ·exact nd.2.2 a z a ha rfl
   ·exact w.ds a (by simp_all) (by simp_all)
  ·exact w.ds a (by simp_all) (by simp_all)
 ·rw [owned_app,owned_lets] at ha
  simp_all
 ·rw [frozen_app,frozen_lets] at ha
  rw [frozen_app,owned_app]
  rcases List.mem_append.mp ha with z | z
  ·rcases cl a z with z | z
   ·exact .inr (.inl (List.mem_append_left _ z))
   ·exact .inl (List.mem_append_left _ z)
  ·exact .inl (List.mem_append_right _ z)
theorem q_call (D:DefE X.prog X.w X.K X.mg X.base k x ps (spF Z.K Z.mg n f)) (hr:Room k X.A) (g:Goes X Z.EX) (ha:QA X Z q cs (e :: es)) (hn:cs.length=n:=by rfl) (hg:Gl X x:=by rfl) (hdb:(x == ("__debug__":Str))=false:=by decide)
  (he:starEach (e :: es) X.env=(false,eval e X.env) :: starEach es X.env:=by rfl) (hpl:(backTo pos (starEach es X.env)).any (·.1)=false:=by rfl) :
  QE X Z q (cCall f cs) (.Call (.Name x p) (e :: es) [] pos):=pe_imp (pe_fnE D hr g ha hg hdb he hpl) fun σ H Q h_z=>ex8 h_z fun E L r m w hc xc kk =>
 abind m w (hc) xc fun E1 ys h1 hl xs L1 H1 e1 m1 w1 st sm=>by
  rw [List.append_nil]
  have hlen:xs.length=n:=by rw [← hn,← hl,← e1,List.length_map]
  cases hf:f (letAll ys) with
  | none=>simp_all
  | some fr =>
   rw [hf] at h1
   obtain ⟨wl,sl⟩:=world_lets w1
   have ev:xs.map Sl.v=(xs.map Sl.let).map Sl.v:=by rw [List.map_map];rfl
   rw [ev]
   refine ⟨xs.map Sl.let,fr,rfl,by rw [List.length_map];exact hlen,wl.left,by rw [← e1] at hf;rw [lets_sd];exact hf,fun E' c ee C H' hm s'=>?_,fun E' a ee y H' e2 e3 w' s'=>?_⟩
   ·subst ee
    cases Option.some.inj h1
    obtain ⟨w2,s2⟩:=stay wl s' ⟨fun _ z=>(nomatch z),List.nodup_nil,fun _ z=>(nomatch z)⟩
    exact xc _ _ rfl C L1 H' hm m1 w2 ((st.trans sl).trans s2)
   ·subst ee
    cases Option.some.inj h1
    obtain ⟨w2,s2⟩:=stay wl s' w'
    refine kk _ _ rfl y L1 H' e2 e3 m1 w2 ((st.trans sl).trans s2) fun hq=>?_
    obtain ⟨a1,a2⟩:=sm hq
    refine ⟨fun b ob hb=>s'.keep b ob (a1 b ob hb) fun z=>?_,fun b hb=>?_⟩
    ·rw [owned_lets] at z;exact nomatch z
    ·rcases s'.own b (List.mem_append_left _ hb) with z | z
     ·rw [owned_lets] at z;exact nomatch z
     ·exact none_back a1 z
end
end Q
namespace Q
open PySem PySem.Spec PyProof.Rows L2 L3
noncomputable def rRepR (K:PySem.W.Frag):R2:=fun x y H Q=>∃ l k xs,x=.ref l/\y=.int k/\LsR K H l xs/\-(2 ^ 63)<=k/\k < 2 ^ 63/\xs.length * k.toNat<=sizeLine /\
 ∀ p,H p=none->Q (.ref p) (upd H p (.lst (List.replicate k.toNat xs).flatten))
theorem op_repR {X}:OpR X (binaryOp .Mult) (rRepR X.K):=by
 rintro pins s σ H x y v u Q I rx ry ⟨l,k,xs,rfl,rfl,hH,h1,h2,hz,q⟩
 cases rx
 obtain ⟨t,rfl⟩:=ry
 obtain ⟨z,its,n,r,e⟩:=hH.is I
 have hlen:its.toArray.size * k.toNat<=sizeLine:=by rw [List.size_toArray,← r.length];exact hz
 have hcap:¬ its.toArray.size * k.toNat > (2 ^ 63 - 1) / 8:=by
  have:sizeLine<=(2 ^ 63 - 1) / 8:=by decide
  lia
 have hfit:¬ (!Builtin.List.listFitsIndex k)=true:=by
  rw [fitsIndex_both h1 h2]
  exact Bool.false_ne_true
 have hlong:¬ Builtin.List.listTooLong (its.toArray.size * k.toNat)=true:=by
  rw [notLongL hlen]
  exact Bool.false_ne_true
 have hnew:List.foldl (fun x1 x2=>x1++x2) #[] (List.replicate (if its.toArray.isEmpty=true then 0 else k.toNat) its.toArray)=(List.replicate k.toNat its).flatten.toArray:=by
  have f0:∀ m,List.foldl (fun x1 x2=>x1++x2) #[] (List.replicate m its.toArray)=(List.replicate m its).flatten.toArray:=fun m=>by
   have:=foldl_rep its m []
   simp_all
  cases its with
  | nil=>simp
  | cons a r'=>simp_all
 refine wpAny_binaryOp_repeat_ref (by decide) ⟨_,e,rfl⟩ (fun s'=>typeIs_int s' k t) noFill_list_mul F.fills_int_mul F.slot_int_rmul repeat_list F.slot_int_index.lookup
  (call_meets F.slot_int_rmul (typeIs_int s k t) F.entry_int_rmul (F.args_int_rmul_2 _ _) (int___rmul___int_list k t l its.toArray n)
   ⟨e,rfl,⟨_,e,rfl⟩,call_meets F.slot_list_mul ⟨_,e,rfl⟩ F.entry_list_mul (F.args_list_mul_2 _ _) (AutoListH.list___mul___list_int_3 l its.toArray n k t hfit hcap hlong) ⟨e,?_⟩⟩)
 rw [hnew]
 exact ⟨.ref _,_,I.lnew (t':=s.toks) (r.rep k.toNat) (by rw [len_rep,Nat.mul_comm];exact hz),rfl,q _ I.fresh⟩
noncomputable def rMulQ (K:PySem.W.Frag):R2:=fun x y H Q=>rI IntMulOk (fun i j=>.int (i * j)) x y H Q\/rRepR K x y H Q\/rRepS x y H Q
theorem opMulQ {X} {K} (hK:X.K=K:=by rfl):OpR X (binaryOp .Mult) (rMulQ K):=by subst hK;exact op_mulI.or (op_repR.or op_repS)
theorem log2_lt4 {a} (h:a.natAbs.log2 < 2000000):Builtin.Int.intBits a<=2000000:=by
 unfold Builtin.Int.intBits
 split
 ·simp_all
 ·omega
theorem mulOk_of {a b} (h:mulOk a b=true):IntMulOk a b:=by
 unfold mulOk short at h
 simp at h
 rcases h with (h | h) | h
 ·exact .of_left (intBits_le_64 h.1 h.2)
 ·exact .of_right (intBits_le_64 h.1 h.2)
 ·have h1:=log2_lt4 h.1
  have h2:=log2_lt4 h.2
  unfold IntMulOk Builtin.Int.intTooBig
  have e:2 ^ 27=134217728:=by decide
  have hb:bitsLine=134217728:=e
  grind
theorem RepA.reps {K} {H} {ds} {xs} {bs} (h:RepA K H true ds xs bs):∀ k,∃ cs,RepA K H true (List.replicate k ds).flatten (List.replicate k xs).flatten cs/\∀ b∈cs,b∈bs
 | 0=>⟨[],by simp only [List.replicate_zero,List.flatten_nil];unfold RepA;exact ⟨rfl,rfl⟩,fun _ z=>(nomatch z)⟩
 | k + 1=>by
  obtain ⟨cs,r,hc⟩:=RepA.reps h k
  exact ⟨bs++cs,r.app h,fun b hb=>(List.mem_append.mp hb).elim id (hc b)⟩
theorem ad_mul {K}:Ad2 K (rMulQ K) fMul:=by
 intro H x y s Q ox oy hf k
 unfold fMul at hf
 dsimp only at hf
 split at hf
 ·rename_i i j e1 e2
  split at hf
  ·rename_i hm
   cases Option.some.inj hf
   exact .inl ⟨i,j,of_int ox e1,of_int oy e2,mulOk_of hm,k _ H rfl rfl outI⟩
  ·cases hf
 ·rename_i a n e1 e2
  split at hf
  ·rename_i hc
   cases Option.some.inj hf
   obtain ⟨l,xs,bs,e3,q3,r3,h3⟩:=items_loose ox (.inl e1) hc.2.2.2
   have q3:LsR K H l xs:=by rcases q3 with ⟨_,z⟩ | ⟨z,_⟩;exact z;rw [e1] at z;cases z
   obtain ⟨cs,r4,h4⟩:=r3.reps n.toNat
   exact .inr (.inl ⟨l,n,xs,e3,of_int oy e2,q3,hc.1,hc.2.1,by rw [← r3.len];exact hc.2.2.1,fun p hp=>(k _ _ rfl rfl (out_lst hp r4 fun b hb=>List.mem_append_left _ (h3 b (h4 b hb))))⟩)
  ·cases hf
 ·rename_i z n e1 e2
  split at hf
  ·rename_i hc
   cases Option.some.inj hf
   exact .inr (.inr ⟨z,n,(of_str ox e1).1,of_int oy e2,hc.1,k _ H rfl rfl (outS hc.2)⟩)
  ·cases hf
 ·cases hf
noncomputable def dec (h:Heap) (u:Value):D:=open Classical in if e:∃ d,CRep h d u then e.choose else .non
theorem dec_eq {h} {u} {d} (r:CRep h d u):dec h u=d:=by
 unfold dec
 have e:∃ d,CRep h d u:=⟨d,r⟩
 rw [dif_pos e]
 exact crep_inj e.choose_spec r
theorem any_dec {h} {d}:∀ {ds} {us},CReps h ds us->us.any (fun u=>peq (dec h u) d)=ds.any fun z=>peq z d
 | [],_,r=>by rw [r];rfl
 | z :: ds,_,r=>by
  obtain ⟨u,rr,rfl,h1,h2⟩:=r
  rw [List.any_cons,List.any_cons,dec_eq h1,any_dec h2]
theorem mem_crep {h}:∀ {ds} {us} {u},CReps h ds us->u∈us->∃ d∈ds,CRep h d u
 | [],_,_,r,hu=>by rw [r] at hu;cases hu
 | z :: ds,_,u,r,hu=>by
  obtain ⟨u',rr,rfl,h1,h2⟩:=r
  rcases List.mem_cons.mp hu with rfl | hu
  ·exact ⟨z,List.mem_cons_self,h1⟩
  ·obtain ⟨d,hd,c⟩:=mem_crep h2 hu
   exact ⟨d,List.mem_cons_of_mem _ hd,c⟩
theorem flats_mem:∀ {n} {ds} {d},D.flats n ds=true->d∈ds->d.flat n=true
 | _,[],_,_,h=>by grind
 | n,z :: ds,d,f,h=>by
  unfold D.flats at f
  rw [Bool.and_eq_true] at f
  rcases List.mem_cons.mp h with rfl | h
  ·exact f.1
  ·exact flats_mem f.2 h
section
variable {X:Cx} {Z:Fx0} {K:PySem.W.Frag} {q qa qb:Bool} {a b c:Ex} {u v:Ts} {e ea eb:Expr} {es:List Expr} {pos p:Pos} {σ:L2.St} {H:Hp} {L:Ls} {E:En}
noncomputable def rInSeq (K:PySem.W.Frag) (neg:Bool):R2:=fun x y H Q=>∃ d ds as bs p xs,RepL K H true d x as/\y=.ref p/\(SqL K H p xs\/SqT K H p xs)/\RepA K H true ds xs bs/\d.flat 30=true/\D.flats 30 ds=true/\Q (.bl (if neg then !(ds.any fun z=>peq z d) else ds.any fun z=>peq z d)) H
theorem opInSeq (hu:X.A.units + 64 < cLine):OpR X (compareOp .In) (rInSeq X.K false):=by
 rintro pins s σ H x y v u Q I rx ry ⟨d,ds,as,bs,p,xs,h1,rfl,hq,ra,f1,f2,q⟩
 cases ry
 have he:∀ {us},CReps s.heap ds us->∀ w,w∈us.toArray->SeqAt.EqAt X.A.in1 s w v (peq (dec s.heap w) d):=fun {us} cr w hw=>by
  obtain ⟨d',hd,c⟩:=mem_crep cr (by simpa using hw)
  rw [dec_eq c]
  exact eqAt_C 30 (flats_mem f2 hd) c (crep_of I h1 f1 rx) (by grind)
 rcases hq with hq | hq
 ·obtain ⟨its,r,pl,hz⟩:=I.list hq
  have cr:=creps_of I ra f2 r
  refine SeqAt.in_listAt _ pl.isList (he cr) ⟨.bl _,H,I,rfl,?_⟩
  rwa [List.any_toArray,any_dec cr]
 ·obtain ⟨its,r,pl,hz⟩:=I.tuple hq
  have cr:=creps_of I ra f2 r
  refine SeqAt.in_tupleAt _ pl (he cr) ⟨.bl _,H,I,rfl,?_⟩
  rwa [List.any_toArray,any_dec cr]
theorem opNotInSeq (hu:X.A.units + 64 < cLine):OpR X (compareOp .NotIn) (rInSeq X.K true):=by
 rintro pins s σ H x y v u Q I rx ry ⟨d,ds,as,bs,p,xs,h1,rfl,hq,ra,f1,f2,q⟩
 cases ry
 have he:∀ {us},CReps s.heap ds us->∀ w,w∈us.toArray->SeqAt.EqAt X.A.in1 s w v (peq (dec s.heap w) d):=fun {us} cr w hw=>by
  obtain ⟨d',hd,c⟩:=mem_crep cr (by simpa using hw)
  rw [dec_eq c]
  exact eqAt_C 30 (flats_mem f2 hd) c (crep_of I h1 f1 rx) (by grind)
 rcases hq with hq | hq
 ·obtain ⟨its,r,pl,hz⟩:=I.list hq
  have cr:=creps_of I ra f2 r
  refine SeqAt.notIn_listAt _ pl.isList (he cr) ⟨.bl _,H,I,rfl,?_⟩
  rwa [List.any_toArray,any_dec cr]
 ·obtain ⟨its,r,pl,hz⟩:=I.tuple hq
  have cr:=creps_of I ra f2 r
  refine SeqAt.notIn_tupleAt _ pl (he cr) ⟨.bl _,H,I,rfl,?_⟩
  rwa [List.any_toArray,any_dec cr]
noncomputable def rInStr (neg:Bool):R2:=fun x y H Q=>∃ i j,x=.str i/\y=.str j/\Q (.bl (if neg then !fInS i j else fInS i j)) H
theorem opInStr:OpR X (compareOp .In) (rInStr false):=fun pins s σ H x y v u Q I rx ry ⟨i,j,e1,e2,q⟩=>op_in_str pins s σ H x y v u Q I rx ry ⟨i,j,e1,e2,q⟩
theorem opNotInStr:OpR X (compareOp .NotIn) (rInStr true):=fun pins s σ H x y v u Q I rx ry ⟨i,j,e1,e2,q⟩=>op_notIn_str pins s σ H x y v u Q I rx ry ⟨i,j,e1,e2,q⟩
noncomputable def rInQ (K:PySem.W.Frag) (neg:Bool):R2:=fun x y H Q=>rInStr neg x y H Q\/rInSeq K neg x y H Q
theorem opInQ (hu:X.A.units + 64 < cLine) (hK:X.K=K:=by rfl):OpR X (compareOp .In) (rInQ K false):=by subst hK;exact opInStr.or (opInSeq hu)
theorem opNotInQ (hu:X.A.units + 64 < cLine) (hK:X.K=K:=by rfl):OpR X (compareOp .NotIn) (rInQ K true):=by subst hK;exact opNotInStr.or (opNotInSeq hu)
theorem rd_sq {H} {l} {xs} (h:LsR K H l xs):SqL K H l xs:=h.sq
theorem in_read {x y:Sl} {ys} {neg:Bool} {Q} (ox:x.ok K H) (oy:y.ok K H) (hy:y.d=.lst ys\/y.d=.tup ys) (hc:(x.d.flat 30 && D.flats 30 ys)=true)
  (k:Q (.bl (if neg then !(ys.any fun z=>peq z x.d) else ys.any fun z=>peq z x.d)) H):rInQ K neg x.v y.v H Q:=by
 rw [Bool.and_eq_true] at hc
 obtain ⟨l,xs,bs,e3,q3,r3,_⟩:=items oy hy
 have r3':RepA K H true ys xs bs:=by
  cases ho:(y.o != .dp) with
  | true=>rw [ho] at r3;exact r3
  | false=>rw [ho] at r3;exact r3.wk
 refine .inr ⟨x.d,ys,x.as,bs,l,xs,RepO.wk ox,e3,?_,r3',hc.1,hc.2,k⟩
 rcases q3 with ⟨_,z⟩ | ⟨_,z⟩
 ·exact .inl (rd_sq z)
 ·exact .inr z
theorem ad_in:Ad2 K (rInQ K false) (pu2 fInQ):=by
 intro H x y s Q ox oy hf k
 unfold pu2 fInQ fIn at hf
 dsimp only at hf
 cases hy:y.d with
 | lst ys =>
  rw [hy] at hf
  dsimp only at hf
  split at hf
  ·rename_i hc
   cases Option.some.inj hf
   exact in_read ox oy (.inl hy) hc (k _ H rfl rfl outB)
  ·cases hf
 | tup ys =>
  rw [hy] at hf
  dsimp only at hf
  split at hf
  ·rename_i hc
   cases Option.some.inj hf
   exact in_read ox oy (.inr hy) hc (k _ H rfl rfl outB)
  ·cases hf
 | str b =>
  rw [hy] at hf
  dsimp only at hf
  split at hf
  ·rename_i a hx
   cases Option.some.inj hf
   exact .inl ⟨a,b,(of_str ox hx).1,(of_str oy hy).1,k _ H rfl rfl outB⟩
  ·cases hf
 | _=>simp_all
theorem ad_notin:Ad2 K (rInQ K true) (pu2 fNotInQ):=by
 intro H x y s Q ox oy hf k
 unfold pu2 fNotInQ fNotIn fIn at hf
 dsimp only at hf
 cases hy:y.d with
 | lst ys =>
  rw [hy] at hf
  dsimp only at hf
  split at hf
  ·rename_i hc
   cases Option.some.inj hf
   exact in_read ox oy (.inl hy) hc (k _ H rfl rfl outB)
  ·cases hf
 | tup ys =>
  rw [hy] at hf
  dsimp only at hf
  split at hf
  ·rename_i hc
   cases Option.some.inj hf
   exact in_read ox oy (.inr hy) hc (k _ H rfl rfl outB)
  ·cases hf
 | str b =>
  rw [hy] at hf
  dsimp only at hf
  split at hf
  ·rename_i a hx
   cases Option.some.inj hf
   exact .inl ⟨a,b,(of_str ox hx).1,(of_str oy hy).1,k _ H rfl rfl outB⟩
  ·cases hf
 | _=>rw [hy] at hf;cases hf
theorem repl_non {g} {d} {v} {as} (h:RepL K H g d v as):decide (v=.non)=isNon d:=by
 cases d with
 | non=>unfold RepL at h;rw [h.1];rfl
 | bl _=>unfold RepL at h;rw [h.1];rfl
 | int _=>unfold RepL at h;rw [h.1];rfl
 | str _=>unfold RepL at h;rw [h.1];rfl
 | tup _=>unfold RepL at h;obtain ⟨a,xs,e,_⟩:=h;rw [e];rfl
 | lst _=>unfold RepL at h;obtain ⟨a,xs,bs,e,_⟩:=h;rw [e];rfl
 | dct _=>unfold RepL at h;obtain ⟨a,xs,bs,e,_⟩:=h;rw [e];rfl
 | obj _ _=>unfold RepL at h;obtain ⟨_,x,o,C,e,_⟩:=h;rw [e];rfl
theorem ad_isN:Ad2 K (fun x y H Q=>y=.non/\Q (.bl (decide (x=.non))) H) (f2First fIsNon):=by
 intro H x y s Q ox oy hf k
 unfold f2First fIsNon at hf
 split at hf
 ·rename_i hy
  cases Option.some.inj hf
  have e:=repl_non (RepO.wk oy)
  rw [hy] at e
  refine ⟨of_decide_eq_true e,?_⟩
  rw [repl_non (RepO.wk ox)]
  exact k _ H rfl rfl outB
 ·grind
theorem ad_notN:Ad2 K (fun x y H Q=>y=.non/\Q (.bl (!decide (x=.non))) H) (f2First fNotNon):=by
 intro H x y s Q ox oy hf k
 unfold f2First fNotNon at hf
 split at hf
 ·rename_i hy
  cases Option.some.inj hf
  have e:=repl_non (RepO.wk oy)
  rw [hy] at e
  refine ⟨of_decide_eq_true e,?_⟩
  rw [repl_non (RepO.wk ox)]
  exact k _ H rfl rfl outB
 ·grind
theorem ad_neg:Ad1 K (rU fun i=>.int (-i)) (pu1 fNeg):=by
 intro H x s Q ox hf k
 unfold pu1 fNeg at hf
 split at hf
 ·rename_i i e
  cases Option.some.inj hf
  exact ⟨i,of_int ox e,k _ H rfl rfl outI⟩
 ·cases hf
theorem ixN_eq n i:_root_.Q.ixN n i=L2.ixN n i:=rfl
theorem ix_read {x y:Sl} {d} {Q} (ox:x.ok K H) (oy:y.ok K H) (hf:fIxQ x.d y.d=some d) (k:∀ z:Sl,z.o=sub x.o->z.d=d->z.ok K H->(∀ b∈z.frz,b∈x.frz)->(∀ b∈z.as,b∈x.as)->Q z.v H):rIx K x.v y.v H Q:=by
 have seq:∀ ds,(x.d=.lst ds\/x.d=.tup ds)->∀ i,y.d=.int i->((_root_.Q.ixN ds.length i).bind fun j=>ds[j]?)=some d->rIx K x.v y.v H Q:=by
  intro ds hx i hy hd
  obtain ⟨l,xs,bs,e3,q3,r3,h3,h4⟩:=items ox hx
  cases hj:_root_.Q.ixN ds.length i with
  | none=>grind
  | some j =>
   rw [hj] at hd
   obtain ⟨v,cs,e4,r4,h5⟩:=r3.get (hd)
   have hat:atI xs i=some v:=by
    unfold atI
    rwa [← r3.len,← ixN_eq,hj]
   have fin:Q v H:=by
    cases ho:x.o with
    | dp =>
     rw [ho] at r4
     exact k ⟨.dp,d,v,cs⟩ (by rw [ho];rfl) rfl r4 (fun b hb=>(nomatch hb)) fun b hb=>h3 b (h5 b hb)
    | no =>
     rw [ho] at r4
     exact k ⟨.no,d,v,cs⟩ (by rw [ho];rfl) rfl r4 (fun b hb=>h4 (by lia) b (h5 b hb)) fun b hb=>h3 b (h5 b hb)
    | rt =>
     rw [ho] at r4
     exact k ⟨.no,d,v,cs⟩ (by rw [ho];rfl) rfl r4 (fun b hb=>h4 (by lia) b (h5 b hb)) fun b hb=>h3 b (h5 b hb)
   rcases q3 with ⟨_,z⟩ | ⟨_,z⟩
   ·exact .inl ⟨l,xs,i,v,e3,of_int oy hy,rd_sq z,hat,fin⟩
   ·exact .inr (.inl ⟨l,xs,i,v,e3,of_int oy hy,z,hat,fin⟩)
 unfold fIxQ at hf
 cases hx:x.d with
 | lst ds =>
  rw [hx] at hf
  cases hy:y.d with
  | int i=>rw [hy] at hf;exact seq ds (.inl hx) i hy hf
  | _=>rw [hy] at hf;cases hf
 | tup ds =>
  rw [hx] at hf
  cases hy:y.d with
  | int i=>rw [hy] at hf;exact seq ds (.inr hx) i hy hf
  | _=>rw [hy] at hf;cases hf
 | str z =>
  rw [hx] at hf
  cases hy:y.d with
  | int i =>
   rw [hy] at hf
   have hf:((_root_.Q.ixN z.cps.size i).bind fun j=>(z.cps.toList[j]?).map fun c=>D.str ⟨#[c]⟩)=some d:=hf
   cases hj:_root_.Q.ixN z.cps.size i with
   | none=>grind
   | some j =>
    rw [hj] at hf
    cases hc:z.cps.toList[j]? with
    | none=>rw [Option.bind_some,hc] at hf;cases hf
    | some c =>
     rw [Option.bind_some,hc] at hf
     cases Option.some.inj hf
     have hat:atI z.cps.toList i=some c:=by
      unfold atI
      rwa [Array.length_toList,← ixN_eq,hj]
     obtain ⟨e1,hz⟩:=of_str ox hx
     refine .inr (.inr ⟨z,i,c,e1,of_int oy hy,hz,hat,?_⟩)
     have rp:∀ g,RepL K H g _ (.str ⟨#[c]⟩) []:=fun g=>rep_str (show 1<=sizeLine by decide)
     cases ho:x.o with
     | dp=>exact k ⟨.dp,.str ⟨#[c]⟩,.str ⟨#[c]⟩,[]⟩ (by rw [ho];rfl) rfl (rp false) (fun b hb=>(nomatch hb)) fun b hb=>(nomatch hb)
     | no=>exact k ⟨.no,.str ⟨#[c]⟩,.str ⟨#[c]⟩,[]⟩ (by rw [ho];rfl) rfl (rp true) (fun b hb=>(nomatch hb)) fun b hb=>(nomatch hb)
     | rt=>exact k ⟨.no,.str ⟨#[c]⟩,.str ⟨#[c]⟩,[]⟩ (by rw [ho];rfl) rfl (rp true) (fun b hb=>(nomatch hb)) fun b hb=>(nomatch hb)
  | _=>rw [hy] at hf;cases hf
 | non=>rw [hx] at hf;cases hf
 | bl _=>rw [hx] at hf;cases hf
 | int _=>rw [hx] at hf;cases hf
 | dct _=>simp_all
 | obj _ _=>rw [hx] at hf;cases hf
theorem q_ix (ha:QV X Z qa a ea) (hb:QV X Z true b eb) (hs:PlainIx eb) (hK:X.K=Z.K:=by rfl):QV X Z qa (vIxQ a b) (.Subscript ea eb pos) :=
 pe_imp (pe_ix (hK▸ix_seq) ha hb hs) fun σ H Q h_z=>ex8 h_z fun E L r m w hc xc k=>by
  refine vbind m w (hc) xc fun E1 s h1 x L1 H1 e1 e2 m1 w1 ok fr sr st sm=>(vbind m1 w1 h1 (xc.step st) fun E2 s2 h2 y L2 H2 e3 e4 m2 w2 ok2 fr2 sr2 st2 sm2=>?_)
  obtain ⟨z,hz,rfl⟩:=val_inv h2
  cases hf:fIxQ s.2 s2.2 with
  | none=>simp_all
  | some d =>
   rw [hf] at hz
   cases Option.some.inj hz
   have kx:=view_keep ok fr st2 (sm2 rfl)
   exact ix_read kx.1 ok2 (by rw [e2,e4];exact hf) fun z zo zd zok zf za=>k _ _ rfl z L2 H2 (by simp_all) zd m2 w2 zok (fun b hb=>kx.2 b (zf b hb)) (src_mono sr za) (st.trans st2) fun hq=>same_trans (sm hq) (sm2 rfl)
theorem q_cIf (ht:QT X Z q u e) (ha:QE X Z q a ea) (hb:QE X Z q b eb):QE X Z q (cIf u a b) (.IfExp e ea eb pos):=pe_imp (pe_ifExp ht ha hb) fun σ H Q h_z=>ex8 h_z fun E L r m w hc xc k =>
 tbind m w (hc) xc fun E1 s h1 L1 H1 m1 w1 st sm=>by
  have fin:∀ {c},c E1=some r->tQ Z q c σ H1 Q:=fun hc=>⟨E1,L1,r,m1,w1,hc,xc.step st,fun E' a z x L' H' e1 e2 m' w' st' sm'=>k E' a z x L' H' e1 e2 m' w' (st.trans st') fun hq=>⟨same_trans (sm hq) (sm' hq).1,fun b hb=>none_back (sm hq) ((sm' hq).2 b hb)⟩⟩
  cases s with
  | true=>simp_all
  | false=>rw [if_neg (by simp)] at h1 ⊢;exact fin h1
theorem q_one' {op} (h:QE X Z q a ea):QE X Z q a (.BoolOp op [ea] pos):=pe_one h
theorem q_and (ha:QV X Z q a ea) (hb:QE X Z q b (.BoolOp .And (eb :: es) pos)):QE X Z q (cAnd a b) (.BoolOp .And (ea :: eb :: es) pos):=pe_imp (pe_and ha hb) fun σ H Q h_z=>ex8 h_z fun E L r m w hc xc k =>
 vbind m w (hc) xc fun E1 s h1 x L1 H1 e1 e2 m1 w1 ok fr sr st sm=>by
  cases hs:s.2 with
  | bl kk =>
   rw [hs] at h1
   refine ⟨kk,of_bl ok (e2.trans hs),?_⟩
   cases kk with
   | true =>
    exact ⟨E1,L1,r,m1,w1,h1,xc.step st,fun E' a z x L' H' e1 e2 m' w' st' sm'=>k E' a z x L' H' e1 e2 m' w' (st.trans st') fun hq=>⟨same_trans (sm hq) (sm' hq).1,fun b hb=>none_back (sm hq) ((sm' hq).2 b hb)⟩⟩
   | false =>
    cases Option.some.inj h1
    obtain ⟨w3,st3⟩:=out_world w1 st (outB (fr:=[])) (fun _ z=>(nomatch z)) (fun _ z=>(nomatch z)) (fun _ z=>(nomatch z))
    exact k _ _ rfl _ L1 H1 rfl rfl m1 w3 st3 fun hq=>⟨sm hq,fun _ z=>(nomatch z)⟩
  | _=>rw [hs] at h1;cases h1
theorem truV {x:Sl} {k} (ok:x.ok K H) (h:truth x.d=some k) (hd:∀ kvs,x.d≠.dct kvs):TruV K x.v H k:=by
 cases hx:x.d with
 | non=>rw [hx] at h;rw [of_non ok hx];exact (Option.some.inj h).symm
 | bl b=>rw [hx] at h;rw [of_bl ok hx];exact (Option.some.inj h).symm
 | int i=>rw [hx] at h;rw [of_int ok hx];exact (Option.some.inj h).symm
 | str z =>
  rw [hx] at h
  obtain ⟨e,hz⟩:=of_str ok hx
  rw [e]
  refine ⟨hz,?_⟩
  rw [← Option.some.inj h]
  show _=(((z.cps.size:Nat):Int) != 0)
  rw [Bool.eq_iff_iff]
  simp
 | lst ds =>
  rw [hx] at h
  obtain ⟨a,xs,bs,e,q,r,_⟩:=items ok (.inl hx)
  rw [e]
  have q':LsR K H a xs:=by rcases q with ⟨_,z⟩ | ⟨z,_⟩;exact z;rw [hx] at z;cases z
  refine .inl ⟨xs,rd_sq q',?_⟩
  rw [← Option.some.inj h]
  have:=r.len
  cases ds<;>cases xs<;>simp_all
 | tup ds =>
  rw [hx] at h
  obtain ⟨a,xs,bs,e,q,r,_⟩:=items ok (.inr hx)
  rw [e]
  have q':SqT K H a xs:=by rcases q with ⟨z,_⟩ | ⟨_,z⟩;rw [hx] at z;cases z;exact z
  refine .inr (.inl ⟨xs,q',?_⟩)
  rw [← Option.some.inj h]
  have:=r.len
  cases ds<;>cases xs<;>simp_all
 | dct kvs=>exact absurd hx (hd kvs)
 | obj c f=>rw [hx] at h;cases h
theorem truthQ_of {d} {k} (h:truthQ d=some k):truth d=some k/\∀ kvs,d≠.dct kvs:=by
 cases d<;>first | exact ⟨h,fun _ z=>nomatch z⟩ | cases h
theorem q_truth (h:QV X Z q a ea) (he:∀ whole,isTrue ea X.env whole=(do let v ← whole;standAt ea.pos;holding [v] (truthy v)):=by intro _;rfl) (hK:X.K=Z.K:=by rfl):QT X Z q (tEQ a) ea:=pt_imp (pt_truth h he) fun σ H Q h_z=>ex8 h_z fun E L r m w hc xc k =>
 vbind m w (show bnd (a E) _=some r from hc) xc fun E1 s h1 x L1 H1 e1 e2 m1 w1 ok fr sr st sm=>by
  obtain ⟨kk,hk,rfl⟩:=val_inv h1
  obtain ⟨h2,h3⟩:=truthQ_of hk
  exact ⟨kk,hK▸truV ok (by rw [e2];exact h2) (by rw [e2];exact h3),k _ _ rfl L1 H1 m1 w1 st sm⟩
theorem q_not (h:QV X Z q a ea) (hK:X.K=Z.K:=by rfl):QE X Z q (cNotQ a) (.UnaryOp .Not ea pos):=by
 intro pins s σ H Q I ⟨E,L,r,m,w,hc,xc,k⟩
 refine UnaryOp_ (thn (h pins s σ H _ I (vbind (G:=fun v H1=>∃ kk,TruV X.K v H1 kk/\Q (.bl (!kk)) H1) m w (hc) xc fun E1 s h1 x L1 H1 e1 e2 m1 w1 ok fr sr st sm=>?_)) fun v s1 ⟨x,H1,I1,r1,kk,t1,q1⟩=>?_)
 ·obtain ⟨y,hy,rfl⟩:=val_inv h1
  cases hk:truthQ s.2 with
  | none=>simp_all
  | some kk =>
   rw [hk] at hy
   cases Option.some.inj hy
   obtain ⟨h2,h3⟩:=truthQ_of hk
   refine ⟨kk,hK▸truV ok (by rw [e2];exact h2) (by rw [e2];exact h3),?_⟩
   obtain ⟨w3,st3⟩:=out_world w1 st (outB (fr:=[])) (fun _ z=>(nomatch z)) (fun _ z=>(nomatch z)) (fun _ z=>(nomatch z))
   exact k _ _ rfl _ L1 H1 rfl rfl m1 w3 st3 fun hq=>⟨sm hq,fun _ z=>(nomatch z)⟩
 ·exact not_of (thn (tru_ok pins s1 σ H1 x v _ I1 r1 ⟨kk,t1,q1⟩) fun c s2 ⟨H2,I2,q2⟩=>⟨.bl _,H2,I2,rfl,q2⟩)
end
end Q
namespace Q
open PySem PySem.Spec PyProof.Rows L2 L3
theorem at_split {α:Type}:∀ {L} {i} {q:α},L[i]?=some q->∃ A B,L=A++q :: B/\∀ q',L.set i q'=A++q' :: B
 | [],_,_,h=>by simp at h
 | a :: L,0,q,h=>by
  have e:a=q:=by simpa using h
  subst e
  exact ⟨[],L,rfl,fun _=>rfl⟩
 | a :: L,i + 1,q,h=>by
  obtain ⟨A,B,e,f⟩:=at_split (by simpa using h)
  exact ⟨a :: A,B,by rw [e];rfl,fun q'=>by rw [List.set_cons_succ,f];rfl⟩
section
variable {K:PySem.W.Frag} {H:Hp} {M T L:Ls} {y y':Sl} {l:Addr} {ob:HO}
theorem World.write (w:World K H (some y :: (T++M))) (hl:l∈y.own) (ok':y'.ok K (upd H l ob)) (nd:y'.own.Nodup) (h1:∀ a∈y'.own,a∈y.own\/a∈owned T) (h2:∀ a∈y'.frz,a∈y.as\/a∈owned T\/a∈frozen T) (h3:∀ a∈y'.own,a∉y'.frz) :
  World K (upd H l ob) (some y' :: M)/\Step H (some y :: (T++M)) (upd H l ob) (some y' :: M):=by
 have wn:=w.nd
 rw [owned_some,owned_app,List.nodup_append,List.nodup_append] at wn
 obtain ⟨n1,⟨n2,n3,n4⟩,n5⟩:=wn
 have oy:l∈owned (some y :: (T++M)):=List.mem_append_left _ hl
 have hal:=w.own_al oy
 have ds:∀ a,(a∈y.own\/a∈owned T\/a∈owned M)->¬ (a∈y.frz\/a∈frozen T\/a∈frozen M):=fun a ha hf=>by
  refine w.ds a ?_ ?_
  ·rw [owned_some,owned_app]
   rcases ha with z | z | z
   ·exact List.mem_append_left _ z
   ·exact List.mem_append_right _ (List.mem_append_left _ z)
   ·exact List.mem_append_right _ (List.mem_append_right _ z)
  ·rw [frozen_some,frozen_app]
   rcases hf with z | z | z
   ·exact List.mem_append_left _ z
   ·exact List.mem_append_right _ (List.mem_append_left _ z)
   ·exact List.mem_append_right _ (List.mem_append_right _ z)
 have noM:∀ z,some z∈M->l∉z.as:=fun z hz ha=>by
  rcases Sl.as_of ha with q | q
  ·exact n5 l hl l (List.mem_append_right _ (mem_owned.mpr ⟨z,hz,q⟩)) rfl
  ·exact ds l (.inl hl) (.inr (.inr (mem_frozen.mpr ⟨z,hz,q⟩)))
 have ke:∀ a o,H a=some o->a≠l->upd H l ob a=some o:=fun a o e ne=>by rw [upd_ne ne];exact e
 have kp:∀ as,l∉as->Kp H _ as:=fun as hn=>by
  refine ⟨fun a xs e=>ke a _ e fun z=>?_,fun a o u e=>ke a _ e fun z=>?_,fun a ha o e=>ke a o e fun z=>hn (z▸ha)⟩
  ·grind
  ·subst z;rcases hal with ⟨_,q⟩ | ⟨_,q⟩ | ⟨_,q⟩<;>(rw [e] at q;cases q)
 have wM:World K (upd H l ob) M:=by
  have w1:=w.tail.right
  exact ⟨fun z hz=>RepO.kp (w1.ok z hz) (kp _ (noM z hz)),w1.nd,w1.ds⟩
 refine ⟨wM.cons ok' nd (fun a ha hM=>?_) (fun a ha hM=>?_) (fun a ha hM=>?_) h3,fun a o e hn=>ke a o e fun z=>hn (z▸oy),fun a ha=>?_,fun a ha=>?_⟩
 ·rcases h1 a ha with z | z
  ·exact n5 a z a (List.mem_append_right _ hM) rfl
  ·exact n4 a z a hM rfl
 ·rcases h1 a ha with z | z
  ·exact ds a (.inl z) (.inr (.inr hM))
  ·exact ds a (.inr (.inl z)) (.inr (.inr hM))
 ·rcases h2 a ha with z | z | z
  ·rcases Sl.as_of z with z | z
   ·exact n5 a z a (List.mem_append_right _ hM) rfl
   ·exact ds a (.inr (.inr hM)) (.inl z)
  ·exact n4 a z a hM rfl
  ·exact ds a (.inr (.inr hM)) (.inr (.inl z))
 ·rw [owned_some,owned_app]
  rcases List.mem_append.mp ha with z | z
  ·rcases h1 a z with z | z
   ·exact .inl (List.mem_append_left _ z)
   ·exact .inl (List.mem_append_right _ (List.mem_append_left _ z))
  ·exact .inl (List.mem_append_right _ (List.mem_append_right _ z))
 ·rw [owned_some,owned_app,frozen_some,frozen_app]
  rcases List.mem_append.mp ha with z | z
  ·rcases h2 a z with z | z | z
   ·rcases Sl.as_of z with z | z
    ·exact .inr (.inl (List.mem_append_left _ z))
    ·exact .inl (List.mem_append_left _ z)
   ·exact .inr (.inl (List.mem_append_right _ (List.mem_append_left _ z)))
   ·exact .inl (List.mem_append_right _ (List.mem_append_left _ z))
  ·exact .inl (List.mem_append_right _ (List.mem_append_right _ z))
theorem World.writeAt {i} (w:World K H (T++L)) (hy:L[i]?=some (some y)) (hl:l∈y.own) (ok':y'.ok K (upd H l ob)) (nd:y'.own.Nodup) (h1:∀ a∈y'.own,a∈y.own\/a∈owned T) (h2:∀ a∈y'.frz,a∈y.as\/a∈owned T\/a∈frozen T) (h3:∀ a∈y'.own,a∉y'.frz) :
  World K (upd H l ob) (L.set i (some y'))/\Step H (T++L) (upd H l ob) (L.set i (some y')):=by
 obtain ⟨A,B,e,f⟩:=at_split hy
 rw [f]
 subst e
 have p:(T++(A++some y :: B)).Perm (some y :: (T++(A++B))):=by
  refine (List.Perm.append_left T (List.perm_middle)).trans List.perm_middle
 obtain ⟨w2,s2⟩:=World.write (w.perm p) hl ok' nd h1 h2 h3
 exact ⟨w2.perm List.perm_middle.symm,s2.perm p.symm List.perm_middle.symm⟩
end
theorem RepA.snoc {K} {H} {g} {d} {x} {cs} (h:RepL K H g d x cs) {ds} {xs} {bs} (r:RepA K H g ds xs bs):RepA K H g (ds++[d]) (xs++[x]) (bs++cs):=by
 refine RepA.app ?_ r
 exact ⟨x,[],cs,[],rfl,by simp,h,by unfold RepA;exact ⟨rfl,rfl⟩⟩
theorem own_lst {K} {H} {y:Sl} {ds} (ok:y.ok K H) (hd:y.d=.lst ds) (ho:y.o≠.no):∃ l xs bs,y.v=.ref l/\H l=some (.lst xs)/\y.as=l :: bs/\l∈y.own/\RepA K H (y.o != .dp) ds xs bs:=by
 obtain ⟨o,d,v,as⟩:=y
 dsimp only at hd ho
 subst hd
 cases o with
 | no=>exact absurd rfl ho
 | rt =>
  obtain ⟨a,xs,bs,rfl,r,q,rfl⟩:=(ok)
  exact ⟨a,xs,bs,rfl,q,rfl,by simp [Sl.own],r⟩
 | dp =>
  have ok:RepL K H false _ v as:=ok
  obtain ⟨a,xs,bs,rfl,r,q⟩:=ok
  rcases q with ⟨q,rfl⟩ | ⟨z,_⟩
  ·exact ⟨a,xs,bs,rfl,q,rfl,by simp [Sl.own],r⟩
  ·grind
theorem put_lst {K} {H} {T L} {i} {y} {l} {xs xs'} {bs cs} {o'} {ds'} (w:World K H (T++L)) (hy:L[i]?=some (some y)) (hH:H l=some (.lst xs)) (ha:y.as=l :: bs) (hl:l∈y.own) (hv:y.v=.ref l)
  (r:RepA K H (o' != .dp) ds' xs' cs) (hc:(o'=.rt/\∀ a∈cs,a∈bs\/a∈owned T\/a∈frozen T)\/(o'=.dp/\y.o=.dp/\cs.Nodup/\∀ a∈cs,a∈bs\/a∈owned T)) :
  World K (upd H l (.lst xs')) (L.set i (some ⟨o',.lst ds',y.v,l :: cs⟩))/\Step H (T++L) (upd H l (.lst xs')) (L.set i (some ⟨o',.lst ds',y.v,l :: cs⟩)):=by
 have oL:=mem_owned.mpr ⟨y,getD_mem hy,hl⟩
 have oy:l∈owned (T++L):=by rw [owned_app];exact List.mem_append_right _ oL
 have nd:=w.nd
 rw [owned_app,List.nodup_append] at nd
 have nT:=fun z=>nd.2.2 l z l oL rfl
 have yn:y.own.Nodup:=by
  obtain ⟨A,B,e,_⟩:=at_split hy
  have:=nd.2.1
  rw [e,owned_app,List.nodup_append] at this
  exact (List.nodup_append.mp this.2.1).1
 have nb:l∉bs:=fun z=>by
  cases ho:y.o with
  | no=>unfold Sl.own at hl;rw [ho] at hl;exact nomatch hl
  | rt =>
   have:l∈y.frz:=by unfold Sl.frz;rw [ho,ha];exact z
   exact w.ds l oy (by rw [frozen_app];exact List.mem_append_right _ (mem_frozen.mpr ⟨y,getD_mem hy,this⟩))
  | dp =>
   unfold Sl.own at yn
   rw [ho,ha] at yn
   exact (List.nodup_cons.mp yn).1 z
 have nc:l∉cs:=fun z=>by
  rcases hc with ⟨_,hc⟩ | ⟨_,_,_,hc⟩
  ·rcases hc l z with q | q | q
   ·exact nb q
   ·exact nT q
   ·exact (fun z=>w.ds l oy (by rw [frozen_app];exact List.mem_append_left _ z)) q
  ·rcases hc l z with q | q
   ·exact nb q
   ·exact nT q
 have kp:Kp H (upd H l (.lst xs')) cs:=by
  have k2:∀ a o,H a=some o->a≠l->upd H l (.lst xs') a=some o:=fun a o e ne=>by rw [upd_ne ne];exact e
  refine ⟨fun a zs e=>k2 a _ e fun z=>?_,fun a o u e=>k2 a _ e fun z=>?_,fun a ha o e=>k2 a o e fun z=>nc (z▸ha)⟩
  ·grind
  ·grind
 have r':=r.kp kp
 rcases hc with ⟨rfl,hc⟩ | ⟨rfl,hdp,hnd,hc⟩
 ·refine World.writeAt w hy hl (y':=_) ⟨l,xs',cs,hv,r',upd_same,rfl⟩ (by simp [Sl.own]) (fun a h=>?_) (fun a h=>?_) (fun a h z=>?_)
  ·have:a=l:=by simpa [Sl.own] using h
   grind
  ·rcases hc a (by simpa [Sl.frz] using h) with q | q
   ·exact .inl (ha▸List.mem_cons_of_mem _ q)
   ·exact .inr q
  ·have:a=l:=by simpa [Sl.own] using h
   subst this;exact nc (by simpa [Sl.frz] using z)
 ·have oa:y.own=y.as:=by unfold Sl.own;rw [hdp]
  refine World.writeAt w hy hl (y':=_) ?_ (List.nodup_cons.mpr ⟨nc,hnd⟩) (fun a h=>?_) (fun a h=>(nomatch h)) (fun a h z=>(nomatch z))
  ·show RepL K _ false _ y.v _
   exact ⟨l,xs',cs,hv,r',.inl ⟨upd_same,rfl⟩⟩
  ·rcases List.mem_cons.mp (h) with q | q
   ·grind
   ·rcases hc a q with q | q
    ·exact .inl (by rw [oa,ha];exact List.mem_cons_of_mem _ q)
    ·exact .inr q
section
variable {X:Cx} {Z:Fx0} {pn:List Nat} {q:Bool} {c:Ex} {e:Expr} {σ:L2.St} {H:Hp} {L:Ls} {E:En}
theorem lst_ty {K} {x:Sl} {ds} (ok:x.ok K H) (hd:x.d=.lst ds):tyV K "list" x.v H:=by
 obtain ⟨a,xs,bs,e1,q1,_⟩:=items ok (.inl hd)
 rw [e1]
 rcases q1 with ⟨_,z⟩ | ⟨z,_⟩
 ·exact .inl ⟨rfl,xs,z.sq⟩
 ·grind
theorem go_in {K} {x:Sl} (ok:x.ok K H) b (hb:b=false->tight x.sd=true):∃ cs,RepL K H b x.d x.v cs/\(∀ a∈cs,a∈x.as)/\(b=false->∀ a∈cs,a∈x.own)/\(b=false->x.own.Nodup->cs.Nodup):=by
 cases b with
 | true=>exact ⟨x.as,RepO.wk ok,fun _ h=>h,(fun z=>by cases z),(fun z=>by cases z)⟩
 | false =>
  by_cases ho:x.o=.dp
  ·have e:x.own=x.as:=by unfold Sl.own;rw [ho]
   refine ⟨x.as,?_,fun _ h=>h,fun _ a h=>by rw [e];exact h,fun _ n=>by rw [e] at n;exact n⟩
   have:=ok
   unfold Sl.ok at this
   rw [ho] at this
   exact this
  ·have hp:x.d.pure=true:=by
    rcases Bool.or_eq_true_iff.mp (hb rfl) with z | z
    ·exact absurd (by simpa using z) ho
    ·exact z
   obtain ⟨z,rp⟩:=RepL.pu (g':=false) (RepO.wk ok) hp
   exact ⟨[],rp,fun _ h=>(nomatch h),fun _ _ h=>(nomatch h),fun _ _=>List.nodup_nil⟩
theorem set_same {α:Type} {l:List α} {i} {x} (h:l[i]?=some x):l.set i x=l:=by
 obtain ⟨h1,h2⟩:=List.getElem?_eq_some_iff.mp h
 rw [← h2];simp
theorem mut1 {D'} {f} {i} {r} {G:V->V->Hp->Prop} (m:Mt E σ L) (w:World Z.K H L) (hc:sMut1 f i c E=some r) (k:FlP Z pn D' σ H L r)
  (g:∀ l (x) (xs) (ds ds') (d) (bs cs) (H1) (gg),f ds d=some ds'->H1 l=some (.lst xs)->RepA Z.K H1 gg ds xs bs->RepL Z.K H1 gg d x cs ->
   (∀ xs' es,RepA Z.K H1 gg ds' xs' es->(∀ a∈es,a∈bs\/a∈cs)->((bs++cs).Nodup->es.Nodup)->D'.nx σ (upd H1 l (.lst xs')))->G (.ref l) x H1) :
  ∃ v,σ[i]?=some (some v)/\tyV Z.K "list" v H/\tQ Z q c σ H (G v):=by
 unfold sMut1 at hc
 cases h0:E[i]? with
 | none=>rw [h0] at hc;cases hc
 | some s0 =>
  cases s0 with
  | none=>rw [h0] at hc;cases hc
  | some s0 =>
   obtain ⟨o0,d0⟩:=s0
   cases d0 with
   | lst ds0 =>
    rw [h0] at hc
    obtain ⟨x0,a1,a2,a3,a4⟩:=m.get h0
    refine ⟨x0.v,a4,lst_ty (w.ok x0 (getD_mem a1)) a3,(sbind m w hc k fun E1 s h1 x L1 H1 e1 e2 m1 w1 st _=>?_)⟩
    cases hE:E1[i]? with
    | none=>rw [hE] at h1;cases h1
    | some s1 =>
     cases s1 with
     | none=>rw [hE] at h1;cases h1
     | some s1 =>
      obtain ⟨oo,dd⟩:=s1
      rw [hE] at h1
      cases dd with
      | lst ds =>
       dsimp only at h1
       by_cases hno:oo=.no
       ·rw [if_pos hno] at h1;cases h1
       ·rw [if_neg hno] at h1
        cases hfd:f ds s.2 with
        | none=>rw [hfd] at h1;cases h1
        | some ds' =>
         rw [hfd] at h1
         obtain ⟨y,b1,b2,b3,b4⟩:=m1.get hE
         have hv:y.v=x0.v:=by rw [a4] at b4;exact (Option.some.inj (Option.some.inj b4)).symm
         obtain ⟨l,xs,bs,c1,c2,c3,c4,c5⟩:=own_lst (w1.ok y (List.mem_cons_of_mem _ (getD_mem b1))) b3 (b2▸hno)
         have ex0:=hv▸c1
         rw [ex0]
         have wT:=w1
         have okx:=w1.head
         have nd:=w1.nd
         rw [owned_some,List.nodup_append] at nd
         have oT:owned [some x]=x.own:=by simp
         have fT:frozen [some x]=x.frz:=by simp
         by_cases hd:oo=.dp/\tight s=true
         ·rw [if_pos hd] at h1
          cases Option.some.inj h1
          have hyo:=b2.trans hd.1
          rw [hyo] at c5
          obtain ⟨cs,r1,h3,h4,h5⟩:=go_in okx false fun _=>by rw [show x.sd=s from by simp [Sl.sd,e1,e2]];exact hd.2
          refine g l x.v xs ds ds' s.2 bs cs H1 false hfd c2 c5 (e2▸r1) fun xs' es re he hn=>?_
          have ynd:(bs++cs).Nodup:=by
           have yo:y.own=l :: bs:=by unfold Sl.own;rw [hyo,c3]
           obtain ⟨A,B,e,_⟩:=at_split b1
           have q:=nd.2.1
           rw [e,owned_app,owned_some,List.nodup_append] at q
           have q2:=(List.nodup_append.mp q.2.1).1
           rw [yo] at q2
           rw [List.nodup_append]
           refine ⟨(List.nodup_cons.mp q2).2,h5 rfl nd.1,fun a ha b hb hab=>?_⟩
           subst hab
           exact nd.2.2 a (h4 rfl a hb) a (mem_owned.mpr ⟨y,getD_mem b1,by rw [yo];exact List.mem_cons_of_mem _ ha⟩) rfl
          obtain ⟨w3,s3⟩:=put_lst (o':=.dp) (ds':=ds') (xs':=xs') wT b1 c2 c3 c4 c1 re (.inr ⟨rfl,hyo,hn ynd,fun a ha=>(he a ha).imp id fun z=>by rw [oT];exact h4 rfl a z⟩)
          refine k σ _ _ Pn.refl ?_ w3 (st.trans s3)
          have:=m1.set (x:=⟨.dp,.lst ds',y.v,l :: es⟩) i
          rw [set_same b4] at this
          exact this
         ·rw [if_neg hd] at h1
          cases Option.some.inj h1
          have c6:RepA Z.K H1 true ds xs bs:=by
           cases hb:(y.o != .dp) with
           | true=>rw [hb] at c5;exact c5
           | false=>rw [hb] at c5;exact c5.wk
          refine g l x.v xs ds ds' s.2 bs x.as H1 true hfd c2 c6 (e2▸RepO.wk okx) fun xs' es re he hn=>?_
          obtain ⟨w3,s3⟩:=put_lst (o':=.rt) (ds':=ds') (xs':=xs') wT b1 c2 c3 c4 c1 re (.inl ⟨rfl,fun a ha=>(he a ha).imp id fun z=>by rw [oT,fT];exact Sl.as_of z⟩)
          refine k σ _ _ Pn.refl ?_ w3 (st.trans s3)
          have:=m1.set (x:=⟨.rt,.lst ds',y.v,l :: es⟩) i
          rw [set_same b4] at this
          exact this
      | _=>cases h1
   | _=>rw [h0] at hc;cases hc
theorem q_app {i} {o} {apos cpos pos} (hb:PE X (.Call (.Attribute o "append" apos) [e] [] cpos) (tBM Z.K "list" rAppend (tVar i) (tCons (tQ Z q c) tNil))) (hs:swapsWith (.Call (.Attribute o "append" apos) [e] [] cpos) none pos.line X.env=pure false:=by rfl) :
  QS X Z pn (sMut1 gApp i c) (.Expr (.Call (.Attribute o "append" apos) [e] [] cpos) pos):=ps_imp (ps_expr hb hs) fun D σ H h_z=>ex7 h_z fun E L r m w hc k =>
 mut1 m w hc k fun l x xs ds ds' d bs cs H1 gg hf hH ra rx fin=>by
  unfold gApp at hf
  by_cases hl:ds.length < big
  ·rw [if_pos hl] at hf
   cases Option.some.inj hf
   exact ⟨l,xs,x,rfl,rfl,hH,by rw [← ra.len];exact hl,fin _ _ (RepA.snoc rx ra) (fun a ha=>List.mem_append.mp ha) fun h=>h⟩
  ·rw [if_neg hl] at hf;cases hf
end
end Q
namespace Q
open PySem PySem.Spec PyProof.Rows L2 L3
section
variable {X:Cx} {Z:Fx0} {pn:List Nat} {q:Bool} {a b c:Ex} {tg e ea eb:Expr} {σ:L2.St} {H:Hp} {L:Ls} {E:En} {pos p:Pos}
theorem str_it {pins} {H1} {s1} {x} {t} {R} (I1:L2.Inv X pins σ H1 s1) (q:R (Its x) H1):wpAny (model X.prog X.w) X.A (pyIter (.str x t)) (PIE X pins σ tg R) X.xe s1:=by
 have fp:∀ b∈[s1.heap.objs.size],FpOk X pins H1 b:=fun b hb=>by
  have e:b=s1.heap.objs.size:=by simpa using hb
  subst e
  exact I1.fpOk (Nat.le_refl _) (I1.hok.fresh (Nat.le_refl _))
 cases ha:x.cps.all _
 ·exact wpAny_pyIter_wide ha ⟨s1.heap.objs.size,[s1.heap.objs.size],_,_,H1,rfl,I1.kept (t':=s1.toks) fun b o e=>Heap.get?_push_of_some _ e,turn_str (fun A' hA=>PySem.Walks.strWide hA _ x t) (fun _ _ _ _ _ st h=>wpAny_pyIter_striter_wide st h) (by decide),⟨_,Heap.get?_push_size _ rfl,rfl,rfl⟩,fp,q⟩
 ·exact wpAny_pyIter_ascii ha ⟨s1.heap.objs.size,[s1.heap.objs.size],_,_,H1,rfl,I1.kept (t':=s1.toks) fun b o e=>Heap.get?_push_of_some _ e,turn_str (fun A' hA=>PySem.Walks.strAscii hA _ x t) (fun _ _ _ _ _ st h=>wpAny_pyIter_striter_ascii st h) (by decide),⟨_,Heap.get?_push_size _ rfl,rfl,rfl⟩,fp,q⟩
theorem ok_chr {K} {H} c:Sl.ok K H ⟨.no,.str ⟨#[c]⟩,.str ⟨#[c]⟩,[]⟩:=by
 show RepL K H true _ _ _
 exact rep_str (show 1<=sizeLine by decide)
theorem ok_int {K} {H} i:Sl.ok K H ⟨.no,.int i,.int i,[]⟩:=by
 show RepL K H true _ _ _
 exact rep_int
noncomputable def iAny (K:PySem.W.Frag) (tl:TE):TI:=fun σ H R=>tl σ H fun x H1=>(∃ a xs,x=.ref a/\SqL K H1 a xs/\(xs.length<=sizeLine->R (Itl K a) H1))\/(∃ a xs,x=.ref a/\SqT K H1 a xs/\(xs.length<=sizeLine->R (Itt K a) H1))\/∃ z,x=.str z/\R (Its z) H1
theorem pi_any {l} {tl} (hl:PE X l tl):PI X tg l (iAny X.K tl):=by
 intro pins s σ H R I h
 refine thn (hl pins s σ H _ I h) fun v s1 ⟨x,H1,I1,r1,q1⟩=>?_
 rcases q1 with ⟨a,xs,rfl,hq,q⟩ | ⟨a,xs,rfl,hq,q⟩ | ⟨z,rfl,q⟩
 ·cases r1
  obtain ⟨its,rv,p,hz⟩:=I1.list hq
  refine wpAny_pyIter_list p.isList (⟨s1.heap.objs.size,[s1.heap.objs.size],_,_,H1,rfl,I1.kept (t':=s1.toks) fun b o e=>Heap.get?_push_of_some _ e,turn_list a _,⟨_,Heap.get?_push_size _ rfl,rfl,rfl⟩,fun b hb=>?_,q hz⟩)
  have e:b=s1.heap.objs.size:=by simpa using hb
  subst e
  exact I1.fpOk (Nat.le_refl _) (I1.hok.fresh (Nat.le_refl _))
 ·cases r1
  obtain ⟨its,rv,p,hz⟩:=I1.tuple hq
  refine wpAny_pyIter_tuple (p) (⟨s1.heap.objs.size,[s1.heap.objs.size],_,_,H1,rfl,I1.kept (t':=s1.toks) fun b o e=>Heap.get?_push_of_some _ e,turn_tuple a _,⟨_,Heap.get?_push_size _ rfl,rfl,rfl⟩,fun b hb=>?_,q hz⟩)
  have e:b=s1.heap.objs.size:=by simpa using hb
  subst e
  exact I1.fpOk (Nat.le_refl _) (I1.hok.fresh (Nat.le_refl _))
 ·obtain ⟨t,rfl⟩:=r1
  exact str_it I1 q
theorem lst_again {K} {x:Sl} {es} {l} (hx:x.d=.lst es) (ev:x.v=.ref l):∀ H2,x.let.ok K H2->∃ ys cs,SqL K H2 l ys/\RepA K H2 true es ys cs/\∀ b∈cs,b∈x.as:=fun H2 hok=>by
 obtain ⟨a',ys,cs,ev',q4,r4,h4,_⟩:=items hok (.inl hx)
 cases V.ref.inj (ev'.symm.trans ev)
 rcases q4 with ⟨_,z⟩ | ⟨z,_⟩
 ·exact ⟨ys,cs,z.sq,r4,h4⟩
 ·rw [show x.let.d=D.lst es from hx] at z;cases z
theorem tup_again {K} {x:Sl} {es} {l} (hx:x.d=.tup es) (ev:x.v=.ref l):∀ H2,x.let.ok K H2->∃ ys cs,SqT K H2 l ys/\RepA K H2 true es ys cs/\∀ b∈cs,b∈x.as:=fun H2 hok=>by
 obtain ⟨a',ys,cs,ev',q4,r4,h4,_⟩:=items hok (.inr hx)
 cases V.ref.inj (ev'.symm.trans ev)
 rcases q4 with ⟨z,_⟩ | ⟨_,z⟩
 ·rw [show x.let.d=D.tup es from hx] at z;cases z
 ·exact ⟨ys,cs,z,r4,h4⟩
theorem walk_let {K} {H1} {x:Sl} {L1} (w1:World K H1 (some x :: L1)) (st:Step H L H1 (some x :: L1)):World K H1 (L1++[x.let].map some)/\Step H L H1 (L1++[x.let].map some):=by
 refine ⟨World.comm (L:=[some x.let]) (w1.tail.consNo (let_ok w1.head) rfl fun b hb=>w1.apart b hb),st.keep,fun b hb=>?_,fun b hb=>?_⟩
 ·have:b∈owned L1:=by simpa [let_as] using hb
  exact st.own b (List.mem_append_right _ this)
 ·have:b∈frozen L1\/b∈x.as:=by simpa [let_as] using hb
  rcases this with z | z
  ·exact st.frz b (by rw [frozen_some];exact List.mem_append_right _ z)
  ·exact src_held st b z
noncomputable abbrev ItS (S:Hp->List V->Prop):It:=⟨fun i H=>∃ xs x,S H xs/\xs[i]?=some x,fun i H x H'=>H'=H/\∀ xs,S H xs->xs[i]?=some x,fun i H=>∃ xs,S H xs/\xs.length<=i⟩
theorem walk_seq {K} {S:Hp->List V->Prop} {x:Sl} {es} (ag:∀ H2,x.let.ok K H2->∃ ys cs,S H2 ys/\RepA K H2 true es ys cs/\∀ b∈cs,b∈x.as):Walks K (ItS S) [x.let] es:=by
 refine ⟨fun t ht=>by rw [List.mem_singleton.mp ht];rfl,fun i H2 hok hi=>?_,fun H2 hok=>?_,fun i H2 v H3 d hok hy hdi=>?_⟩
 all_goals obtain ⟨ys,cs,s1,s2,s3⟩:=ag H2 (hok _ (List.mem_singleton.mpr rfl))
 ·have hl:=s2.len
  exact ⟨ys,ys[i]'(by lia),s1,List.getElem?_eq_getElem (by lia)⟩
 ·exact ⟨ys,s1,by rw [s2.len];exact Nat.le_refl _⟩
 ·obtain ⟨rfl,hy⟩:=hy
  obtain ⟨v',bs',f1,f2,f3⟩:=s2.get hdi
  have:=hy ys s1
  rw [f1] at this
  cases Option.some.inj this
  exact ⟨⟨.no,d,v,bs'⟩,rfl,rfl,rfl,same_refl,f2,fun b hb=>⟨x.let,List.mem_singleton.mpr rfl,s3 b (f3 b hb)⟩⟩
theorem q_itS (h:QE X Z q c e) (hK:X.K=Z.K:=by rfl):QI X Z q tg (itS c) e:=fun pins s σ H R I h_z=>ex8 h_z fun E L r m w hc xc k=>by
 refine (hK▸pi_any h) pins s σ H R I (qbind m w (show bnd (c E) _=some r from hc) xc fun E1 s h1 x L1 H1 e1 e2 m1 w1 st sm=>?_)
 obtain ⟨ds,hd,rfl⟩:=val_inv h1
 have ok:=w1.head
 obtain ⟨wT,sT⟩:=walk_let w1 st
 cases hx:x.d with
 | lst es =>
  rw [← e2,hx] at hd
  cases Option.some.inj hd
  obtain ⟨a,_,_,ev,_⟩:=items ok (.inl hx)
  have ag:=lst_again (K:=Z.K) hx ev
  obtain ⟨xs,bs,q3,r3,_⟩:=ag H1 (let_ok ok)
  exact .inl ⟨a,xs,ev,q3,fun hlen=>k _ _ rfl (Itl Z.K a) [x.let] L1 H1 m1 wT sT (r3.len▸hlen) (fun hq=>(sm hq).1) (walk_seq ag)⟩
 | tup es =>
  rw [← e2,hx] at hd
  cases Option.some.inj hd
  obtain ⟨a,_,_,ev,_⟩:=items ok (.inr hx)
  have ag:=tup_again (K:=Z.K) hx ev
  obtain ⟨xs,bs,q3,r3,_⟩:=ag H1 (let_ok ok)
  exact .inr (.inl ⟨a,xs,ev,q3,fun hlen=>k _ _ rfl (Itt Z.K a) [x.let] L1 H1 m1 wT sT (r3.len▸hlen) (fun hq=>(sm hq).1) (walk_seq ag)⟩)
 | str z =>
  rw [← e2,hx] at hd
  have hd:(if z.cps.size<=big then some (z.cps.toList.map fun c=>D.str ⟨#[c]⟩) else none)=some ds:=hd
  split at hd
  ·rename_i hz
   cases Option.some.inj hd
   refine .inr (.inr ⟨z,(of_str ok hx).1,k _ _ rfl (Its z) [] L1 H1 m1 (by simpa using w1.tail) (by simpa using (st.trans Step.drop)) (by rw [List.length_map,Array.length_toList];exact hz) (fun hq=>(sm hq).1) ⟨fun t ht=>(nomatch ht),fun i H2 _ hi=>?_,fun H2 _=>?_,fun i H2 v H3 d _ hy hdi=>?_⟩⟩)
   ·show i < z.cps.size
    simp_all
   ·show (z.cps.toList.map fun c=>D.str ⟨#[c]⟩).length=z.cps.size
    simp
   ·obtain ⟨e3,cc,hc,rfl⟩:=hy
    subst e3
    rw [List.getElem?_map,Array.getElem?_toList,hc] at hdi
    cases Option.some.inj hdi
    exact ⟨⟨.no,.str ⟨#[cc]⟩,.str ⟨#[cc]⟩,[]⟩,rfl,rfl,rfl,same_refl,ok_chr cc,fun b hb=>(nomatch hb)⟩
  ·cases hd
 | _=>rw [← e2,hx] at hd;cases hd
theorem walk_range {K} (lo hi):Walks K (Itr lo (hi - lo).toNat) [] (rangeD lo hi):=by
 have hl:(rangeD lo hi).length=(hi - lo).toNat:=by simp [rangeD]
 refine ⟨fun t ht=>(nomatch ht),fun i H _ hi'=>by rw [hl] at hi';exact hi',fun H _=>by rw [hl];exact Nat.le_refl _,fun i H v H' d _ hy hd=>?_⟩
 obtain ⟨e,rfl⟩:=hy
 subst e
 unfold rangeD at hd
 rw [List.getElem?_map] at hd
 cases hr:(List.range (hi - lo).toNat)[i]? with
 | none=>simp_all
 | some j =>
  rw [hr] at hd
  have:j=i:=by
   obtain ⟨_,h2⟩:=List.getElem?_eq_some_iff.mp hr
   simpa using h2.symm
  subst this
  cases Option.some.inj hd
  exact ⟨_,rfl,rfl,rfl,same_refl,ok_int _,fun b hb=>(nomatch hb)⟩
theorem small62_of {i} (h:small62 i=true):-(2 ^ 62)<=i/\i < 2 ^ 62:=by
 unfold small62 at h
 simpa using h
theorem q_itR1 (ha:QV X Z q a ea) (hg:Gl X "range") (hm:X.mg "range"=none) (hst:starEach [ea] X.env=[(false,eval ea X.env)]:=by rfl):QI X Z q tg (itR1 a) (.Call (.Name "range" p) [ea] [] pos):=fun pins s σ H R I h_z=>ex8 h_z fun E L r m w hc xc k=>by
 refine (pi_range1 hg hm (pa_cons ha pa_nil hst) hst) pins s σ H R I (vbind m w (hc) xc fun E1 s h1 x L1 H1 e1 e2 m1 w1 ok fr sr st sm=>?_)
 cases hx:s.2 with
 | int j =>
  rw [hx] at h1
  dsimp only at h1
  split at h1
  ·rename_i hj
   cases Option.some.inj h1
   obtain ⟨j1,j2⟩:=small62_of hj.1
   refine ⟨j,by rw [(of_int ok (e2.trans hx))],j1,j2,?_⟩
   have wk:=walk_range (K:=Z.K) 0 j
   rw [Int.sub_zero] at wk
   exact k _ _ rfl _ [] L1 H1 m1 (by simp_all) (by simp_all) (by simp only [rangeD,List.length_map,List.length_range,Int.sub_zero];exact hj.2) sm wk
  ·cases h1
 | _=>simp_all
theorem q_itR2 (ha:QV X Z q a ea) (hb:QV X Z true b eb) (hg:Gl X "range") (hm:X.mg "range"=none) (hs:starEach [ea,eb] X.env=[(false,eval ea X.env),(false,eval eb X.env)]:=by rfl) (hs2:starEach [eb] X.env=[(false,eval eb X.env)]:=by rfl)
  (hs3:starEach [ea,eb] X.env=(false,eval ea X.env) :: starEach [eb] X.env:=by rfl):QI X Z q tg (itR2 a b) (.Call (.Name "range" p) [ea,eb] [] pos):=fun pins s σ H R I h_z=>ex8 h_z fun E L r m w hc xc k=>by
 refine (pi_range2 hg hm (pa_cons ha (pa_cons hb pa_nil hs2) hs3) hs hs2) pins s σ H R I ?_
 refine vbind m w (hc) xc fun E1 s h1 x L1 H1 e1 e2 m1 w1 ok fr sr st sm=>?_
 refine vbind m1 w1 h1 (xc.step st) fun E2 s2 h2 y L2 H2 e3 e4 m2 w2 ok2 fr2 sr2 st2 sm2=>?_
 have kx:=view_keep ok fr st2 (sm2 rfl)
 cases hx:s.2 with
 | int i =>
  cases hy:s2.2 with
  | int j =>
   rw [hx,hy] at h2
   dsimp only at h2
   split at h2
   ·rename_i hj
    cases Option.some.inj h2
    obtain ⟨i1,i2⟩:=small62_of hj.1
    obtain ⟨j1,j2⟩:=small62_of hj.2.1
    refine ⟨i,j,by rw [of_int kx.1 (e2.trans hx),of_int ok2 (e4.trans hy)],⟨i1,i2,j1,j2⟩,?_⟩
    exact k _ _ rfl _ [] L2 H2 m2 (by simpa using w2) (by simpa using st.trans st2) (by simp only [rangeD,List.length_map,List.length_range];exact hj.2.2) (fun hq=>same_trans (sm hq) (sm2 rfl)) (walk_range i j)
   ·cases h2
  | _=>rw [hx,hy] at h2;cases h2
 | _=>simp_all
theorem Mt.clr:∀ {R} {E} {L},Mt E σ L->Mt (Q.clr R E) σ (Q.clr R L)
 | [],_,_,m=>m
 | j :: R,E,L,m=>by
  have un:∀ {E} {σ} {L} j,Mt E σ L->Mt (E.set j none) σ (L.set j none):=by
   intro E σ L j m
   induction m generalizing j with
   | nil=>exact .nil
   | un m ih=>cases j with
    | zero=>exact .un m
    | succ j=>exact .un (ih j)
   | cons m ih=>cases j with
    | zero=>exact .un m
    | succ j=>exact .cons (ih j)
  show Mt (Q.clr R _) σ _
  exact Mt.clr (un j m)
theorem Mt.drop:∀ {E} {σ} {L} (k),Mt E σ L->Mt (E.drop k) (σ.drop k) (L.drop k)
 | _,_,_,0,m=>m
 | _,_,_,k + 1,.nil=>.nil
 | _,_,_,k + 1,.un m=>m.drop k
 | _,_,_,k + 1,.cons m=>m.drop k
theorem Mt.none_at:∀ {E} {σ} {L} {j:Nat},Mt E σ L->E[j]?=some none->L[j]?=some none
 | _,_,_,_,.nil,h=>by simp_all
 | _,_,_,0,.un _,_=>by simp
 | _,_,_,j + 1,.un m,h=>by simpa using m.none_at (j:=j) (by simpa using h)
 | _,_,_,j + 1,.cons m,h=>by simpa using m.none_at (by simpa using h)
theorem Mt.pick:∀ {R:List Nat},Mt E σ L->Mt (R.map (at' E)) (R.map (at' σ)) (R.map (at' L))
 | [],_=>.nil
 | j :: R,m=>by
  rw [List.map_cons,List.map_cons,List.map_cons]
  cases hE:E[j]? with
  | none =>
   have hl:=m.len
   have:L[j]?=none:=by rw [List.getElem?_eq_none_iff] at hE ⊢;lia
   rw [show at' E j=none from by unfold at';rw [hE];rfl,show at' L j=none from by unfold at';rw [this];rfl]
   exact .un m.pick
  | some s =>
   cases s with
   | none =>
    have:L[j]?=some none:=m.none_at hE
    rw [show at' E j=none from by unfold at';rw [hE];rfl,show at' L j=none from by unfold at';rw [this];rfl]
    exact .un m.pick
   | some s =>
    obtain ⟨x,h1,h2,h3,h4⟩:=m.get hE
    rw [show at' E j=some (x.o,x.d) from by unfold at';rw [hE,h2,h3];rfl,show at' L j=some x from by unfold at';rw [h1];rfl,show at' σ j=some x.v from by unfold at';rw [h4];rfl]
    exact .cons m.pick
theorem Mt.rep:∀ {k},Mt E σ L->Mt (List.replicate k none++E) (List.replicate k none++σ) (List.replicate k none++L)
 | 0,m=>by simp_all
 | k + 1,m=>by
  exact .un m.rep
theorem Mt.back:∀ {R} {B} {τ} {M} {E} {L},Mt E σ L->Mt B τ M->(∀ (i j:Nat) (v),R[i]?=some j->τ[i]?=some (some v)->σ[j]?=some (some v))->Mt (Q.back R B E) σ (Q.back R M L)
 | [],B,τ,M,E,L,m,_,_=>by simpa [Q.back] using m
 | j :: R,_,_,_,E,L,m,.nil,_=>by simpa [Q.back] using m
 | j :: R,_,_,_,E,L,m,.un mB,h=>by
  have un:∀ {E} {σ} {L} j,Mt E σ L->Mt (E.set j none) σ (L.set j none):=by
   intro E σ L j m
   induction m generalizing j with
   | nil=>exact .nil
   | un m ih=>cases j with
    | zero=>exact .un m
    | succ j=>exact .un (ih j)
   | cons m ih=>cases j with
    | zero=>exact .un m
    | succ j=>exact .cons (ih j)
  show Mt _ σ (Q.back R _ _)
  exact Mt.back (un j m) mB fun i jj v e1 e2=>h (i + 1) jj v (by simpa using e1) (by simpa using e2)
 | j :: R,_,_,_,E,L,m,.cons (x:=x) mB,h=>by
  have m1:=m.set (x:=x) j
  rw [set_same (h 0 j x.v (by simp) (by simp))] at m1
  show Mt _ σ (Q.back R _ _)
  exact Mt.back m1 mB fun i jj v e1 e2=>h (i + 1) jj v (by simpa using e1) (by simpa using e2)
section
variable {iter elt:Expr} {ifs:List Expr} {scope:Scope} {N:List Str} {k:Nat} {R:List Nat} {it:Ev (List D)} {tt:Tg} {u:Ts} {o:Own} {q1 q2:Bool}
theorem lcSt_eq:lcSt k R σ=List.replicate k none++R.map (at' σ):=rfl
theorem lc_in {K} {M} (hR:R.Nodup) (w:World K H (L++M)):World K H ((List.replicate k none++R.map (at' L))++(Q.clr R L++M))/\Step H (L++M) H ((List.replicate k none++R.map (at' L))++(Q.clr R L++M)):=by
 have p:(sls (L++M)).Perm (sls ((List.replicate k none++R.map (at' L))++(Q.clr R L++M))):=by
  have:=clr_perm (L:=L) hR
  rw [sls_app] at this
  simp
  rw [← List.append_assoc]
  exact (this.append_right _).symm
 exact ⟨w.same p,Step.refl.same (List.Perm.refl _) p⟩
theorem lc_out {K} {B} {M} {H2} (hR:R.Nodup) (hr:∀ j∈R,j < L.length) (hB:B.length=k + R.length) (w:World K H2 (B++(Q.clr R L++M))):World K H2 (Q.back R (B.drop k) (Q.clr R L)++M)/\Step H2 (B++(Q.clr R L++M)) H2 (Q.back R (B.drop k) (Q.clr R L)++M):=by
 have p2:(sls (Q.back R (B.drop k) (Q.clr R L)++M)).Perm (sls (B.drop k++(Q.clr R L++M))):=by
  rw [sls_app,← List.append_assoc,sls_app _]
  exact (back_perm (B:=B.drop k) hR (fun j hj=>clr_get hj) (fun j hj=>by rw [clr_len];exact hr j hj) (by simp_all)).append_right _
 have sub:(sls (B.drop k++(Q.clr R L++M))).Sublist (sls (B++(Q.clr R L++M))):=by
  rw [sls_app,sls_app B]
  exact List.Sublist.append ((List.drop_sublist k B).filterMap _) (List.Sublist.refl _)
 exact ⟨(w.sub sub).same p2.symm,(Step.refl.sub sub).same (List.Perm.refl _) p2.symm⟩
theorem setAll_El:∀ {is} {es} {E E'},setAll is es E=some E'->E'.length=E.length
 | [],[],_,_,h=>by cases Option.some.inj h;rfl
 | _ :: _,[],_,_,h=>by cases h
 | i :: is,d :: es,E,E',h=>by rw [setAll_El (E:=E.set i _) h,List.length_set]
theorem put_len {t:Tg} {d} {E E'} (h:t.put d E=some E'):E'.length=E.length:=by
 cases t with
 | n i=>cases Option.some.inj h;rw [List.length_set]
 | t is =>
  cases d with
  | tup es=>exact setAll_El (h)
  | lst es=>exact setAll_El (h)
  | _=>cases h
theorem lc_read {nN} {Q} (hσ:σ.length=nN) (hR:R.Nodup) (hr:∀ j∈R,j < nN) (h:tQ Z q (cLC o k R it tt u c) σ H Q):tLC (tIS Z q it) (tG Z ((List.range R.length).map (k + ·)) tt) (tT Z q u) (tQ Z q c) k R σ H Q:=by
 obtain ⟨E,L,r,m,w,hcc,xc,kk⟩:=h
 have hcc:bnd (it E) (fun E ds=>match lcL tt u c ds (lcIn k R E) [] with
  | some (.ok B xs)=>mkL o (lcOut k R B E) xs
  | some (.exc B e)=>some (.exc (lcOut k R B E) e)
  | none=>none)=some r:=hcc
 rcases bnd_cases hcc with ⟨E1,ds,h1,h2⟩ | ⟨E1,cc,h1,h2⟩
 rotate_left
 ·exact ⟨E,L,_,m,w,h1,xc.map h2,fun E' s' z=>by cases z⟩
 refine ⟨E,L,_,m,w,h1,(fun _ _ z=>by cases z),fun E' ds' z J T L1 H1 m1 w1 st hz sm wk=>?_⟩
 injection z with z1 z2
 subst z1 z2
 have hL1:∀ j∈R,j < L1.length:=fun j hj=>by have:=m1.len;have:=hr j hj;lia
 obtain ⟨wB,sB⟩:=lc_in (k:=k) hR w1
 cases hrB:lcL tt u c ds (lcIn k R E1) [] with
 | none=>simp_all
 | some rB =>
  rw [hrB] at h2
  have okT:∀ {H2} {A B},World Z.K H2 (A++(B++(_root_.Q.clr R L1++T.map some)))->∀ t∈T,t.ok Z.K H2:=fun w2 t ht=>w2.ok t (List.mem_append_right _ (List.mem_append_right _ (List.mem_append_right _ (List.mem_map_of_mem ht))))
  have mB0:Mt (lcIn k R E1) (lcSt k R σ) (List.replicate k none++R.map (at' L1)):=(m1.pick (R:=R)).rep
  have home:∀ {B} {LB} {τ} {H2} {A},Mt B τ LB->τ.length=k + R.length->Pn ((List.range R.length).map (k + ·)) (lcSt k R σ) τ->World Z.K H2 (LB++(A++(_root_.Q.clr R L1++T.map some))) ->
    Mt (lcOut k R B E1) σ (_root_.Q.back R (LB.drop k) (_root_.Q.clr R L1))/\World Z.K H2 (A++_root_.Q.back R (LB.drop k) (_root_.Q.clr R L1))/\Step H2 (LB++(A++(_root_.Q.clr R L1++T.map some))) H2 (A++_root_.Q.back R (LB.drop k) (_root_.Q.clr R L1)):=fun {B LB τ H2 A} mB lB pB wB2=>by
   have hl:LB.length=k + R.length:=by rw [mB.len.2];exact lB
   have pm:(LB++(A++(_root_.Q.clr R L1++T.map some))).Perm (LB++(_root_.Q.clr R L1++(A++T.map some))):=by
    refine List.Perm.append_left _ ?_
    rw [← List.append_assoc,← List.append_assoc]
    exact List.Perm.append_right _ List.perm_append_comm
   obtain ⟨w3,s3⟩:=lc_out (k:=k) hR hL1 hl (wB2.perm pm)
   have pm2:(_root_.Q.back R (LB.drop k) (_root_.Q.clr R L1)++(A++T.map some)).Perm ((A++_root_.Q.back R (LB.drop k) (_root_.Q.clr R L1))++T.map some):=by
    rw [← List.append_assoc]
    exact List.Perm.append_right _ List.perm_append_comm
   refine ⟨?_,(w3.perm pm2).left,(s3.perm pm.symm pm2).trans Step.dropT⟩
   refine Mt.back (m1.clr) (mB.drop k) fun i j v e1 e2=>?_
   have hi:i < R.length:=(List.getElem?_eq_some_iff.mp e1).1
   have e3:=pB (k + i) (List.mem_map.mpr ⟨i,List.mem_range.mpr hi,rfl⟩)
   rw [List.getElem?_drop,e3,lcSt_eq,List.getElem?_append_right (by simp),List.length_replicate,show k + i - k=i from by lia,List.getElem?_map,e1] at e2
   have e4:at' σ j=some v:=by simpa using e2
   unfold at' at e4
   cases hh:σ[j]? with
   | none=>simp_all
   | some s=>simp_all
  refine ⟨fun i n ys τ H2=>∃ (B:En) (LB:Ls) (acc:List Sl),Mt B τ LB/\τ.length=k + R.length/\Pn ((List.range R.length).map (k + ·)) (lcSt k R σ) τ/\World Z.K H2 (LB++(acc.map some++(_root_.Q.clr R L1++T.map some)))/\Step H L H2 (LB++(acc.map some++(_root_.Q.clr R L1++T.map some))) /\
   ys=acc.map Sl.v/\lcL tt u c (ds.drop i) B (acc.map Sl.sd)=some rB/\i<=ds.length/\acc.length<=i/\n=ds.length - i/\(q=true->Same H H2/\∀ b∈owned (acc.map some),H b=none),⟨_,lcIn k R E1,_,[],mB0,by simp [lcSt],Pn.refl,wB,st.trans sB,rfl,hrB,Nat.zero_le _,Nat.zero_le _,rfl,fun hq=>⟨sm hq,fun _ z=>(nomatch z)⟩⟩,?_⟩
  rintro i n ys τ H2 ⟨B,LB,acc,mB,lB,pB,wB2,sB2,rfl,f1,hi,hacc,rfl,smB⟩
  by_cases hlt:i < ds.length
  rotate_left
  ·have e:i=ds.length:=by lia
   subst e
   rw [List.drop_length] at f1
   cases Option.some.inj f1
   obtain ⟨m3,w3,s3⟩:=home mB lB pB wB2
   refine .inl ⟨wk.stop H2 (okT wB2) (fun hq=>(smB hq).1),by rw [List.length_map];lia,?_⟩
   exact mkL_read (σ:=σ) (Q:=Q) (o:=o) (xs:=acc) h2 rfl w3 (sB2.trans s3) smB kk m3
  ·have hd:ds.drop i=ds[i] :: ds.drop (i + 1):=List.drop_eq_getElem_cons hlt
   rw [hd] at f1
   unfold lcL at f1
   cases hput:tt.put ds[i] B with
   | none=>rw [hput] at f1;cases f1
   | some B2 =>
    rw [hput] at f1
    dsimp only at f1
    refine .inr ⟨wk.go i H2 (okT wB2) (fun hq=>(smB hq).1) hlt,fun v H3 hy=>?_⟩
    obtain ⟨z,zo,zd,zv,smz,zok,zas⟩:=wk.yld i H2 v H3 ds[i] (okT wB2) (fun hq=>(smB hq).1) hy (List.getElem?_eq_getElem hlt)
    have pm:(LB++(acc.map some++(_root_.Q.clr R L1++T.map some))).Perm ((LB++(acc.map some++_root_.Q.clr R L1))++T.map some):=by
     rw [← List.append_assoc (acc.map some),← List.append_assoc]
    obtain ⟨wz,sz⟩:=item_world (wB2.perm pm) wk.no smz zok zo zas
    have wz':World Z.K H3 ((some z :: LB)++(acc.map some++(_root_.Q.clr R L1++T.map some))):=wz.perm (by
     rw [List.cons_append,List.cons_append]
     exact List.Perm.cons _ pm.symm)
    have sz':Step H2 (LB++(acc.map some++(_root_.Q.clr R L1++T.map some))) H3 ((some z :: LB)++(acc.map some++(_root_.Q.clr R L1++T.map some))):=sz.perm pm.symm (by
     rw [List.cons_append,List.cons_append]
     exact List.Perm.cons _ pm.symm)
    refine ⟨B,LB,z,B2,mB,wz'.left,zo,zv,by rw [zd];exact hput,fun τ2 LB2 p2 mB2 wB3 sB3=>?_⟩
    obtain ⟨w4,s4⟩:=stay wz' sB3 wB3
    have lB2:τ2.length=k + R.length:=by
     have h1:=mB2.len.1
     have h2:=mB.len.1
     have h3:=put_len hput
     lia
    have p3:=pB.trans p2
    have sAll:Step H L H3 (LB2++(acc.map some++(_root_.Q.clr R L1++T.map some))):=sB2.trans (sz'.trans s4)
    have smAll:q=true->Same H H3/\∀ b∈owned (acc.map some),H b=none:=fun hq=>⟨same_trans (smB hq).1 smz,(smB hq).2⟩
    refine ⟨fun y H5=>∃ (B:En) (LB:Ls) (acc':List Sl),Mt B τ2 LB/\World Z.K H5 (LB++(acc'.map some++(_root_.Q.clr R L1++T.map some)))/\Step H L H5 (LB++(acc'.map some++(_root_.Q.clr R L1++T.map some)))/\acc.map Sl.v++[y]=acc'.map Sl.v/\acc'.length=acc.length + 1/\lcL tt u c (ds.drop (i + 1)) B (acc'.map Sl.sd)=some rB/\(q=true->Same H H5/\∀ b∈owned (acc'.map some),H b=none),
     fun H5=>∃ B LB,Mt B τ2 LB/\World Z.K H5 (LB++(acc.map some++(_root_.Q.clr R L1++T.map some)))/\Step H L H5 (LB++(acc.map some++(_root_.Q.clr R L1++T.map some)))/\lcL tt u c (ds.drop (i + 1)) B (acc.map Sl.sd)=some rB/\(q=true->Same H H5/\∀ b∈owned (acc.map some),H b=none),
     fun y H5 ⟨B5,LB5,acc5,c1,c2,c3,c4,c5,c6,c7⟩=>⟨by rw [List.length_map];lia,ds.length - (i + 1),by lia,B5,LB5,acc5,c1,lB2,p3,c2,c3,c4,c6,hlt,by lia,rfl,c7⟩,
     fun H5 ⟨B5,LB5,c1,c2,c3,c6,c7⟩=>⟨ds.length - (i + 1),by lia,B5,LB5,acc,c1,lB2,p3,c2,c3,rfl,c6,hlt,by lia,rfl,c7⟩,?_⟩
    have xcB:∀ {α} {H6} {L6} {B6} {cc:Str} {A:Ls},rB=.exc B6 cc->World Z.K H6 (L6++(A++(_root_.Q.clr R L1++T.map some)))->Step H L H6 (L6++(A++(_root_.Q.clr R L1++T.map some)))->Xc Z τ2 H6 L6 (.exc B6 cc:Res α):=fun {α H6 L6 B6 cc A} er w6 s6 E7 c7 e7 C L7 H7 hm m7 w7 s7=>by
     injection e7 with e8 e9
     subst e8 e9
     subst er
     cases Option.some.inj h2
     obtain ⟨w8,s8⟩:=stay w6 s7 w7
     obtain ⟨m9,w9,s9⟩:=home m7 lB2 p3 w8
     exact xc _ _ rfl C _ H7 hm m9 w9.right ((s6.trans (s8.trans s9)).trans ⟨fun _ _ h _=>h,fun a ha=>.inl (by rw [owned_app];exact List.mem_append_right _ ha),fun a ha=>.inl (by rw [frozen_app];exact List.mem_append_right _ ha)⟩)
    rcases bnd_cases f1 with ⟨B4,kb,g1,g2⟩ | ⟨B4,cc,g1,g2⟩
    rotate_left
    ·exact ⟨B2,LB2,_,mB2,wB3,g1,xcB g2 w4 sAll,fun E' s' z=>by cases z⟩
    refine ⟨B2,LB2,_,mB2,wB3,g1,(fun _ _ z=>by cases z),fun E' s' z LB4 H4 mB4 wB4 sB4 sm4=>?_⟩
    injection z with z1 z2
    subst z1 z2
    obtain ⟨w5,s5⟩:=stay w4 sB4 wB4
    have sAll4:=sAll.trans s5
    cases kb with
    | false =>
     rw [if_neg (by decide)] at g2 ⊢
     exact ⟨B4,LB4,mB4,w5,sAll4,g2,fun hq=>⟨same_trans (smAll hq).1 (sm4 hq),(smAll hq).2⟩⟩
    | true =>
     rw [if_pos rfl] at g2 ⊢
     rcases bnd_cases g2 with ⟨B6,y,g3,g4⟩ | ⟨B6,cc,g3,g4⟩
     rotate_left
     ·exact ⟨B4,LB4,_,mB4,wB4,g3,xcB g4 w5 sAll4,fun E' s' z=>by cases z⟩
     refine ⟨B4,LB4,_,mB4,wB4,g3,(fun _ _ z=>by cases z),fun E' s' z x LB6 H6 ex ey mB6 wB6 sB6 sm6=>?_⟩
     injection z with z1 z2
     subst z1 z2
     obtain ⟨w7,s7⟩:=stay w5 sB6 wB6
     have pm3:((some x :: LB6)++(acc.map some++(_root_.Q.clr R L1++T.map some))).Perm (LB6++((acc++[x]).map some++(_root_.Q.clr R L1++T.map some))):=by
      rw [List.map_append,List.cons_append]
      have:(LB6++(acc.map some++[x].map some++(_root_.Q.clr R L1++T.map some)))=(LB6++acc.map some)++some x :: (_root_.Q.clr R L1++T.map some):=by simp
      rw [this]
      refine List.Perm.trans ?_ List.perm_middle.symm
      rw [List.append_assoc]
     refine ⟨B6,LB6,acc++[x],mB6,w7.perm pm3,(sAll4.trans s7).perm (List.Perm.refl _) pm3,by simp,by simp,?_,fun hq=>⟨same_trans (smAll hq).1 (same_trans (sm4 hq) (sm6 hq).1),fun b hb=>?_⟩⟩
     ·rw [List.map_append,show [x].map Sl.sd=[y] from by simp [Sl.sd,ex,ey]]
      exact g4
     ·rw [List.map_append,owned_app] at hb
      rcases List.mem_append.mp hb with hb | hb
      ·exact (smAll hq).2 b hb
      ·have hb:b∈x.own:=by simpa using hb
       exact none_back (same_trans (smAll hq).1 (sm4 hq)) ((sm6 hq).2 b hb)
theorem q_lc (N:List Str) (hi:QI X Z q tg it iter)
  (hg:∀ cl C s0 H0 fp,QG (lcE X scope N cl C s0 H0 fp Z.EX) Z ((List.range R.length).map (k + ·)) tt tg) (ht:∀ cl C s0 H0 fp,PTs (lcE X scope N cl C s0 H0 fp Z.EX) ifs (tT Z q u)) (he:∀ cl C s0 H0 fp,QE (lcE X scope N cl C s0 H0 fp Z.EX) Z q c elt)
  (gx:Goes X Z.EX) (top:TopX X) (hR:R.Nodup) (hr:∀ j∈R,j < X.N.length) (hc:X.calm=true:=by rfl) (hk:scope.kind=.function:=by rfl) (hsc:lcChk X.N X.env.scope scope N k R=true:=by rfl) (hs:∀ x,foldedSetIterable iter X.env x=pure x:=by intro _;rfl) :
  QE X Z q (cLC o k R it tt u c) (.ListComp elt [⟨tg,iter,ifs,0⟩] scope pos):=fun pins s σ H Q I hw =>
 pe_lcE (EX:=Z.EX) N k R (qi_S hi) hg ht he gx top hc hk hsc hs pins s σ H Q I (lc_read I.len hR hr hw)
theorem ps_setLCE {EX:XK} {wi:TI} {g:TG} {tte:TT} {te:TE} {i:Nat} {y:Str} {py spos:Pos} (N:List Str) (k:Nat) (R:List Nat) (hN:X.N.Nodup) (hy:X.N[i]?=some y) (hx:Loc X.env.scope y) (hi:PI X tg iter wi)
  (hg:∀ cl C s0 H0 fp,PG (lcE X scope N cl C s0 H0 fp EX) tg g) (ht:∀ cl C s0 H0 fp,PTs (lcE X scope N cl C s0 H0 fp EX) ifs tte) (he:∀ cl C s0 H0 fp,PE (lcE X scope N cl C s0 H0 fp EX) elt te) (gx:Goes X EX) (top:TopX X)
  (hsw:swapsWith (.ListComp elt [⟨tg,iter,ifs,0⟩] scope pos) (some (.Name y py)) spos.line X.env=pure true:=by rfl)
  (hc:X.calm=true:=by rfl) (hk:scope.kind=.function:=by rfl) (hsc:lcChk X.N X.env.scope scope N k R=true:=by rfl) (hs:∀ x,foldedSetIterable iter X.env x=pure x:=by intro _;rfl)
  (hf:X.fn y=true\/X.env.scope.names.lookup y=some .local:=by first | exact .inl rfl | exact .inr rfl) :
  PS X (.Assign [.Name y py] (.ListComp elt [⟨tg,iter,ifs,0⟩] scope pos) spos) (fun D σ H=>tLC wi g tte te k R σ H fun v H1=>D.nx (σ.set i (some v)) H1):=by
 intro pins s σ H D I h
 have sc:=lcChk_ok hk hsc
 obtain ⟨cl,hclos,hcl,hfree⟩:=closure_of (scope:=scope) (env:=X.env) fun y hy e=>I.ok.has y.1 (sc.caps y hy e)
 rw [exec_Assign_Name_used _ _ _ _ hsw]
 refine wpAny_bind (wpAny_standAt (wpAny_bind ?_))
 show wpAny _ X.A (do let _ ← comprehension (.ListComp elt [⟨tg,iter,ifs,0⟩] scope pos) scope X.env _ (newList []) false (eval iter X.env) (some (assign (.Name y py) X.env))) _ _ s
 refine wpAny_bind (thn (wpAny_comprehension_free (use:=some (assign (.Name y py) X.env)) (Q:=fun _ s'=>SP X pins D .next s') rfl hs hclos sc.kind sc.names
  (thn (hi pins s σ H _ I h) fun v s1 h1=>thn h1 fun itv s2 h2=>?_)) fun _ s' hq=>wpAny_pure (wpAny_pure hq))
 obtain ⟨it,fp,tn,J,H2,e,I2,T,st2,f2,W,w0,turn⟩:=h2
 subst e
 refine lc_blockE (EX:=EX) (RR:=fun acc C=>compPost (model X.prog X.w) X.A X.xe (some (assign (.Name y py) X.env)) (fun _ s'=>SP X pins D .next s') acc C) hc top sc hcl hfree (hg cl) (ht cl) (he cl) I2 T st2 f2 w0 turn ?_ ?_
 rotate_left
 ·intro D' C s' pins' σ' H' x T Cc fl hC t q
  exact lc_err gx I2 f2 hC t q
 intro L C oC m ys H' s' I' eC nC fC q
 show wpAny _ X.A (assign (.Name y py) X.env (.ref L)) _ _ s'
 refine wpAny_assign_Name (store_ok I' hN hy hx (v:=.ref L) rfl (fun s'' I''=>?_) hf)
 have pC:=I''.pin (C,oC) (List.mem_append_right _ (List.mem_append_right _ (List.mem_singleton.mpr rfl)))
 refine ⟨m,nC.at' fun o e=>?_,fun h' sb=>⟨_,_,I''.unpinned.turned (it:=C) (t':=s''.toks) (fun b o hb e=>(sb.2 b hb).trans e) fC.1 fC.2.1 fC.2.2.2.1 fC.2.2.2.2.1 fC.2.2.2.2.2,q⟩⟩
 rw [eC] at e
 cases e
 exact pC.1
theorem q_setLC {i:Nat} {y:Str} {py spos:Pos} (N:List Str) (hN:X.N.Nodup) (hy:X.N[i]?=some y) (hx:Loc X.env.scope y) (hi:QI X Z q tg it iter)
  (hg:∀ cl C s0 H0 fp,QG (lcE X scope N cl C s0 H0 fp Z.EX) Z ((List.range R.length).map (k + ·)) tt tg) (ht:∀ cl C s0 H0 fp,PTs (lcE X scope N cl C s0 H0 fp Z.EX) ifs (tT Z q u)) (he:∀ cl C s0 H0 fp,QE (lcE X scope N cl C s0 H0 fp Z.EX) Z q c elt)
  (gx:Goes X Z.EX) (top:TopX X) (hR:R.Nodup) (hr:∀ j∈R,j < X.N.length) (hp:i∉pn:=by decide)
  (hsw:swapsWith (.ListComp elt [⟨tg,iter,ifs,0⟩] scope pos) (some (.Name y py)) spos.line X.env=pure true:=by rfl)
  (hc:X.calm=true:=by rfl) (hk:scope.kind=.function:=by rfl) (hsc:lcChk X.N X.env.scope scope N k R=true:=by rfl) (hs:∀ x,foldedSetIterable iter X.env x=pure x:=by intro _;rfl)
  (hf:X.fn y=true\/X.env.scope.names.lookup y=some .local:=by first | exact .inl rfl | exact .inr rfl) :
  QS X Z pn (sAsg i (cLC o k R it tt u c)) (.Assign [.Name y py] (.ListComp elt [⟨tg,iter,ifs,0⟩] scope pos) spos) :=
 q_asgX (q:=q) hp fun pins s σ H D I hw=>ps_setLCE N k R hN hy hx (qi_S hi) hg ht he gx top hsw hc hk hsc hs hf pins s σ H D I (lc_read I.len hR hr hw)
end
end
end Q
namespace Q
open PySem PySem.Spec PyProof.Rows L2 L3
section
variable {X:Cx} {Z:Fx0} {K:PySem.W.Frag} {pn:List Nat} {q qa qb:Bool} {a b c:Ex} {u:Ts} {tg e ea eb:Expr} {σ:L2.St} {H:Hp} {L:Ls} {E:En} {pos p:Pos} {x:Str} {id T:String} {r:List V->Hp->VK->Prop} {f:Sd->Option Sd} {g:Sd->Sd->Option Sd}
theorem q_ts0:PTs X [] (tT Z q _root_.Q.tYes):=fun pins s σ H Q I h_z=>ex8 h_z fun E L r m w hc xc k=>by
 cases Option.some.inj hc
 exact pts_nil pins s σ H Q I (k _ _ rfl L H m w Step.refl fun _=>same_refl)
theorem q_ts1 (h:QT X Z q u e):PTs X [e] (tT Z q u):=pts_one h
theorem q_b1 (hc:CallR X (.builtin id) r) (ad:Ad1 Z.K (fun v H Q=>r [v] H Q) f) (ha:QV X Z q a ea) (hm:X.mg x=none) (hv:bootBuiltins x=some (.builtin id)) (hg:Gl X x:=by rfl) (hn:x≠"__name__":=by decide) (hdb:(x == ("__debug__":Str))=false:=by decide)
  (he:starEach [ea] X.env=(false,eval ea X.env) :: starEach [] X.env:=by rfl) (hpl:(backTo pos (starEach [] X.env)).any (·.1)=false:=by rfl):QE X Z q (cF1 f a) (.Call (.Name x p) [ea] [] pos) :=
 pe_imp (pe_callB hc hg hm hv (pa_cons ha pa_nil he) hn hdb he hpl) fun σ H Q h=>ad1_read ad h
theorem q_y1 (hc:CallR X (.type T) r) (ad:Ad1 Z.K (fun v H Q=>r [v] H Q) f) (ha:QV X Z q a ea) (hm:X.mg x=none) (hv:bootBuiltins x=some (.type T)) (hg:Gl X x:=by rfl) (hn:x≠"__name__":=by decide) (hdb:(x == ("__debug__":Str))=false:=by decide)
  (he:starEach [ea] X.env=(false,eval ea X.env) :: starEach [] X.env:=by rfl) (hpl:(backTo pos (starEach [] X.env)).any (·.1)=false:=by rfl):QE X Z q (cF1 f a) (.Call (.Name x p) [ea] [] pos) :=
 pe_imp (pe_callTy hc hg hm hv (pa_cons ha pa_nil he) hn hdb he hpl) fun σ H Q h=>ad1_read ad h
theorem q_b2 (hc:CallR X (.builtin id) r) (ad:Ad2 Z.K (fun v w H Q=>r [v,w] H Q) g) (ha:QV X Z q a ea) (hb:QV X Z true b eb) (hm:X.mg x=none) (hv:bootBuiltins x=some (.builtin id)) (hg:Gl X x:=by rfl) (hn:x≠"__name__":=by decide) (hdb:(x == ("__debug__":Str))=false:=by decide)
  (he:starEach [ea,eb] X.env=(false,eval ea X.env) :: starEach [eb] X.env:=by rfl) (he2:starEach [eb] X.env=(false,eval eb X.env) :: starEach [] X.env:=by rfl) (hpl:(backTo pos (starEach [eb] X.env)).any (·.1)=false:=by rfl):QE X Z q (cF2 g a b) (.Call (.Name x p) [ea,eb] [] pos) :=
 pe_imp (pe_callB hc hg hm hv (pa_cons ha (pa_cons hb pa_nil he2) he) hn hdb he hpl) fun σ H Q h=>ad2_read (r:=fun v w H Q=>r [v,w] H Q) ad h
theorem ad_len:Ad1 K (fun v H Q=>rLenAny K [v] H Q) (pu1 fLen):=by
 intro H x s Q ok hf k
 unfold pu1 at hf
 have fin:∀ n,fLen x.d=some (.int n)->Q (.int n) H:=fun n e=>by
  rw [e] at hf
  cases Option.some.inj hf
  exact k _ H rfl rfl outI
 cases hx:x.d with
 | lst ds =>
  obtain ⟨l,xs,bs,e,q,r,_⟩:=items ok (.inl hx)
  refine .inl ⟨l,xs,by rw [e],?_,by rw [← r.len];exact fin ds.length (by rw [hx];rfl)⟩
  rcases q with ⟨_,z⟩ | ⟨_,z⟩
  ·exact .inl (rd_sq z)
  ·exact .inr z
 | tup ds =>
  obtain ⟨l,xs,bs,e,q,r,_⟩:=items ok (.inr hx)
  refine .inl ⟨l,xs,by rw [e],?_,by rw [← r.len];exact fin ds.length (by rw [hx];rfl)⟩
  rcases q with ⟨_,z⟩ | ⟨_,z⟩
  ·exact .inl (rd_sq z)
  ·exact .inr z
 | str z =>
  obtain ⟨e,hz⟩:=of_str ok hx
  exact .inr (.inl ⟨z,by rw [e],hz,fin z.length (by rw [hx];rfl)⟩)
 | _=>rw [hx] at hf;cases hf
noncomputable def rIsiQ (K:PySem.W.Frag):List V->Hp->VK->Prop:=fun xs H Q=>rIsi K xs H Q\/(∃ p ys U,xs=[.ref p,.ty U]/\SqT K H p ys/\U∈kinds.tail/\Q (.bl (isaB "tuple" U)) H)\/∃ p ys U,xs=[.ref p,.ty U]/\SqL K H p ys/\U∈kinds.tail/\Q (.bl (isaB "list" U)) H
theorem call_isiQ (hK:X.K=K:=by rfl):CallR X (.builtin "isinstance") (rIsiQ K):=by
 subst hK
 intro pins s σ H xs us Q I r h
 rcases h with h | ⟨p,ys,U,rfl,hq,hU,q⟩ | ⟨p,ys,U,rfl,hq,hU,q⟩
 ·exact call_isi pins s σ H xs us Q I r h
 ·obtain ⟨u,w',rfl,r1,r2⟩:=vals2 r
  cases (show w'=Value.type U from r2)
  cases r1
  obtain ⟨its,_,⟨o,h1,h2,_⟩,_⟩:=I.tuple hq
  exact PySem.W.kia_one PySem.W.kitx_tuple I.kIn ⟨o,h1,h2⟩ (kit_all (by decide) hU) (fun z=>nomatch z) fun tk=>⟨.bl _,H,I.tok _,rfl,q⟩
 ·obtain ⟨u,w',rfl,r1,r2⟩:=vals2 r
  cases (show w'=Value.type U from r2)
  cases r1
  obtain ⟨its,_,⟨o,n,h1,h2,_⟩,_⟩:=I.list hq
  exact PySem.W.kia_one PySem.W.kitx_list I.kIn ⟨o,h1,h2⟩ (kit_all (by decide) hU) (fun z=>nomatch z) fun tk=>⟨.bl _,H,I.tok _,rfl,q⟩
theorem ad_isi {U} (hU:U∈kinds.tail):Ad1 K (fun v H Q=>rIsiQ K [v,.ty U] H Q) (pu1 (fIsi U)):=by
 intro H x s Q ok hf k
 unfold pu1 fIsi at hf
 have fin:∀ T,kind x.d=T->(∀ c f,x.d≠.obj c f)->Q (.bl (isaB T U)) H:=fun T e ho=>by
  cases hx:x.d with
  | obj c f=>exact absurd hx (ho c f)
  | dct kvs=>simp_all
  | _ =>
   rw [hx] at hf
   cases Option.some.inj hf
   rw [← e,hx]
   exact k _ H rfl rfl outB
 cases hx:x.d with
 | non=>exact .inl ⟨x.v,"NoneType",U,rfl,by rw [of_non ok hx];exact .non,by decide,hU,fin _ (by rw [hx];rfl) (by simp_all)⟩
 | bl k=>exact .inl ⟨x.v,"bool",U,rfl,by rw [of_bl ok hx];exact .bl _,by decide,hU,fin _ (by rw [hx];rfl) (hx▸fun _ _ z=>nomatch z)⟩
 | int k=>exact .inl ⟨x.v,"int",U,rfl,by rw [of_int ok hx];exact .int _,by decide,hU,fin _ (by rw [hx];rfl) (hx▸fun _ _ z=>nomatch z)⟩
 | str k=>exact .inl ⟨x.v,"str",U,rfl,by rw [(of_str ok hx).1];exact .str _,by decide,hU,fin _ (by rw [hx];rfl) (hx▸fun _ _ z=>nomatch z)⟩
 | lst ds =>
  obtain ⟨l,xs,bs,e,q,r,_⟩:=items ok (.inl hx)
  have f:=fin "list" (by rw [hx];rfl) (hx▸fun _ _ z=>nomatch z)
  rcases q with ⟨_,z⟩ | ⟨z,_⟩
  ·exact .inr (.inr ⟨l,xs,U,by rw [e],z.sq,hU,f⟩)
  ·simp_all
 | tup ds =>
  obtain ⟨l,xs,bs,e,q,r,_⟩:=items ok (.inr hx)
  have f:=fin "tuple" (by rw [hx];rfl) (hx▸fun _ _ z=>nomatch z)
  rcases q with ⟨z,_⟩ | ⟨_,z⟩
  ·simp_all
  ·exact .inr (.inl ⟨l,xs,U,by rw [e],z,hU,f⟩)
 | dct kvs=>simp_all
 | obj c f=>simp_all
theorem q_isi {U} {y} {p2} (ha:QV X Z q a ea) (hm:X.mg "isinstance"=none) (hmy:X.mg y=none) (hy:bootBuiltins y=some (.type U)) (hK:X.K=Z.K) (hU:U∈kinds.tail:=by decide) (hg:Gl X "isinstance":=by rfl) (hgy:Gl X y:=by rfl) (hny:y≠"__name__":=by decide) (hdy:(y == ("__debug__":Str))=false:=by decide)
  (he:starEach [ea,.Name y p2] X.env=(false,eval ea X.env) :: starEach [.Name y p2] X.env:=by rfl) (he2:starEach [.Name y p2] X.env=(false,eval (.Name y p2) X.env) :: starEach [] X.env:=by rfl) (hpl:(backTo pos (starEach [.Name y p2] X.env)).any (·.1)=false:=by rfl) :
  QE X Z q (cF1 (pu1 (fIsi U)) a) (.Call (.Name "isinstance" p) [ea,.Name y p2] [] pos) :=
 pe_imp (pe_callB (call_isiQ hK) hg hm bt_isinstance (pa_cons ha (pa_cons (pe_bltn (v:=.ty U) hgy hmy hy rfl hny hdy) pa_nil he2) he) (by decide) (by decide) he hpl) fun σ H Q h=>ad1_read (ad_isi hU) h
theorem ad_list:Ad1 K (fun v H Q=>rListOf K [v] H Q) fList:=by
 intro H x s Q ok hf k
 unfold fList at hf
 dsimp only at hf
 split at hf
 ·rename_i ds e
  split at hf
  ·rename_i hl
   cases Option.some.inj hf
   obtain ⟨l,xs,bs,ev,q3,r3,h3⟩:=items_loose ok (.inl e) hl
   have q3:LsR K H l xs:=by rcases q3 with ⟨_,z⟩ | ⟨z,_⟩;exact z;rw [e] at z;cases z
   exact ⟨l,xs,by rw [ev],.inl (rd_sq q3),fun p hp=>k _ _ rfl rfl (out_lst hp r3 h3)⟩
  ·cases hf
 ·rename_i ds e
  split at hf
  ·rename_i hl
   cases Option.some.inj hf
   obtain ⟨l,xs,bs,ev,q3,r3,h3⟩:=items_loose ok (.inr e) hl
   have q3:SqT K H l xs:=by rcases q3 with ⟨z,_⟩ | ⟨_,z⟩;rw [e] at z;cases z;exact z
   exact ⟨l,xs,by rw [ev],.inr q3,fun p hp=>k _ _ rfl rfl (out_lst hp r3 h3)⟩
  ·cases hf
 ·cases hf
noncomputable def rTupleOf (K:PySem.W.Frag):List V->Hp->VK->Prop:=fun xs H Q=>∃ p ys,xs=[.ref p]/\((SqL K H p ys/\∀ l,H l=none->Q (.ref l) (upd H l (.tup ys)))\/(SqT K H p ys/\Q (.ref p) H))
theorem callTuple (hK:X.K=K):CallR X (.type "tuple") (rTupleOf K):=by subst hK;exact call_tuple_of
theorem ad_tuple:Ad1 K (fun v H Q=>rTupleOf K [v] H Q) fTuple:=by
 intro H x s Q ok hf k
 unfold fTuple at hf
 dsimp only at hf
 split at hf
 ·rename_i ds e
  split at hf
  ·rename_i hl
   cases Option.some.inj hf
   obtain ⟨l,xs,bs,ev,q3,r3,h3⟩:=items_loose ok (.inl e) hl
   have q3:LsR K H l xs:=by rcases q3 with ⟨_,z⟩ | ⟨z,_⟩;exact z;rw [e] at z;cases z
   exact ⟨l,xs,by rw [ev],.inl ⟨rd_sq q3,fun p hp=>k _ _ rfl rfl (out_tup hp r3 h3)⟩⟩
  ·cases hf
 ·rename_i ds e
  split at hf
  ·rename_i hl
   cases Option.some.inj hf
   obtain ⟨l,xs,bs,ev,q3,r3,h3⟩:=items_loose ok (.inr e) hl
   have q3:SqT K H l xs:=by rcases q3 with ⟨z,_⟩ | ⟨_,z⟩;rw [e] at z;cases z;exact z
   refine ⟨l,xs,by rw [ev],.inr ⟨q3,k ⟨.no,.tup ds,.ref l,bs⟩ H rfl rfl ⟨same_refl,?_,fun b hb=>(nomatch hb),List.nodup_nil,fun b hb=>h3 b hb⟩⟩⟩
   show RepL K H true _ _ bs
   exact ⟨l,xs,rfl,q3,r3⟩
  ·cases hf
 ·cases hf
theorem ad_ii {h:Int->Int->Int} {f:Int->Int->Option Int} (hh:∀ i j,f i j=some (h i j)):Ad2 K (fun v w H Q=>(fun xs H Q=>∃ i j,xs=[.int i,.int j]/\Q (.int (h i j)) H:List V->Hp->VK->Prop) [v,w] H Q) (pu2 (i2 f)):=by
 intro H x y s Q ox oy hf k
 unfold pu2 i2 at hf
 dsimp only at hf
 split at hf
 ·rename_i i j e1 e2
  rw [hh] at hf
  cases Option.some.inj hf
  exact ⟨i,j,by rw [of_int ox e1,of_int oy e2],k ⟨.dp,.int _,.int _,[]⟩ H rfl rfl outI⟩
 ·cases hf
theorem bl_c2 {g}:∀ x y s,pu2 (c2 g) x y=some s->∃ k,s.2=.bl k:=by
 intro x y s h
 unfold pu2 c2 at h
 split at h
 ·grind
 ·grind
theorem bl_eq:∀ x y s,pu2 fEq x y=some s->∃ k,s.2=.bl k:=by
 intro x y s h
 unfold pu2 fEq at h
 split at h
 ·grind
 ·grind
theorem bl_ne:∀ x y s,pu2 fNe x y=some s->∃ k,s.2=.bl k:=by
 intro x y s h
 unfold pu2 fNe at h
 split at h
 ·grind
 ·grind
theorem fIn_bl {x y d} (h:fIn x y=some d):∃ k,d=.bl k:=by
 unfold fIn at h
 split at h
 ·split at h
  ·cases Option.some.inj h;exact ⟨_,rfl⟩
  ·cases h
 ·split at h
  ·cases Option.some.inj h;exact ⟨_,rfl⟩
  ·cases h
 ·split at h
  ·grind
  ·grind
 ·grind
 ·grind
theorem bl_in:∀ x y s,pu2 fInQ x y=some s->∃ k,s.2=.bl k:=by
 intro x y s h
 unfold pu2 fInQ at h
 split at h
 ·grind
 ·cases hf:fIn x.2 y.2 with
  | none=>grind
  | some d =>
   rw [hf] at h
   cases Option.some.inj h
   exact fIn_bl hf
theorem bl_notin:∀ x y s,pu2 fNotInQ x y=some s->∃ k,s.2=.bl k:=by
 intro x y s h
 unfold pu2 fNotInQ fNotIn at h
 split at h
 ·grind
 ·cases hf:fIn x.2 y.2 with
  | none=>rw [hf] at h;cases h
  | some d =>
   obtain ⟨k,rfl⟩:=fIn_bl hf
   rw [hf] at h
   cases Option.some.inj h
   exact ⟨_,rfl⟩
theorem bl_isN:∀ x y s,f2First fIsNon x y=some s->∃ k,s.2=.bl k:=by
 intro x y s h
 unfold f2First fIsNon at h
 split at h
 ·grind
 ·grind
theorem bl_notN:∀ x y s,f2First fNotNon x y=some s->∃ k,s.2=.bl k:=by
 intro x y s h
 unfold f2First fNotNon at h
 split at h
 ·grind
 ·grind
theorem vals_get:∀ {xs} {us},xs.length=us.length->(∀ (i:Nat) (x) (u),xs[i]?=some x->us[i]?=some u->RelV x u)->Vals xs us
 | [],[],_,_=>.nil
 | [],_ :: _,h,_=>by simp_all
 | x :: xs,u :: us,h,f=>.cons (f 0 x u (by simp) (by simp)) (vals_get (by simpa using h) fun i x u e1 e2=>f (i + 1) x u (by simpa using e1) (by simpa using e2))
theorem pe_rng {p2 pos2} (ha:QV X Z q a ea) (hmr:X.mg "range"=none) (hgr:Gl X "range") (hst:starEach [ea] X.env=(false,eval ea X.env) :: starEach [] X.env) (hpl:(backTo pos2 (starEach [] X.env)).any (·.1)=false):PE X (.Call (.Name "range" p2) [ea] [] pos2) (fun σ H Q=>tV Z q a σ H fun v H1=>∃ j,v=.int j/\∀ pp,H1 pp=none->Q (.ref pp) (upd H1 pp (.rng 0 j))):=by
 intro pins s σ H Q I h
 refine Call_ (ld_blt I hgr hmr boot_range (PyProof.Rows.callWith_type1 (thn (pa_cons ha pa_nil hst pos2 pins s σ H (fun vs H1=>∃ j,vs=[.int j]/\∀ pp,H1 pp=none->Q (.ref pp) (upd H1 pp (.rng 0 j))) I ?_) fun us s1 ⟨vs,H1,I1,r1,j,e,q1⟩=>?_) hst hpl))
 ·grind
 ·subst e
  obtain ⟨u,rfl,t,rfl⟩:=r1.one
  refine call_range_1 ⟨.ref s1.heap.objs.size,_,I1.laid (o:=.rng 0 j) (fun b o e=>Heap.get?_push_of_some _ e) (Nat.le_refl _) ⟨_,_,_,Heap.get?_push_size _ rfl⟩,rfl,q1 _ I1.fresh⟩
theorem rep_rng {K} {H} (ns:List Nat):RepA K H true (ns.map fun (i:Nat)=>D.int (0 + i)) (ns.map fun (i:Nat)=>V.int (0 + i)) []:=by
 induction ns with
 | nil=>unfold RepA;exact ⟨rfl,rfl⟩
 | cons i ns ih =>
  unfold RepA
  exact ⟨_,_,[],[],rfl,rfl,rep_int,ih⟩
theorem vals_rng {n} {acc:Array Value} (hs:acc.size=n) (hg:∀ (i:Nat) u,acc[i]?=some u->∃ t,u=.int (0 + i * 1) t):Vals ((List.range n).map fun (i:Nat)=>V.int (0 + i)) acc.toList:=vals_get (by simp [hs]) fun i x u ex eu=>by
 rw [Array.getElem?_toList] at eu
 obtain ⟨t,rfl⟩:=hg i u eu
 rw [List.getElem?_map] at ex
 obtain ⟨m,hr,rfl⟩:=Option.map_eq_some_iff.mp ex
 obtain ⟨_,h2⟩:=List.getElem?_eq_some_iff.mp hr
 rw [List.getElem_range] at h2
 subst h2
 exact ⟨t,by rw [Int.mul_one]⟩
theorem q_lr1 {p2 pos2} (ha:QV X Z q a ea) (hmr:X.mg "range"=none) (hml:X.mg "list"=none) (hc:X.calm=true:=by rfl) (hgr:Gl X "range":=by rfl) (hgl:Gl X "list":=by rfl)
  (hst:starEach [ea] X.env=(false,eval ea X.env) :: starEach [] X.env:=by rfl) (hpl:(backTo pos2 (starEach [] X.env)).any (·.1)=false:=by rfl)
  (hst2:starEach [.Call (.Name "range" p2) [ea] [] pos2] X.env=(false,eval (.Call (.Name "range" p2) [ea] [] pos2) X.env) :: starEach [] X.env:=by rfl) (hpl2:(backTo pos (starEach [] X.env)).any (·.1)=false:=by rfl) :
  QE X Z q (cLR1 a) (.Call (.Name "list" p) [.Call (.Name "range" p2) [ea] [] pos2] [] pos):=by
 intro pins s σ H Q I ⟨E,L,r,m,w,hcc,xc,k⟩
 refine wpAny_Call_Name_kw (ld_blt I hgl hml bt_list (PyProof.Rows.callWith_type1 (thn (pa_cons (pe_rng ha hmr hgr hst hpl) pa_nil hst2 pos pins s σ H (fun vs H1=>∃ pp j,vs=[.ref pp]/\H1 pp=some (.rng 0 j)/\small62 j=true/\j.toNat<=big/\∀ l,H1 l=none->Q (.ref l) (upd H1 l (.lst ((List.range j.toNat).map fun (i:Nat)=>V.int (0 + (i)))))) I ?_) fun us s1 ⟨vs,H1,I1,r1,pp,j,e,hp,h62,hbig,q1⟩=>?_) hst2 hpl2))
 ·refine vbind m w (show bnd (a E) _=some r from hcc) xc fun E1 s h1 x L1 H1 e1 e2 m1 w1 ok fr sr st sm=>?_
  cases hx:s.2 with
  | int j =>
   rw [hx] at h1
   dsimp only at h1
   split at h1
   ·rename_i hj
    cases Option.some.inj h1
    refine ⟨j,of_int ok (e2.trans hx),fun pp hpp=>⟨pp,j,rfl,upd_same,hj.1,hj.2,fun l hl=>?_⟩⟩
    have s1:Same H1 (upd H1 pp (.rng 0 j)):=same_upd hpp
    have w2:World Z.K (upd H1 pp (.rng 0 j)) L1:=⟨fun x hx=>RepO.kp (w1.ok x hx) (Kp.of_same s1),w1.nd,w1.ds⟩
    have o:=out_lst (K:=Z.K) (H:=upd H1 pp (.rng 0 j)) (fr:=[]) hl (rep_rng (List.range j.toNat)) (fun _ z=>(nomatch z))
    obtain ⟨w3,st3⟩:=out_world w2 (st.trans ⟨fun b ob z _=>s1 b ob z,fun b z=>.inl z,fun b z=>.inl z⟩) o (fun _ z=>(nomatch z)) (fun _ z=>(nomatch z)) (fun _ z=>(nomatch z))
    refine k _ _ rfl ⟨.rt,.lst (rangeD 0 j),.ref l,[l]⟩ L1 _ rfl rfl m1 (by simpa [rangeD] using w3) (by simpa [rangeD] using st3) fun hq=>⟨same_trans (sm hq) (same_trans s1 o.same),fun b hb=>?_⟩
    have:b=l:=by simpa [Sl.own] using hb
    subst this
    exact none_back (same_trans (sm hq) s1) hl
   ·cases h1
  | _=>rw [hx] at h1;cases h1
 ·subst e
  obtain ⟨u,rfl,rx⟩:=r1.one
  cases rx
  obtain ⟨t1,t2,t3,hg⟩:=(show ObjOk X.prog X.w H1 s1.heap pp (.rng 0 j) from I1.hok pp _ hp)
  obtain ⟨j1,j2⟩:=small62_of h62
  have e2:Builtin.Range.rangeSize 0 j 1=((j.toNat:Nat):Int):=by rw [rangeSize_one];split<;>lia
  refine call_list_range (n:=j.toNat) (I1.ok.hd hc) (show IsRange s1.heap pp 0 j 1 t1 t2 t3 from hg) (small_one (by lia) (by lia) j1 j2) e2 hbig fun h' tk acc' c' kp e4 hit=>?_
  obtain ⟨hs,hg2⟩:=hit
  refine ⟨.ref s1.heap.objs.size,_,I1.laid (a:=s1.heap.objs.size) (o:=.lst ((List.range j.toNat).map fun (i:Nat)=>V.int (0 + (i)))) (t':=tk) kp (Nat.le_refl _) ⟨by rw [List.length_map,List.length_range];exact hbig,acc'.toList,c',vals_rng hs hg2,by simpa using e4⟩,rfl,q1 _ I1.fresh⟩
end
end Q
noncomputable section
namespace Q
open PySem
noncomputable def sIxD (n d:Nat):Option Int->Nat
 | none=>d
 | some v=>if v < 0 then (v + (n:Int)).toNat else min v.toNat n
noncomputable def cutD (xs:List D) (lo hi:Option Int):List D:=(xs.drop (sIxD xs.length 0 lo)).take (sIxD xs.length xs.length hi - sIxD xs.length 0 lo)
noncomputable def fSl:Sd->Option Int->Option Int->Option Sd:=fun x lo hi=>match x.2 with
 | .lst xs=>if loose x then some (.rt,.lst (cutD xs lo hi)) else none
 | .tup xs=>if loose x/\¬ (sIxD xs.length 0 lo=0/\sIxD xs.length xs.length hi=xs.length) then some (.no,.tup (cutD xs lo hi)) else none
 | .str z=>if (Txt.slice z lo hi).length<=big then some (.dp,.str (Txt.slice z lo hi)) else none
 | _=>none
noncomputable def cPart:Option Ex->Ev (Option Int)
 | none,E=>some (.ok E none)
 | some c,E=>bnd (c E) fun E x=>match x.2 with
  | .int i=>some (.ok E (some i))
  | _=>none
noncomputable def cSl (a:Ex) (lo hi:Option Ex):Ex:=fun E=>bnd (a E) fun E x=>bnd (cPart lo E) fun E l=>bnd (cPart hi E) fun E h=>val E (fSl x l h)
noncomputable def zipD:List D->List D->List D
 | a :: x,b :: y=>.tup [a,b] :: zipD x y
 | _,_=>[]
noncomputable def lstOf:D->Option (List D)
 | .lst xs=>some xs
 | _=>none
noncomputable def itZip (c d:Ex):Ev (List D):=fun E=>bnd (c E) fun E x=>bnd (d E) fun E y=>val E ((lstOf x.2).bind fun xs=>(lstOf y.2).bind fun ys=>if xs.length<=big then some (zipD xs ys) else none)
noncomputable def strsD:List D->Option (List Str)
 | []=>some []
 | .str z :: ds=>(strsD ds).map (z :: ·)
 | _=>none
noncomputable def intsD:List D->Option (List Int)
 | []=>some []
 | .int z :: ds=>(intsD ds).map (z :: ·)
 | _=>none
noncomputable def insS (a:Str):List Str->List Str
 | []=>[a]
 | b :: r=>if Spec.ltCps b.cps.toList a.cps.toList then b :: insS a r else a :: b :: r
noncomputable def sortS:List Str->List Str
 | []=>[]
 | a :: r=>insS a (sortS r)
noncomputable def insI (a:Int):List Int->List Int
 | []=>[a]
 | b :: r=>if b < a then b :: insI a r else a :: b :: r
noncomputable def sortI:List Int->List Int
 | []=>[]
 | a :: r=>insI a (sortI r)
noncomputable def fSorted:Sd->Option Sd:=fun x=>match x.2 with
 | .lst ds=>(match strsD ds with
  | some ss=>if ss.length < 64 then some (.rt,.lst ((sortS ss).map .str)) else none
  | none=>(match intsD ds with
   | some is=>if is.length < 64 then some (.rt,.lst ((sortI is).map .int)) else none
   | none=>none))
 | _=>none
noncomputable def fIndex:D->D->Option D:=fun xs x=>match xs with
 | .lst ys=>if x.flat 30 && D.flats 30 ys then (ys.findIdx? fun z=>peq z x).map fun (j:Nat)=>D.int (j:Int) else none
 | .tup ys=>if x.flat 30 && D.flats 30 ys then (ys.findIdx? fun z=>peq z x).map fun (j:Nat)=>D.int (j:Int) else none
 | _=>none
noncomputable def isSq:D->Bool
 | .lst _=>true
 | .tup _=>true
 | _=>false
noncomputable def cIdx (a b:Ex):Ex:=fun E=>bnd (a E) fun E x=>if isSq x.2 then bnd (b E) fun E y=>val E (pu2 fIndex x y) else none
noncomputable def cPop (i:Nat) (c:Ex):Ex:=fun E=>if isLst E[i]? then bnd (c E) fun E x=>match E[i]?,x.2 with
 | some (some (o,.lst xs)),.int k=>if o=.no then none else (match ixN xs.length k with
  | some j=>(match xs[j]? with
   | some d=>if d.pure && small62 k then some (.ok (E.set i (some (o,.lst (xs.eraseIdx j)))) (.dp,d)) else none
   | none=>none)
  | none=>none)
 | _,_=>none
 else none
noncomputable def cCallB (f:Fn) (cs:List Ex):Ex:=fun E=>bnd (cArgs cs E) fun E xs=>match f (letAll xs) with
 | some (.ok _ y)=>if y.2.pure then some (.ok E (.dp,y.2)) else none
 | some (.exc _ c)=>some (.exc E c)
 | none=>none
noncomputable def fMulT:Sd->Sd->Option Sd:=fun x y=>match x.2,y.2 with
 | .tup a,.int k=>if -(2 ^ 63)<=k/\k < 2 ^ 63/\a.length * k.toNat<=big/\loose x then some (.no,.tup (List.replicate k.toNat a).flatten) else none
 | _,_=>fMul x y
noncomputable def sRz (c:Str):Sm:=fun E=>some (.xc E c)
noncomputable def cCallT (f:Fn) (cs:List Ex):Ex:=fun E=>match cArgs cs E with
 | some (.ok E xs)=>(match f (letAll xs) with
  | some (.ok _ y)=>some (.ok E y)
  | some (.exc _ c)=>some (.exc E c)
  | none=>none)
 | _=>none
noncomputable def tryEnd (i:Nat):Option Fl->Option Fl
 | some (.nx E)=>some (.nx (E.set i none))
 | some (.rt E x)=>some (.rt (E.set i none) x)
 | some (.ct E)=>some (.ct (E.set i none))
 | some (.bk E)=>some (.bk (E.set i none))
 | _=>none
noncomputable def sTry (cs:List Str) (i:Nat) (b h:Sm):Sm:=fun E=>match b E with
 | some (.xc E c)=>if c∈cs then tryEnd i (h (E.set i (some (.no,.obj c [])))) else none
 | r=>r
noncomputable def fIsX (t:List (Str×Bool)):D->Option D
 | .obj c _=>(t.lookup c).map .bl
 | _=>none
noncomputable def cChain (f g:D->D->Option D) (a b c:Ex):Ex:=fun E=>bnd (a E) fun E x=>bnd (b E) fun E y=>match f x.2 y.2 with
 | some (.bl true)=>bnd (c E) fun E z=>val E ((g y.2 z.2).map fun d=>(.dp,d))
 | some (.bl false)=>some (.ok E (.dp,.bl false))
 | _=>none
noncomputable def isTup:D->Bool
 | .tup _=>true
 | _=>false
noncomputable def isKeyT (x:D):Bool:=keyD 6 x && isTup x
end Q
noncomputable section
noncomputable section
namespace Q
open PySem
noncomputable def fJoin (z:Str):D->Option D:=fun d=>match d with
 | .lst ds=>(match strsD ds with
  | some ys=>if (ys.map (·.length)).sum + ys.length * z.length<=100000 then some (.str (Txt.join z ys)) else none
  | none=>none)
 | _=>none
noncomputable def cJoin (z:Str) (c:Ex):Ex:=fun E=>bnd (c E) fun E x=>val E ((fJoin z x.2).map fun d=>(.dp,d))
end Q
noncomputable section
namespace Q
open PySem
noncomputable def isStrD:D->Bool
 | .str _=>true
 | _=>false
noncomputable def fIdxS:D->D->Option D:=fun x y=>match x,y with
 | .str a,.str b=>(match Builtin.Str.occurrences a b 0 a.length 1 with
  | i :: _=>some (.int i)
  | []=>none)
 | _,_=>none
noncomputable def cIdxS (a b:Ex):Ex:=fun E=>bnd (a E) fun E x=>if isStrD x.2=true then bnd (b E) fun E y=>val E ((fIdxS x.2 y.2).map fun d=>(.dp,d)) else none
end Q
noncomputable section
namespace Q
open PySem
noncomputable def ownT (x:Sd):Bool:=tight x || (x.1 == .rt && (match x.2 with
 | .lst ds=>D.pures ds
 | _=>false))
end Q
noncomputable section
namespace Q
open PySem
noncomputable def D.at:List Nat->D->Option D
 | [],d=>some d
 | n :: p,.tup ds=>match ds[n]? with
  | some d=>D.at p d
  | none=>none
 | n :: p,.lst ds=>match ds[n]? with
  | some d=>D.at p d
  | none=>none
 | _ :: _,_=>none
noncomputable def D.put (d':D):List Nat->D->D
 | [],_=>d'
 | n :: p,.tup ds=>match ds[n]? with
  | some d=>.tup (ds.set n (D.put d' p d))
  | none=>.tup ds
 | n :: p,.lst ds=>match ds[n]? with
  | some d=>.lst (ds.set n (D.put d' p d))
  | none=>.lst ds
 | _ :: _,d=>d
noncomputable def sPC (i:Nat) (p:List Nat):Sm:=fun E=>match E[i]? with
 | some (some (.dp,d))=>(match D.at p d with
  | some (.lst _)=>some (.nx (E.set i (some (.dp,D.put (.lst []) p d))))
  | _=>none)
 | _=>none
noncomputable def cOwn (c:Ex):Ex:=fun E=>bnd (c E) fun E x=>if ownT x=true then some (.ok E (.dp,x.2)) else none
end Q
noncomputable section
noncomputable section
noncomputable section
namespace Q
open PySem PySem.Spec PyProof.Rows L2 L3
section
variable {X:Cx} {Z:Fx0} {K:PySem.W.Frag} {pn:List Nat} {q qa qb:Bool} {a b c:Ex} {u:Ts} {tg e ea eb:Expr} {st:Stmt} {σ:L2.St} {H:Hp} {L:Ls} {E:En} {pos p p2:Pos} {x:Str}
theorem insS_perm (a):∀ r,(insS a r).Perm (a :: r)
 | []=>List.Perm.refl _
 | b :: r=>by
  unfold insS
  split
  ·exact ((insS_perm a r).cons b).trans (List.Perm.swap ..)
  ·simp_all
theorem sortS_perm:∀ r,(sortS r).Perm r
 | []=>List.Perm.refl _
 | a :: r=>(insS_perm a _).trans ((sortS_perm r).cons a)
noncomputable def leS (a b:Str):Prop:=Spec.ltCps b.cps.toList a.cps.toList=false
theorem leS_iff {a b}:leS a b↔a.cps.toList<=b.cps.toList:=by
 unfold leS
 rw [ltCps_eq,decide_eq_false_iff_not,List.not_lt]
theorem leS_trans {a b c} (h:leS a b) (h':leS b c):leS a c:=leS_iff.mpr (List.le_trans (leS_iff.mp h) (leS_iff.mp h'))
theorem leS_anti {a b} (h:leS a b) (h':leS b a):a=b:=by
 have:=List.le_antisymm (leS_iff.mp h) (leS_iff.mp h')
 cases a
 simp_all
theorem leS_total {a b} (h:¬ leS a b):leS b a:=by
 rw [leS_iff] at h ⊢
 exact List.le_of_lt (List.not_le.mp h)
theorem rising_pw:∀ {a} {r},risingS a r=true->(a :: r).Pairwise leS
 | a,[],_=>by simp
 | a,b :: r,h=>by
  have h:(!_ && risingS b r)=true:=h
  rw [Bool.and_eq_true,Bool.not_eq_true'] at h
  have ih:=rising_pw h.2
  refine List.pairwise_cons.mpr ⟨fun c hc=>?_,ih⟩
  rcases List.mem_cons.mp hc with rfl | hc
  ·exact h.1
  ·exact leS_trans h.1 ((List.pairwise_cons.mp ih).1 c hc)
theorem sorted_pw {r} (h:sortedS r=true):r.Pairwise leS:=by
 cases r with
 | nil=>exact .nil
 | cons a r=>exact rising_pw h
theorem insS_pw {a}:∀ {r},r.Pairwise leS->(insS a r).Pairwise leS
 | [],_=>by simp [insS]
 | b :: r,h=>by
  rw [List.pairwise_cons] at h
  unfold insS
  by_cases hl:Spec.ltCps b.cps.toList a.cps.toList=true
  ·rw [if_pos hl]
   refine List.pairwise_cons.mpr ⟨fun c hc=>?_,insS_pw h.2⟩
   rcases List.mem_cons.mp ((insS_perm a r).mem_iff.mp hc) with rfl | hc
   ·exact leS_total (by unfold leS;rw [hl];exact fun z=>nomatch z)
   ·simp_all
  ·rw [if_neg hl]
   have hab:leS a b:=Bool.eq_false_iff.mpr hl
   refine List.pairwise_cons.mpr ⟨fun c hc=>?_,List.pairwise_cons.mpr h⟩
   rcases List.mem_cons.mp hc with rfl | hc
   ·simp_all
   ·exact leS_trans hab (h.1 c hc)
theorem sortS_pw:∀ {r},(sortS r).Pairwise leS
 | []=>.nil
 | a :: r=>insS_pw sortS_pw
theorem sortS_eq {r s} (p:s.Perm r) (h:sortedS s=true):s=sortS r :=
 List.Perm.eq_of_pairwise (fun a b _ _ h1 h2=>leS_anti h1 h2) (sorted_pw h) sortS_pw (p.trans (sortS_perm r).symm)
theorem insI_perm (a):∀ r,(insI a r).Perm (a :: r)
 | []=>List.Perm.refl _
 | b :: r=>by
  unfold insI
  split
  ·exact ((insI_perm a r).cons b).trans (List.Perm.swap ..)
  ·simp_all
theorem sortI_perm:∀ r,(sortI r).Perm r
 | []=>List.Perm.refl _
 | a :: r=>(insI_perm a _).trans ((sortI_perm r).cons a)
theorem insI_pw {a}:∀ {r},r.Pairwise (·<=·)->(insI a r).Pairwise (·<=·)
 | [],_=>by simp [insI]
 | b :: r,h=>by
  rw [List.pairwise_cons] at h
  unfold insI
  by_cases hl:b < a
  ·rw [if_pos hl]
   refine List.pairwise_cons.mpr ⟨fun c hc=>?_,insI_pw h.2⟩
   rcases List.mem_cons.mp ((insI_perm a r).mem_iff.mp hc) with rfl | hc
   ·exact Int.le_of_lt hl
   ·exact h.1 c hc
  ·rw [if_neg hl]
   refine List.pairwise_cons.mpr ⟨fun c hc=>?_,List.pairwise_cons.mpr h⟩
   rcases List.mem_cons.mp hc with rfl | hc
   ·lia
   ·have:=h.1 c hc;lia
theorem sortI_pw:∀ {r},(sortI r).Pairwise (·<=·)
 | []=>.nil
 | a :: r=>insI_pw sortI_pw
theorem sortI_eq {r s} (p:s.Perm r) (h:s.Pairwise (·<=·)):s=sortI r :=
 List.Perm.eq_of_pairwise (fun a b _ _ h1 h2=>Int.le_antisymm h1 h2) h sortI_pw (p.trans (sortI_perm r).symm)
theorem strsAre_of {ns}:∀ {us},Vals (ns.map V.str) us->StrsAre us ns:=by
 induction ns with
 | nil=>intro us r;cases r;exact .nil
 | cons n ns ih =>
  intro us r
  cases r with
  | cons r1 r2 =>
   obtain ⟨t,e⟩:=r1
   subst e
   exact .cons n t (ih r2)
theorem vals_strs {us} {ns} (h:StrsAre us ns):Vals (ns.map V.str) us:=by
 induction h with
 | nil=>exact .nil
 | cons y t _ ih=>exact .cons ⟨t,rfl⟩ ih
theorem vals_ints {us} {ns} (h:IntsAre us ns):Vals (ns.map V.int) us:=by
 induction h with
 | nil=>exact .nil
 | cons y t _ ih=>exact .cons ⟨t,rfl⟩ ih
noncomputable def rSorted (K:PySem.W.Frag):List V->Hp->VK->Prop:=fun xs H Q =>
 (∃ p ss,xs=[.ref p]/\SqL K H p (ss.map V.str)/\ss.length < 64/\∀ l,H l=none->Q (.ref l) (upd H l (.lst ((sortS ss).map V.str)))) \/
 ∃ p ss,xs=[.ref p]/\SqL K H p (ss.map V.int)/\ss.length < 64/\∀ l,H l=none->Q (.ref l) (upd H l (.lst ((sortI ss).map V.int)))
theorem call_sorted (hK:X.K=K):CallR X (.builtin "sorted") (rSorted K):=by
 subst hK
 intro pins s σ H xs us Q I r h
 rcases h with ⟨p,ss,rfl,hq,hl,q⟩ | ⟨p,ss,rfl,hq,hl,q⟩
 ·obtain ⟨u,rfl,rx⟩:=vals1 r
  cases rx
  obtain ⟨its,r',pl,hz⟩:=I.list hq
  have hlen:=r'.length
  rw [List.length_map] at hlen hz
  refine sorted_strs pl.isList (strsAre_of r') (by lia) fun out ss' h1 h2 h3=>?_
  have e:=sortS_eq h2 h3
  subst e
  obtain ⟨n,hn⟩:=sortedAll_at s.heap its out
  have hle:s.heap.objs.size<=s.heap.objs.size + 1:=Nat.le_succ _
  refine ⟨.ref _,_,I.laid (t':=s.toks) (fun b o e=>sortedAll_old e) hle ?_,rfl,q _ (I.hok.fresh hle)⟩
  exact ⟨by rw [List.length_map,(sortS_perm ss).length_eq];exact hz,out.toList,n,vals_strs h1,by simpa using hn⟩
 ·obtain ⟨u,rfl,rx⟩:=vals1 r
  cases rx
  obtain ⟨its,r',pl,hz⟩:=I.list hq
  have hlen:=r'.length
  rw [List.length_map] at hlen hz
  refine sorted_ints pl.isList (intsAre_of r') (by lia) fun out ss' h1 h2 h3=>?_
  have e:=sortI_eq h2 h3
  subst e
  obtain ⟨n,hn⟩:=sortedAll_at s.heap its out
  have hle:s.heap.objs.size<=s.heap.objs.size + 1:=Nat.le_succ _
  refine ⟨.ref _,_,I.laid (t':=s.toks) (fun b o e=>sortedAll_old e) hle ?_,rfl,q _ (I.hok.fresh hle)⟩
  exact ⟨by rw [List.length_map,(sortI_perm ss).length_eq];exact hz,out.toList,n,vals_ints h1,by simpa using hn⟩
theorem strs_rep {g}:∀ {ds} {bs} {xs} {as},strsD ds=some bs->RepA K H g ds xs as->xs=bs.map V.str/\∀ z∈bs,z.length<=sizeLine
 | [],bs,xs,as,h,r=>by
  cases Option.some.inj h
  unfold RepA at r
  simp_all
 | d :: ds,bs,xs,as,h,r=>by
  cases d with
  | str b =>
   unfold strsD at h
   cases hb:strsD ds with
   | none=>grind
   | some bs' =>
    rw [hb] at h
    cases Option.some.inj h
    obtain ⟨x,rr,c1,c2,rfl,rfl,h1,h2⟩:=r
    unfold RepL at h1
    obtain _:=strs_rep hb h2
    simp_all
  | _=>unfold strsD at h;cases h
theorem ints_rep {g}:∀ {ds} {bs} {xs} {as},intsD ds=some bs->RepA K H g ds xs as->xs=bs.map V.int
 | [],bs,xs,as,h,r=>by
  cases Option.some.inj h
  exact r.1
 | d :: ds,bs,xs,as,h,r=>by
  cases d with
  | int b =>
   unfold intsD at h
   cases hb:intsD ds with
   | none=>grind
   | some bs' =>
    rw [hb] at h
    cases Option.some.inj h
    obtain ⟨x,rr,c1,c2,rfl,rfl,h1,h2⟩:=r
    unfold RepL at h1
    rw [h1.1,ints_rep hb h2];rfl
  | _=>unfold intsD at h;cases h
theorem rep_strs {g}:∀ {bs:List Str},(∀ z∈bs,z.length<=sizeLine)->RepA K H g (bs.map D.str) (bs.map V.str) []
 | [],_=>⟨rfl,rfl⟩
 | b :: bs,h=>by
  unfold RepA
  exact ⟨_,_,[],[],rfl,rfl,rep_str (h b List.mem_cons_self),rep_strs fun z hz=>h z (List.mem_cons_of_mem _ hz)⟩
theorem rep_ints {g}:∀ {bs:List Int},RepA K H g (bs.map D.int) (bs.map V.int) []
 | []=>⟨rfl,rfl⟩
 | b :: bs=>by
  unfold RepA
  exact ⟨_,_,[],[],rfl,rfl,rep_int,rep_ints⟩
theorem ad_sorted:Ad1 K (fun v H Q=>rSorted K [v] H Q) fSorted:=by
 intro H x s Q ok hf k
 unfold fSorted at hf
 dsimp only at hf
 cases hx:x.d with
 | lst ds =>
  rw [hx] at hf
  dsimp only at hf
  obtain ⟨l,xs,bs,ev,q3,r3,_⟩:=items ok (.inl hx)
  have q3:LsR K H l xs:=by rcases q3 with ⟨_,z⟩ | ⟨z,_⟩;exact z;rw [hx] at z;cases z
  cases hs:strsD ds with
  | some ss =>
   rw [hs] at hf
   dsimp only at hf
   split at hf
   ·rename_i hl
    cases Option.some.inj hf
    obtain ⟨e1,e2⟩:=strs_rep hs r3
    subst e1
    exact .inl ⟨l,ss,by rw [ev],rd_sq q3,hl,fun p hp=>(k _ _ rfl rfl (out_lst hp (rep_strs fun z hz=>e2 z ((sortS_perm ss).mem_iff.mp hz)) fun b hb=>nomatch hb))⟩
   ·cases hf
  | none =>
   rw [hs] at hf
   cases hi:intsD ds with
   | none=>simp_all
   | some ss =>
    rw [hi] at hf
    dsimp only at hf
    split at hf
    ·rename_i hl
     cases Option.some.inj hf
     have e1:=ints_rep hi r3
     subst e1
     exact .inr ⟨l,ss,by rw [ev],rd_sq q3,hl,fun p hp=>(k _ _ rfl rfl (out_lst hp rep_ints fun b hb=>nomatch hb))⟩
    ·cases hf
 | _=>simp_all
noncomputable def tPo (Z:Fx0):Option Ex->TO
 | none=>tNoPart
 | some c=>tPart (tV Z true c)
theorem q_poN:PO X none (tPo Z none):=po_none
theorem q_poS (h:QV X Z true c e):PO X (some e) (tPo Z (some c)):=po_some h
theorem po_read {α} {co} {F} {r:Res α} {G} (m:Mt E σ L) (w:World Z.K H L) (h:bnd (cPart co E) F=some r) (xc:Xc Z σ H L r)
  (k:∀ E1 l,F E1 l=some r->∀ L1 H1,Mt E1 σ L1->World Z.K H1 L1->Step H L H1 L1->Same H H1->G l H1):tPo Z co σ H G:=by
 cases co with
 | none=>exact k E none h L H m w Step.refl same_refl
 | some c =>
  have h:bnd (bnd (c E) fun E x=>match x.2 with | .int i=>some _ | _=>none) F=some r:=h
  have h':bnd (c E) (fun E x=>bnd (match x.2 with | .int i=>some (.ok E (some i)) | _=>none) F)=some r:=by
   cases hc:c E with
   | none=>rw [hc] at h;exact h
   | some y=>rw [hc] at h;cases y<;>exact h
  show tV Z true c σ H fun x H1=>∃ i,x=.int i/\G (some i) H1
  refine vbind m w h' xc fun E1 s h1 x L1 H1 e1 e2 m1 w1 ok fr sr st sm=>?_
  cases hs:s.2 with
  | int i =>
   rw [hs] at h1
   exact ⟨i,of_int ok (e2.trans hs),k E1 _ h1 L1 H1 m1 w1 st (sm rfl)⟩
  | _=>rw [hs] at h1;cases h1
theorem RepA.drop {K} {H} {g}:∀ n {ds} {xs} {as},RepA K H g ds xs as->∃ bs,RepA K H g (ds.drop n) (xs.drop n) bs/\∀ b∈bs,b∈as
 | 0,ds,xs,as,h=>⟨as,h,fun _ h=>h⟩
 | n + 1,[],xs,as,h=>by
  obtain ⟨rfl,rfl⟩:=h
  exact ⟨[],⟨rfl,rfl⟩,fun _ h=>h⟩
 | n + 1,d :: ds,xs,as,h=>by
  obtain ⟨x,r,bs,cs,rfl,rfl,h1,h2⟩:=h
  obtain ⟨es,r2,hb⟩:=RepA.drop n h2
  exact ⟨es,r2,fun b h=>List.mem_append_right _ (hb b h)⟩
theorem RepA.take {K} {H} {g}:∀ n {ds} {xs} {as},RepA K H g ds xs as->∃ bs,RepA K H g (ds.take n) (xs.take n) bs/\∀ b∈bs,b∈as
 | 0,ds,xs,as,h=>⟨[],⟨rfl,rfl⟩,fun _ h=>nomatch h⟩
 | n + 1,[],xs,as,h=>by
  obtain ⟨rfl,rfl⟩:=h
  exact ⟨[],⟨rfl,rfl⟩,fun _ h=>h⟩
 | n + 1,d :: ds,xs,as,h=>by
  obtain ⟨x,r,bs,cs,rfl,rfl,h1,h2⟩:=h
  obtain ⟨es,r2,hb⟩:=RepA.take n h2
  refine ⟨bs++es,?_,fun b h=>(List.mem_append.mp h).elim (fun z=>List.mem_append_left _ z) fun z=>List.mem_append_right _ (hb b z)⟩
  unfold RepA
  exact ⟨x,r.take n,bs,es,rfl,rfl,h1,r2⟩
theorem RepA.cut {K} {H} {g} {ds} {xs} {as} (h:RepA K H g ds xs as) (lo hi):∃ bs,RepA K H g (cutD ds lo hi) (cutV xs lo hi) bs/\∀ b∈bs,b∈as:=by
 unfold cutD cutV
 rw [← h.len]
 obtain ⟨bs,r,hb⟩:=h.drop _
 obtain ⟨cs,r2,hc⟩:=r.take _
 exact ⟨cs,r2,fun b h=>hb b (hc b h)⟩
theorem sl_read {x:Sl} {s} {lo hi} {Q} (ok:x.ok K H) (hf:fSl (x.o,x.d) lo hi=some s) (k:∀ z H',z.o=s.1->z.d=s.2->Out K H H' z x.frz->Q z.v H'):rSlAny K x.v lo hi H Q:=by
 unfold fSl at hf
 cases hx:x.d with
 | lst ds =>
  rw [hx] at hf
  dsimp only at hf
  split at hf
  ·rename_i hl
   cases Option.some.inj hf
   obtain ⟨l,xs,bs,ev,q3,r3,h3⟩:=items_loose ok (.inl hx) (hx▸hl)
   have q3:LsR K H l xs:=by rcases q3 with ⟨_,z⟩ | ⟨z,_⟩;exact z;rw [hx] at z;cases z
   obtain ⟨cs,r4,h4⟩:=r3.cut lo hi
   exact .inl ⟨l,xs,ev,rd_sq q3,fun p hp=>k _ _ rfl rfl (out_lst hp r4 fun b hb=>h3 b (h4 b hb))⟩
  ·cases hf
 | tup ds =>
  rw [hx] at hf
  dsimp only at hf
  split at hf
  ·rename_i hl
   cases Option.some.inj hf
   obtain ⟨l,xs,bs,ev,q3,r3,h3⟩:=items_loose ok (.inr hx) (hx▸hl.1)
   have q3:SqT K H l xs:=by rcases q3 with ⟨z,_⟩ | ⟨_,z⟩;rw [hx] at z;cases z;exact z
   obtain ⟨cs,r4,h4⟩:=r3.cut lo hi
   refine .inr (.inl ⟨l,xs,ev,q3,?_,fun p hp=>k _ _ rfl rfl (out_tup hp r4 fun b hb=>h3 b (h4 b hb))⟩)
   rw [← r3.len]
   exact hl.2
  ·cases hf
 | str z =>
  rw [hx] at hf
  dsimp only at hf
  split at hf
  ·rename_i hl
   cases Option.some.inj hf
   obtain ⟨e,hz⟩:=of_str ok hx
   exact .inr (.inr ⟨z,e,hz,k _ H rfl rfl (outS hl)⟩)
  ·cases hf
 | _=>simp_all
theorem q_sl {lo hi} {elo ehi} (ha:QV X Z q a ea) (hl:PO X elo (tPo Z lo)) (hh:PO X ehi (tPo Z hi)) (hK:X.K=Z.K:=by rfl):QE X Z q (cSl a lo hi) (.Subscript ea (.Slice elo ehi none p2) pos) :=
 pe_imp (pe_slice (slAny Z.K hK) ha hl hh) fun σ H Q h_z=>ex8 h_z fun E L r m w hc xc k=>by
  refine vbind m w (hc) xc fun E1 s h1 x L1 H1 e1 e2 m1 w1 ok fr sr st sm=>(po_read m1 w1 h1 (xc.step st) fun E2 l h2 L2 H2 m2 w2 st2 sm2=>(po_read m2 w2 h2 (xc.step (st.trans st2)) fun E3 u h3 L3 H3 m3 w3 st3 sm3=>?_))
  obtain ⟨z,hz,rfl⟩:=val_inv h3
  have k1:=view_keep ok fr st2 sm2
  have k2:=view_keep k1.1 k1.2 st3 sm3
  refine sl_read k2.1 (by rw [e1,e2];exact hz) fun y H' ho hd o=>?_
  obtain ⟨w4,st4⟩:=out_world w3 ((st.trans st2).trans st3) o k2.2 (fun b hb=>k2.1.some (Sl.frz_as hb)) (src_mono sr fun b hb=>Sl.frz_as hb)
  have sm':=fun hq=>same_trans (sm hq) (same_trans sm2 sm3)
  exact k _ _ rfl y L3 H' ho hd m3 w4 st4 fun hq=>⟨same_trans (sm' hq) o.same,fun b hb=>none_back (sm' hq) (o.new b hb)⟩
noncomputable def tAV (Z:Fx0) (cs:List Ex):TA:=fun σ H Q=>∃ E L r,Mt E σ L/\World Z.K H L/\cArgs cs E=some r/\Xc Z σ H L r /\
 ∀ E' ys,r=.ok E' ys->∀ (xs:List Sl) L' H',xs.map Sl.sd=ys->Mt E' σ L'->World Z.K H' L'->(∀ x∈xs,x.ok Z.K H')->Step H L H' L'->Same H H'->Q (xs.map Sl.v) H'
noncomputable def QAV (X:Cx) (Z:Fx0) (cs:List Ex) (es:List Expr):Prop:=PA X es (tAV Z cs)
theorem q_av0:QAV X Z [] []:=pa_imp pa_nil fun σ H Q h_z=>ex8 h_z fun E L r m w hc xc k=>by
 cases Option.some.inj hc
 exact k _ _ rfl [] L H rfl m w (fun _ z=>nomatch z) Step.refl same_refl
theorem q_av1 {cs:List Ex} {es:List Expr} (h:QV X Z true c e) (hs:QAV X Z cs es) (hst:starEach (e :: es) X.env=(false,eval e X.env) :: starEach es X.env:=by rfl):QAV X Z (c :: cs) (e :: es) :=
 pa_imp (pa_cons h hs hst) fun σ H Q h_z=>ex8 h_z fun E L r m w hc xc k=>by
  refine vbind m w (show bnd (c E) _=some r from hc) xc fun E1 s h1 x L1 H1 e1 e2 m1 w1 ok fr sr st sm=>?_
  rcases bnd_cases h1 with ⟨E2,ys,h2,h3⟩ | ⟨E2,cc,h2,h3⟩
  ·cases Option.some.inj h3
   refine ⟨E1,L1,_,m1,w1,h2,(fun _ _ z=>by cases z),fun E' ys' z xs L2 H2 e3 m2 w2 ok2 st2 sm2=>?_⟩
   injection z with z1 z2
   subst z1 z2
   refine k _ _ rfl (x :: xs) L2 H2 (by rw [List.map_cons,e3];simp [Sl.sd,e1,e2]) m2 w2 (fun y hy=>?_) (st.trans st2) (same_trans (sm rfl) sm2)
   rcases List.mem_cons.mp hy with rfl | hy
   ·exact (view_keep ok fr st2 sm2).1
   ·exact ok2 y hy
  ·exact ⟨E1,L1,_,m1,w1,h2,(xc.step st).map h3,fun E' s' z=>by cases z⟩
theorem q_callB {k n:Nat} {ps:List Str} {f:Fn} {cs:List Ex} {es:List Expr} (D:DefE X.prog X.w X.K X.mg X.base k x ps (spF Z.K Z.mg n f)) (hr:Room k X.A) (g:Goes X Z.EX) (ha:QAV X Z cs (e :: es)) (hn:cs.length=n:=by rfl) (hg:Gl X x:=by rfl) (hdb:(x == ("__debug__":Str))=false:=by decide)
  (he:starEach (e :: es) X.env=(false,eval e X.env) :: starEach es X.env:=by rfl) (hpl:(backTo pos (starEach es X.env)).any (·.1)=false:=by rfl) :
  QE X Z true (cCallB f cs) (.Call (.Name x p) (e :: es) [] pos):=pe_imp (pe_fnE D hr g ha hg hdb he hpl) fun σ H Q h_z=>ex8 h_z fun E L r m w hc xc kk=>by
 have hc:bnd (cArgs cs E) _=some r:=hc
 rcases bnd_cases hc with ⟨E1,ys,h1,h2⟩ | ⟨E1,cc,h1,h2⟩
 rotate_left
 ·exact ⟨E,L,_,m,w,h1,xc.map h2,fun E' s' z=>by cases z⟩
 refine ⟨E,L,_,m,w,h1,(fun _ _ z=>by cases z),fun E' ys' z xs L1 H1 e1 m1 w1 ok1 st sm=>?_⟩
 injection z with z1 z2
 subst z1 z2
 rw [List.append_nil]
 have hlen:xs.length=n:=by rw [← hn,← cArgs_len h1,← e1,List.length_map]
 cases hf:f (letAll ys) with
 | none=>rw [hf] at h2;cases h2
 | some fr =>
  rw [hf] at h2
  have ev:xs.map Sl.v=(xs.map Sl.let).map Sl.v:=by rw [List.map_map];rfl
  have wl:World Z.K H1 ((xs.map Sl.let).map some):=by
   refine ⟨fun y hy=>?_,by rw [owned_lets];exact List.nodup_nil,fun a ha=>by rw [owned_lets] at ha;exact nomatch ha⟩
   obtain ⟨y',hy',e⟩:=List.mem_map.mp hy
   cases e
   obtain ⟨t,ht,rfl⟩:=List.mem_map.mp hy'
   exact let_ok (ok1 t ht)
  rw [ev]
  refine ⟨xs.map Sl.let,fr,rfl,by rw [List.length_map];exact hlen,wl,by rw [← e1] at hf;rw [lets_sd];exact hf,fun E' c ee C H' hm s'=>?_,fun E' a ee y H' e2 e3 w' s'=>?_⟩
  ·subst ee
   cases Option.some.inj h2
   have sm1:Same H1 H':=fun b ob hb=>s'.keep b ob hb fun z=>by rw [owned_lets] at z;exact nomatch z
   exact xc _ _ rfl C L1 H' hm m1 ⟨fun y hy=>RepO.kp (w1.ok y hy) (Kp.of_same sm1),w1.nd,w1.ds⟩ (st.trans ⟨fun b ob hb _=>sm1 b ob hb,fun _ h=>.inl h,fun _ h=>.inl h⟩)
  ·subst ee
   dsimp only at h2
   split at h2
   ·rename_i hp
    cases Option.some.inj h2
    have sm1:Same H1 H':=fun b ob hb=>s'.keep b ob hb fun z=>by rw [owned_lets] at z;exact nomatch z
    have w2:World Z.K H' L1:=⟨fun y hy=>RepO.kp (w1.ok y hy) (Kp.of_same sm1),w1.nd,w1.ds⟩
    obtain ⟨z,rp⟩:=RepL.pu (g':=false) (RepO.wk (w'.ok y List.mem_cons_self)) (by rw [e3];exact hp)
    have st2:Step H L H' L1:=st.trans ⟨fun b ob hb _=>sm1 b ob hb,fun _ h=>.inl h,fun _ h=>.inl h⟩
    exact kk _ _ rfl ⟨.dp,y.d,y.v,[]⟩ L1 H' rfl e3 m1 (w2.consPu rp rfl) (stepNo (x:=⟨.dp,y.d,y.v,[]⟩) st2 (fun b hb=>nomatch hb) rfl) fun _=>⟨same_trans sm sm1,fun _ z=>(nomatch z)⟩
   ·cases h2
end
end Q
namespace Q
open PySem PySem.Spec PyProof.Rows L2 L3
theorem tupIdx {prog} {w} {A} {E} {s} {t} {items} {x} {e:Value->Bool} {j} {Q}
  (ht:IsTup s.heap t items) (he:∀ y∈items,SeqAt.EqAt A.in1 s y x (e y)) (hj) (h1:e items[j]=true) (h2:∀ m (hm:m < items.size),m < j->e items[m]=false)
  (h:Q (.int j s.toks) { s with toks:=s.toks + 1 }):wpAny (model prog w) A (call (.builtin "tuple.index") [.ref t,x]) Q E s:=by
 refine wpAny_call_entry PySem.F.slot_tuple_index ht.typeIs PySem.F.entry_tuple_index ?_ (PySem.F.args_tuple_index_2 _ _)
 show wpAny _ _ (Builtin.Tuple.tupleItemsOf _ >>= _) _ _ s
 refine wpAny_bind (tupleItemsOf_ ht ?_)
 dsimp only
 refine wpAny_bind (wpAny_pure (wpAny_bind (wpAny_pure ?_)))
 rw [Std.Legacy.Range.forIn_eq_forIn_range']
 refine wpAny_bind (wpAny_forIn_list _ (fun rest b s'=>b=_/\s'=s/\∃ k,k<=j/\rest=List.range' k (items.size - k)) _ ?_ ?_ _ _ ⟨rfl,rfl,0,Nat.zero_le _,?_⟩)
 ·rintro i rest b s' ⟨rfl,rfl,k,hk,hr⟩
  obtain ⟨n,hn⟩:∃ n,items.size - k=n + 1:=⟨items.size - k - 1,by lia⟩
  rw [hn] at hr
  injection hr with hi hrest
  subst hi
  have hi:i < items.size:=by lia
  rw [show items[i]?=some items[i] from Array.getElem?_eq_getElem hi]
  refine wpAny_bind (he items[i] (Array.getElem_mem hi) _ _ _ _ ?_)
  by_cases hij:i=j
  ·subst hij
   rw [h1]
   exact wpAny_bind (wpAny_bind (wpAny_mkInt (wpAny_pure (wpAny_pure (wpAny_pure ⟨_,rfl,h⟩)))))
  ·rw [h2 i hi (by lia)]
   refine wpAny_pure ⟨rfl,rfl,i + 1,by lia,?_⟩
   grind
 ·rintro b s' ⟨rfl,rfl,k,hk,hr⟩
  grind
 ·simp
theorem rmulT {prog} {w} {A} {E} {s} {l} {items} {k} {t} {Q}
  (ht:IsTup s.heap l items) (h:Q .notImplemented s):wpAny (model prog w) A (call (.builtin "int.__rmul__") [.int k t,.ref l]) Q E s:=by
 refine wpAny_call_entry PySem.F.slot_int_rmul (typeIs_int s k t) PySem.F.entry_int_rmul ?_ (PySem.F.args_int_rmul_2 _ _)
 obtain ⟨o,e,c,n,hd⟩:=ht
 show wpAny _ _ (asInt? _ >>= _) _ _ s
 refine wpAny_bind (wpAny_bind (wpAny_load e ?_))
 rw [hd]
 exact wpAny_pure (wpAny_bind (wpAny_rule (wpAny_pure ⟨_,rfl,h⟩)))
theorem mulT {prog} {w} {A} {E} {s} {l} {items} {k} {t} {Q}
  (ht:IsTup s.heap l items) (h1:-(2 ^ 63)<=k) (h2:k < 2 ^ 63) (hz:items.size * k.toNat<=sizeLine)
  (hsame:(items.isEmpty=true\/k=1)->Q (.ref l) s)
  (hsz:(List.foldl (fun x1 x2=>x1++x2) #[] (List.replicate k.toNat items)).size<=sizeLine)
  (hnew:Q (.ref s.heap.objs.size) { s with heap:=s.heap.push { cls:=.type "tuple",data:=.seq (List.foldl (fun x1 x2=>x1++x2) #[] (List.replicate k.toNat items)) } })
  : wpAny (model prog w) A (call (.builtin "tuple.__mul__") [.ref l,.int k t]) Q E s:=by
 refine wpAny_call_entry PySem.F.slot_tuple_mul ht.typeIs PySem.F.entry_tuple_mul ?_ (PySem.F.args_tuple_mul_2 _ _)
 show wpAny _ _ (if _=true then _ else _) _ _ s
 rw [if_neg (by lia)]
 refine wpAny_bind (tupleItemsOf_ ht ?_)
 by_cases hs:(items.isEmpty || k == 1)=true
 ·rw [if_pos hs]
  refine wpAny_bind (wpAny_bind (wpAny_typeOf ht.typeIs (wpAny_pure (wpAny_bind (wpAny_rule (wpAny_pure ⟨_,rfl,hsame ?_⟩))))))
  simpa using hs
 ·rw [if_neg hs]
  have hne:items.isEmpty=false:=by
   grind
  have hm:((items.size:Int) * k)<=sizeLine\/k<=0:=by
   by_cases hk:k<=0
   ·exact .inr hk
   ·grind
  dsimp only
  by_cases hk:k<=0
  ·rw [if_pos (by simp [hk])]
   have e:k.toNat=0:=by lia
   rw [e] at hnew
   exact wpAny_bind (wpAny_newObj_type (wpAny_pure ⟨_,rfl,hnew⟩) (Nat.zero_le _))
  ·rw [if_neg (by simp [hk,hne])]
   have hm:=hm.resolve_right hk
   have hsl:(sizeLine:Int)=16777216:=by decide
   rw [if_neg (by lia),if_neg (by unfold Builtin.Tuple.tupleTooMany;lia)]
   exact wpAny_bind (wpAny_newObj_type (wpAny_pure ⟨_,rfl,hnew⟩) hsz)
section
variable {X:Cx} {Z:Fx0} {K:PySem.W.Frag} {pn:List Nat} {q qa qb:Bool} {a b c:Ex} {u:Ts} {tg e ea eb:Expr} {st:Stmt} {σ:L2.St} {H:Hp} {L:Ls} {E:En} {pos p p2:Pos} {x:Str}
noncomputable def rRepT (K:PySem.W.Frag):R2:=fun x y H Q=>∃ l k xs,x=.ref l/\y=.int k/\SqT K H l xs/\-(2 ^ 63)<=k/\k < 2 ^ 63/\xs.length * k.toNat<=sizeLine/\((xs=[]\/k=1)->Q (.ref l) H)/\∀ p,H p=none->Q (.ref p) (upd H p (.tup (List.replicate k.toNat xs).flatten))
theorem op_repT:OpR X (binaryOp .Mult) (rRepT X.K):=by
 rintro pins s σ H x y v u Q I rx ry ⟨l,k,xs,rfl,rfl,hq,h1,h2,hz,q1,q2⟩
 cases rx
 obtain ⟨t,rfl⟩:=ry
 obtain ⟨its,r,ht,hl⟩:=I.tuple hq
 have hlen:=r.length
 have f0:List.foldl (fun x1 x2=>x1++x2) #[] (List.replicate k.toNat its.toArray)=(List.replicate k.toNat its).flatten.toArray:=by
  have:=foldl_rep its k.toNat []
  rw [List.nil_append] at this
  exact this
 have hz2:(List.replicate k.toNat xs).flatten.length<=sizeLine:=by rw [len_rep,Nat.mul_comm];exact hz
 refine wpAny_binaryOp_repeat_ref (T:="tuple") (U:="int") (by decide) ht.typeIs (fun s'=>typeIs_int s' k t) rfl F.fills_int_mul F.slot_int_rmul (show seqRepeat? (Value.type "tuple")=pure (some (Value.builtin "tuple.__mul__")) from rfl) F.slot_int_index.lookup
  (rmulT ht ⟨rfl,ht.typeIs,mulT ht h1 h2 (by rw [List.size_toArray,← hlen];exact hz) (fun hs=>?_) ?_ ?_⟩)
 ·refine ⟨.ref l,H,I,rfl,q1 ?_⟩
  rcases hs with hs | hs
  ·grind
  ·exact .inr hs
 ·rwa [f0,List.size_toArray,← (r.rep k.toNat).length]
 ·rw [f0]
  exact ⟨.ref _,_,I.laid (t':=s.toks) (o:=.tup _) (fun b o e=>Heap.get?_push_of_some _ e) (Nat.le_refl _) ⟨hz2,_,r.rep k.toNat,IsTupD.new _ _⟩,rfl,q2 _ (I.hok.fresh (Nat.le_refl _))⟩
noncomputable def rMulT (K:PySem.W.Frag):R2:=fun x y H Q=>rRepT K x y H Q\/rMulQ K x y H Q
theorem opMulT (hK:X.K=K:=by rfl):OpR X (binaryOp .Mult) (rMulT K):=by subst hK;exact op_repT.or opMulQ
theorem ad_mulT:Ad2 K (rMulT K) fMulT:=by
 intro H x y s Q ox oy hf k
 cases hx:x.d with
 | tup ds =>
  cases hy:y.d with
  | int n =>
   unfold fMulT at hf
   rw [hx,hy] at hf
   dsimp only at hf
   split at hf
   ·rename_i hc
    cases Option.some.inj hf
    obtain ⟨l,xs,bs,e3,q3,r3,h3⟩:=items_loose ox (.inr hx) (hx▸hc.2.2.2)
    have q3:SqT K H l xs:=by rcases q3 with ⟨z,_⟩ | ⟨_,z⟩;rw [hx] at z;cases z;exact z
    obtain ⟨cs,r4,h4⟩:=r3.reps n.toNat
    refine .inl ⟨l,n,xs,e3,of_int oy hy,q3,hc.1,hc.2.1,by rw [← r3.len];exact hc.2.2.1,fun hs=>?_,fun p hp=>?_⟩
    ·refine k ⟨.no,.tup _,.ref l,cs⟩ H rfl rfl ⟨same_refl,?_,fun b hb=>(nomatch hb),List.nodup_nil,fun b hb=>List.mem_append_left _ (h3 b (h4 b hb))⟩
     show RepL K H true _ _ cs
     refine ⟨l,xs,rfl,q3,?_⟩
     have e:(List.replicate n.toNat xs).flatten=xs:=by
      rcases hs with hs | hs
      ·subst hs;simp
      ·subst hs;simp
     rw [e] at r4
     exact r4
    ·exact k _ _ rfl rfl (out_tup hp r4 fun b hb=>List.mem_append_left _ (h3 b (h4 b hb)))
   ·grind
  | _ =>
   refine .inr (ad_mul H x y s Q ox oy ?_ k)
   unfold fMulT at hf
   rw [hx,hy] at hf
   rw [hx];exact hf
 | _ =>
  refine .inr (ad_mul H x y s Q ox oy ?_ k)
  unfold fMulT at hf
  rw [show (x.o,x.d).2=x.d from rfl,hx] at hf
  rw [hx];exact hf
theorem map_dec {h}:∀ {ds} {us},CReps h ds us->us.map (dec h)=ds
 | [],_,r=>by rw [r];rfl
 | z :: ds,_,r=>by
  obtain ⟨u,rr,rfl,h1,h2⟩:=r
  rw [List.map_cons,dec_eq h1,map_dec h2]
noncomputable def rIdx (K:PySem.W.Frag) (C:Hp->List V->Prop):List V->Hp->VK->Prop:=fun vs H Q=>∃ v d ds as bs xs j,vs=[v]/\RepL K H true d v as/\C H xs/\RepA K H true ds xs bs/\d.flat 30=true/\D.flats 30 ds=true/\(ds.findIdx? fun z=>peq z d)=some j/\Q (.int j) H
theorem pe_index {o} {to} {t} {apos cpos} (hu:X.A.units + 64 < cLine) (ho:PE X o to) (ha:PA X [e] t)
  (hbase:attributeBase o "index" X.env (eval o X.env)=eval o X.env:=by rfl)
  (hfew:((backTo cpos (starEach [e] X.env)).all (fun x=>!x.1) && (backToKw cpos (keywordEach [] X.env)).all (fun x=>x.1.isSome)
   && decide ([e].length + ([]:List Keyword).length + (if ([]:List Keyword).isEmpty then 0 else 1) < 30))=true:=by rfl)
  (hline:(apos.endLine == cpos.line)=true:=by rfl) (hs:starEach [e] X.env=(false,eval e X.env) :: starEach [] X.env:=by rfl) (hplain:(backTo cpos (starEach [] X.env)).any (·.1)=false:=by rfl) :
  PE X (.Call (.Attribute o "index" apos) [e] [] cpos) (fun σ H Q=>to σ H fun x H1=>(∃ p xs,x=.ref p/\LsR X.K H1 p xs/\t σ H1 fun vs H2=>rIdx X.K (fun H xs=>LsR X.K H p xs) vs H2 Q)\/∃ p xs,x=.ref p/\SqT X.K H1 p xs/\t σ H1 fun vs H2=>rIdx X.K (fun H xs=>SqT X.K H p xs) vs H2 Q):=by
 intro pins s σ H Q I h
 refine wpAny_Call_method_late hbase hfew hline rfl (thn (ho pins s σ H _ I h) fun v s1 ⟨x,H1,I1,r1,qq⟩=>?_)
 have eqs:∀ {s2} {H2} {d} {v} {as:List Addr} {w:Value} {us:List Value} {ds:List D},L2.Inv X pins σ H2 s2->RepL X.K H2 true d v as->RelV v w->d.flat 30=true->D.flats 30 ds=true->CReps s2.heap ds us->∀ y∈us.toArray,SeqAt.EqAt X.A.in1 s2 y w (peq (dec s2.heap y) d):=fun {s2 H2 d v as w us ds} I2 rd rw f1 f2 cr y hy=>by
  have c1:=crep_of I2 rd f1 rw
  obtain ⟨d',hd,c⟩:=mem_crep cr (by simpa using hy)
  rw [dec_eq c]
  exact eqAt_C 30 (flats_mem f2 hd) c c1 (by have:=L3.in1_units X.A;lia)
 have idx:∀ {h:Heap} {ds:List D} {us:List Value} {d:D} {j:Nat},CReps h ds us->(ds.findIdx? fun z=>peq z d)=some j->∃ hj:j < us.toArray.size,peq (dec h us.toArray[j]) d=true/\∀ m (hm:m < us.toArray.size),m < j->peq (dec h us.toArray[m]) d=false:=fun {h ds us d j} cr hf=>by
  have e:=map_dec cr
  subst e
  rw [List.findIdx?_eq_some_iff_getElem] at hf
  obtain ⟨hj,h1,h2⟩:=hf
  have hj':j < us.length:=by simpa using hj
  refine ⟨by simpa using hj',by simpa using h1,fun m hm hmj=>?_⟩
  have:=h2 m hmj
  simpa using this
 rcases qq with ⟨pp,zs,rfl,ty,q1⟩ | ⟨pp,zs,rfl,ty,q1⟩
 ·cases r1
  have hA:=ha cpos pins s1 σ H1 _ I1 q1
  rw [hs] at hA ⊢
  obtain ⟨z,its,n,r,e0⟩:=ty.is I1
  refine ⟨"list","list.index",F.plainAttrs_list,F.slot_list_index,F.type_list_index,⟨_,e0,rfl⟩,fun a e2=>?_,?_⟩
  ·cases e2;exact ⟨_,e0,rfl⟩
  refine Calls.callWith_builtin (by show (false || (backTo cpos (starEach [] X.env)).any (·.1))=false;rw [hplain]<;>rfl) (Calls.evalArgs_plain ?_)
  refine thn hA fun us s2 ⟨vs,H2,I2,r2,d2⟩=>?_
  obtain ⟨v,d,ds,as,bs,xs,j,rfl,rd,hq,ra,f1,f2,hf,q2⟩:=d2
  obtain ⟨w,rfl,rw1⟩:=r2.one
  obtain ⟨z2,its2,n2,r3,e3⟩:=hq.is I2
  have cr:=creps_of I2 ra f2 r3
  obtain ⟨hj,h1,h2⟩:=idx cr hf
  have hsz:its2.toArray.size<=16777216:=by rw [List.size_toArray,← r3.length];exact z2
  exact call_meets F.slot_list_index ⟨_,e3,rfl⟩ F.entry_list_index (F.args_list_index_2 _ _) (SeqAt.list_indexAt pp its2.toArray n2 none #[] w (fun y=>peq (dec s2.heap y) d) j hj (by lia) h1 h2) ⟨e3,eqs I2 rd rw1 f1 f2 cr,.int _,H2,I2.tok _,⟨_,rfl⟩,q2⟩
 ·cases r1
  have hA:=ha cpos pins s1 σ H1 _ I1 q1
  rw [hs] at hA ⊢
  obtain ⟨its,r,ht,hz⟩:=I1.tuple ty
  have hd0:=I1.tupleD ty
  refine ⟨"tuple","tuple.index",F.plainAttrs_tuple,F.slot_tuple_index,F.type_tuple_index,ht.typeIs,fun a e2=>?_,?_⟩
  ·cases e2;exact hd0
  refine Calls.callWith_builtin (by show (false || (backTo cpos (starEach [] X.env)).any (·.1))=false;rw [hplain]<;>rfl) (Calls.evalArgs_plain ?_)
  refine thn hA fun us s2 ⟨vs,H2,I2,r2,d2⟩=>?_
  obtain ⟨v,d,ds,as,bs,xs,j,rfl,rd,hq,ra,f1,f2,hf,q2⟩:=d2
  obtain ⟨w,rfl,rw1⟩:=r2.one
  obtain ⟨its2,r3,ht2,hz2⟩:=I2.tuple hq
  have cr:=creps_of I2 ra f2 r3
  obtain ⟨hj,h1,h2⟩:=idx cr hf
  exact tupIdx (e:=fun y=>peq (dec s2.heap y) d) ht2 (eqs I2 rd rw1 f1 f2 cr) hj h1 h2 ⟨.int _,H2,I2.tok _,⟨_,rfl⟩,q2⟩
theorem q_index {apos cpos} (hu:X.A.units + 64 < cLine) (ha:QV X Z q a ea) (hb:QV X Z true b eb) (hK:X.K=Z.K:=by rfl)
  (hbase:attributeBase ea "index" X.env (eval ea X.env)=eval ea X.env:=by rfl)
  (hfew:((backTo cpos (starEach [eb] X.env)).all (fun x=>!x.1) && (backToKw cpos (keywordEach [] X.env)).all (fun x=>x.1.isSome)
   && decide ([eb].length + ([]:List Keyword).length + (if ([]:List Keyword).isEmpty then 0 else 1) < 30))=true:=by rfl)
  (hline:(apos.endLine == cpos.line)=true:=by rfl) (hs:starEach [eb] X.env=(false,eval eb X.env) :: starEach [] X.env:=by rfl) (hplain:(backTo cpos (starEach [] X.env)).any (·.1)=false:=by rfl) :
  QE X Z q (cIdx a b) (.Call (.Attribute ea "index" apos) [eb] [] cpos):=pe_imp (pe_index hu ha (pa_cons hb pa_nil hs) hbase hfew hline hs hplain) fun σ H Q h_z=>ex8 h_z fun E L r m w hc xc k=>by
 refine vbind m w (show bnd (a E) _=some r from hc) xc fun E1 s h1 x L1 H1 e1 e2 m1 w1 ok fr sr st sm=>?_
 split at h1
 rotate_left
 ·grind
 rename_i hsq
 rw [hK]
 have fin:∀ {ds},(x.d=.lst ds\/x.d=.tup ds)->∀ C,(∀ H2,x.ok Z.K H2->∃ xs bs,C H2 xs/\RepA Z.K H2 true ds xs bs)->tV Z true b σ H1 fun v H2=>rIdx Z.K C [v] H2 Q:=fun {ds} hx C hC=>by
  refine vbind m1 w1 h1 (xc.step st) fun E2 s2 h2 y L2 H2 e3 e4 m2 w2 ok2 fr2 sr2 st2 sm2=>?_
  obtain ⟨z,hz,rfl⟩:=val_inv h2
  obtain ⟨xs,bs,c1,c2⟩:=hC H2 (view_keep ok fr st2 (sm2 rfl)).1
  have key:∃ j,y.d.flat 30=true/\D.flats 30 ds=true/\(ds.findIdx? fun z=>peq z y.d)=some j/\z=(.dp,.int j):=by
   unfold pu2 fIndex at hz
   rw [← e2,← e4] at hz
   have hz':(if y.d.flat 30 && D.flats 30 ds then (ds.findIdx? fun z=>peq z y.d).map fun (j:Nat)=>D.int (j) else none).map (fun d=>((Own.dp,d):Sd))=some z:=by
    rcases hx with hx | hx<;>(rw [hx] at hz;exact hz)
   split at hz'
   ·rename_i hf
    rw [Bool.and_eq_true] at hf
    cases hj:ds.findIdx? fun z=>peq z y.d with
    | none=>rw [hj] at hz';cases hz'
    | some j=>rw [hj] at hz';exact ⟨j,hf.1,hf.2,rfl,(Option.some.inj hz').symm⟩
   ·cases hz'
  obtain ⟨j,f1,f2,f3,rfl⟩:=key
  exact ⟨y.v,y.d,ds,y.as,bs,xs,j,rfl,RepO.wk ok2,c1,c2,f1,f2,f3,(k _ _ rfl ⟨.dp,.int j,.int j,[]⟩ L2 H2 rfl rfl m2 (w2.consPu (x:=⟨.dp,.int j,.int j,[]⟩) (show RepL Z.K H2 false (.int j) (.int j) [] from rep_int) rfl) (stepNo (x:=⟨.dp,.int j,.int j,[]⟩) (st.trans st2) (fun b hb=>nomatch hb) rfl) fun hq=>⟨(fun hq=>same_trans (sm hq) (sm2 rfl)) hq,fun _ z=>(nomatch z)⟩)⟩
 have wkA:∀ {ds} {xs} {bs} {H2},RepA Z.K H2 (x.o != .dp) ds xs bs->RepA Z.K H2 true ds xs bs:=fun {ds xs bs H2} r=>by
  cases ho:(x.o != .dp) with
  | true=>rw [ho] at r;exact r
  | false=>rw [ho] at r;exact r.wk
 cases hx:x.d with
 | lst ds =>
  obtain ⟨l,xs,bs,ev,q3,r3,h3,_⟩:=items ok (.inl hx)
  have q3:LsR Z.K H1 l xs:=by rcases q3 with ⟨_,z⟩ | ⟨z,_⟩;exact z;rw [hx] at z;cases z
  refine .inl ⟨l,xs,ev,q3,fin (.inl hx) _ fun H2 ok2=>?_⟩
  obtain ⟨l2,ys,cs,ev2,q4,r4,_⟩:=items ok2 (.inl hx)
  have:l2=l:=by have:=ev2.symm.trans ev;exact V.ref.inj this
  subst this
  rcases q4 with ⟨_,z⟩ | ⟨z,_⟩
  ·exact ⟨ys,cs,z,wkA r4⟩
  ·grind
 | tup ds =>
  obtain ⟨l,xs,bs,ev,q3,r3,h3,_⟩:=items ok (.inr hx)
  have q3:SqT Z.K H1 l xs:=by rcases q3 with ⟨z,_⟩ | ⟨_,z⟩;rw [hx] at z;cases z;exact z
  refine .inr ⟨l,xs,ev,q3,fin (.inr hx) _ fun H2 ok2=>?_⟩
  obtain ⟨l2,ys,cs,ev2,q4,r4,_⟩:=items ok2 (.inr hx)
  have:l2=l:=by have:=ev2.symm.trans ev;exact V.ref.inj this
  subst this
  rcases q4 with ⟨z,_⟩ | ⟨_,z⟩
  ·grind
  ·exact ⟨ys,cs,z,wkA r4⟩
 | _=>rw [← e2,hx] at hsq;cases hsq
end
end Q
namespace Q
open PySem PySem.Spec PyProof.Rows L2 L3
section
variable {X:Cx} {Z:Fx0} {K:PySem.W.Frag} {pn:List Nat} {q qa qb:Bool} {a b c:Ex} {u:Ts} {tg e ea eb:Expr} {st:Stmt} {σ:L2.St} {H:Hp} {L:Ls} {E:En} {pos p p2 tpos:Pos} {x:Str} {elts:List Expr} {k1:Nat}
theorem zipD_get:∀ (xs ys:List D) (i:Nat),(zipD xs ys)[i]?=(xs[i]?).bind fun a=>(ys[i]?).map fun b=>.tup [a,b]
 | [],_,_=>by simp [zipD]
 | _ :: _,[],i=>by cases i<;>simp [zipD]
 | a :: x,b :: y,0=>by simp [zipD]
 | a :: x,b :: y,i + 1=>by rw [zipD,List.getElem?_cons_succ,List.getElem?_cons_succ,List.getElem?_cons_succ,zipD_get x y i]
theorem zipD_len:∀ (xs ys:List D),(zipD xs ys).length=min xs.length ys.length
 | [],_=>by simp [zipD]
 | _ :: _,[]=>by simp [zipD]
 | a :: x,b :: y=>by rw [zipD,List.length_cons,List.length_cons,List.length_cons,zipD_len x y];lia
theorem rep_pair {H2:Hp} {T:Addr} {d1 d2:D} {v1 v2:V} {b1 b2:List Addr} (hT:H2 T=none) (r1:RepL K H2 true d1 v1 b1) (r2:RepL K H2 true d2 v2 b2):RepL K (upd H2 T (.tup [v1,v2])) true (.tup [d1,d2]) (.ref T) (b1++b2):=by
 have sm:Same H2 (upd H2 T (.tup [v1,v2])):=same_upd hT
 refine ⟨T,[v1,v2],rfl,.inl (.inl upd_same),?_⟩
 refine ⟨v1,[v2],b1,b2,rfl,rfl,r1.kp (Kp.of_same sm),?_⟩
 refine ⟨v2,[],b2,[],rfl,by simp,r2.kp (Kp.of_same sm),?_⟩
 exact ⟨rfl,rfl⟩
theorem q_itZip {b:Ex} (ha:QE X Z q a ea) (hb:QE X Z q b eb) (hg:Gl X "zip") (hm:X.mg "zip"=none) (hK:X.K=Z.K:=by rfl)
  (hs:starEach [ea,eb] X.env=[(false,eval ea X.env),(false,eval eb X.env)]:=by rfl) (hs2:starEach [eb] X.env=[(false,eval eb X.env)]:=by rfl)
  (hs3:starEach [ea,eb] X.env=(false,eval ea X.env) :: starEach [eb] X.env:=by rfl):QI X Z q (.Tuple elts k1 tpos) (itZip a b) (.Call (.Name "zip" p) [ea,eb] [] pos):=fun pins s σ H R I h_z=>ex8 h_z fun E L r m w hc xc k=>by
 refine (pi_zip Z.K hg hm (pa_cons ha (pa_cons hb pa_nil hs2) hs3) hK hs hs2) pins s σ H R I ?_
 refine qbind m w (show bnd (a E) _=some r from hc) xc fun E1 s h1 x L1 H1 e1 e2 m1 w1 st sm=>?_
 have s1:Step H L H1 L1:=st.trans Step.drop
 refine qbind (q:=q) m1 w1.tail h1 (xc.step s1) fun E2 s2 h2 y L2 H2 e3 e4 m2 w2 st2 sm2=>?_
 have hh:=hold (T:=[some x]) w1 st2 w2
 have w3:World Z.K H2 (some x :: some y :: L2):=hh.1
 have st3:Step H1 (some x :: L1) H2 (some x :: some y :: L2):=hh.2
 obtain ⟨ds,hd,rfl⟩:=val_inv h2
 have okx:=w3.head
 have oky:=w3.tail.head
 have wT:World Z.K H2 (L2++[x.let,y.let].map some):=by
  have wy:World Z.K H2 (some y.let :: L2):=w3.tail.tail.consNo (let_ok oky) rfl fun b hb=>w3.tail.apart b hb
  have wx:World Z.K H2 (some x.let :: some y.let :: L2):=wy.consNo (let_ok okx) rfl fun b hb ho=>w3.apart b hb (by
   rw [owned_some] at ho ⊢
   exact List.mem_append_right _ ((List.mem_append.mp ho).elim (fun z=>by rw [(let_as y).1] at z;exact nomatch z) id))
  exact World.comm (L:=[some x.let,some y.let]) wx
 have stAll:Step H L H2 (some x :: some y :: L2):=st.trans st3
 have sT:Step H L H2 (L2++[x.let,y.let].map some):=by
  refine ⟨stAll.keep,fun b hb=>?_,fun b hb=>?_⟩
  ·have:b∈owned L2:=by simpa [let_as] using hb
   exact stAll.own b (by rw [owned_some,owned_some];exact List.mem_append_right _ (List.mem_append_right _ this))
  ·have:b∈frozen L2\/b∈x.as\/b∈y.as:=by simpa [let_as] using hb
   rcases this with z | z | z
   ·exact stAll.frz b (by rw [frozen_some,frozen_some];exact List.mem_append_right _ (List.mem_append_right _ z))
   ·exact src_held stAll b z
   ·rcases Sl.as_of z with z | z
    ·exact .inr (stAll.own b (by rw [owned_some,owned_some];exact List.mem_append_right _ (List.mem_append_left _ z)))
    ·exact stAll.frz b (by rw [frozen_some,frozen_some];exact List.mem_append_right _ (List.mem_append_left _ z))
 cases hx:x.d with
 | lst es =>
  cases hy:y.d with
  | lst fs =>
   rw [← e2,← e4,hx,hy] at hd
   have hd:(if es.length<=big then some (zipD es fs) else none)=some ds:=hd
   split at hd
   rotate_left
   ·cases hd
   rename_i hlen
   have hlen:es.length<=sizeLine:=hlen
   cases Option.some.inj hd
   obtain ⟨l1,xs,bs,ev,q3,r3,h3,_⟩:=items okx (.inl hx)
   have q3:LsR Z.K H2 l1 xs:=by rcases q3 with ⟨_,z⟩ | ⟨z,_⟩;exact z;rw [hx] at z;cases z
   obtain ⟨l2,ys,cs,ev2,q4,r4,h4,_⟩:=items oky (.inl hy)
   have q4:LsR Z.K H2 l2 ys:=by rcases q4 with ⟨_,z⟩ | ⟨z,_⟩;exact z;rw [hy] at z;cases z
   have ag1:=lst_again (K:=Z.K) hx ev
   have ag2:=lst_again (K:=Z.K) hy ev2
   refine ⟨l1,l2,by rw [ev,ev2],⟨xs,q3.sq⟩,⟨ys,q4.sq⟩,k _ _ rfl (Itz Z.K l1 l2) [x.let,y.let] L2 H2 m2 wT sT (by rw [zipD_len];lia) (fun hq=>same_trans (sm hq).1 (sm2 hq).1) ⟨fun t ht=>?_,fun i H3 hok hi=>?_,fun H3 hok=>?_,fun i H3 v H4 d hok hyl hdi=>?_⟩⟩
   ·simp only [List.mem_cons,List.not_mem_nil,or_false] at ht
    rcases ht with rfl | rfl<;>rfl
   ·obtain ⟨us,cs1,a1,a2,_⟩:=ag1 H3 (hok _ (by simp))
    obtain ⟨vs,cs2,b1,b2,_⟩:=ag2 H3 (hok _ (by simp))
    have hl:=a2.len
    have hl2:=b2.len
    rw [zipD_len] at hi
    exact ⟨us,vs,us[i]'(by lia),vs[i]'(by lia),a1,b1,List.getElem?_eq_getElem (by lia),List.getElem?_eq_getElem (by lia)⟩
   ·obtain ⟨us,cs1,a1,a2,_⟩:=ag1 H3 (hok _ (by simp))
    obtain ⟨vs,cs2,b1,b2,_⟩:=ag2 H3 (hok _ (by simp))
    have hl:=a2.len
    have hl2:=b2.len
    exact ⟨us,vs,a1,b1,by rw [zipD_len];lia⟩
   ·obtain ⟨us,cs1,a1,a2,a3⟩:=ag1 H3 (hok _ (by simp))
    obtain ⟨vs,cs2,b1,b2,b3⟩:=ag2 H3 (hok _ (by simp))
    obtain ⟨T,x',y',hT,rfl,rfl,g1,g2⟩:=hyl
    rw [zipD_get] at hdi
    cases he1:es[i]? with
    | none=>rw [he1] at hdi;cases hdi
    | some d1 =>
     cases he2:fs[i]? with
     | none=>rw [he1,he2] at hdi;cases hdi
     | some d2 =>
      rw [he1,he2] at hdi
      cases Option.some.inj hdi
      obtain ⟨v1,bs1,f1,f2,f3⟩:=a2.get he1
      obtain ⟨v2,bs2,j1,j2,j3⟩:=b2.get he2
      have e5:v1=x':=by have:=g1 us a1;rw [f1] at this;exact Option.some.inj this
      have e6:v2=y':=by have:=g2 vs b1;rw [j1] at this;exact Option.some.inj this
      subst e5 e6
      refine ⟨⟨.no,_,.ref T,bs1++bs2⟩,rfl,rfl,rfl,same_upd hT,rep_pair hT f2 j2,fun b hb=>?_⟩
      rcases List.mem_append.mp hb with z | z
      ·exact ⟨x.let,by simp,a3 b (f3 b z)⟩
      ·exact ⟨y.let,by simp,b3 b (j3 b z)⟩
  | _=>rw [← e2,← e4,hx,hy] at hd;cases hd
 | _=>rw [← e2,hx] at hd;cases hd
end
end Q
namespace Q
open PySem PySem.Spec PyProof.Rows L2 L3
theorem RepA.erase {K} {H} {g}:∀ {j} {ds} {xs} {as},RepA K H g ds xs as->∃ bs,RepA K H g (ds.eraseIdx j) (xs.eraseIdx j) bs/\bs.Sublist as
 | j,[],xs,as,h=>by
  obtain ⟨rfl,rfl⟩:=h
  exact ⟨[],⟨rfl,rfl⟩,List.Sublist.refl _⟩
 | 0,d :: ds,xs,as,h=>by
  obtain ⟨x,r,bs,cs,rfl,rfl,h1,h2⟩:=h
  exact ⟨cs,h2,List.sublist_append_right _ _⟩
 | j + 1,d :: ds,xs,as,h=>by
  obtain ⟨x,r,bs,cs,rfl,rfl,h1,h2⟩:=h
  obtain ⟨es,r2,hs⟩:=RepA.erase h2
  refine ⟨bs++es,?_,List.Sublist.append (List.Sublist.refl _) hs⟩
  unfold RepA
  exact ⟨x,r.eraseIdx j,bs,es,rfl,rfl,h1,r2⟩
theorem ixN_is {n} {i} {j} (h:_root_.Q.ixN n i=some j):seqIndex? i n=some j/\j < n/\-n<=i/\i < n:=by
 have e:L2.ixN n i=some j:=by
  unfold _root_.Q.ixN at h
  unfold L2.ixN
  by_cases h0:0<=i
  ·exact h
  ·rw [if_neg h0] at h ⊢
   exact h
 exact ixN_seq e
section
variable {X:Cx} {Z:Fx0} {K:PySem.W.Frag} {pn:List Nat} {q qa qb:Bool} {a b c:Ex} {u:Ts} {tg e ea eb:Expr} {st:Stmt} {σ:L2.St} {H:Hp} {L:Ls} {E:En} {pos p p2 tpos:Pos} {x:Str} {elts:List Expr} {k1:Nat}
theorem q_pop {i} {o} {apos cpos} (hb:PE X (.Call (.Attribute o "pop" apos) [e] [] cpos) (tBM Z.K "list" rPopAt (tVar i) (tCons (tV Z q c) tNil))):QE X Z false (cPop i c) (.Call (.Attribute o "pop" apos) [e] [] cpos):=pe_imp hb fun σ H Q h_z=>ex8 h_z fun E L r m w hc xc k=>by
 unfold cPop at hc
 cases h0:E[i]? with
 | none=>rw [h0] at hc;cases hc
 | some s0 =>
  cases s0 with
  | none=>rw [h0] at hc;cases hc
  | some s0 =>
   obtain ⟨o0,d0⟩:=s0
   cases d0 with
   | lst ds0 =>
    rw [h0,if_pos (show isLst (some (some (o0,D.lst ds0)))=true from rfl)] at hc
    obtain ⟨x0,a1,a2,a3,a4⟩:=m.get h0
    refine ⟨x0.v,a4,lst_ty (w.ok x0 (getD_mem a1)) a3,(vbind m w hc xc fun E1 s h1 x L1 H1 e1 e2 m1 w1 okx fr sr st sm=>?_)⟩
    cases hE:E1[i]? with
    | none=>rw [hE] at h1;cases h1
    | some s1 =>
     cases s1 with
     | none=>rw [hE] at h1;cases h1
     | some s1 =>
      obtain ⟨oo,dd⟩:=s1
      rw [hE] at h1
      cases dd with
      | lst ds =>
       cases hs:s.2 with
       | int kk =>
        rw [hs] at h1
        dsimp only at h1
        by_cases hno:oo=.no
        ·rw [if_pos hno] at h1;cases h1
        ·rw [if_neg hno] at h1
         cases hj:_root_.Q.ixN ds.length kk with
         | none=>rw [hj] at h1;cases h1
         | some j =>
          rw [hj] at h1
          dsimp only at h1
          cases hd:ds[j]? with
          | none=>rw [hd] at h1;cases h1
          | some d =>
           rw [hd] at h1
           dsimp only at h1
           split at h1
           rotate_left
           ·cases h1
           rename_i hp
           rw [Bool.and_eq_true] at hp
           obtain ⟨hp,hsm⟩:=hp
           obtain ⟨sm1,sm2⟩:=small62_of hsm
           cases Option.some.inj h1
           obtain ⟨y,b1,b2,b3,b4⟩:=m1.get hE
           have hv:y.v=x0.v:=by rw [a4] at b4;exact (Option.some.inj (Option.some.inj b4)).symm
           obtain ⟨l,xs,bs,c1,c2,c3,c4,c5⟩:=own_lst (w1.ok y (getD_mem b1)) b3 (b2▸hno)
           have ex0:x0.v=.ref l:=hv▸c1
           rw [ex0]
           obtain ⟨vv,bs',f1,f2,f3⟩:=c5.get hd
           obtain ⟨g1,g2,g3,g4⟩:=ixN_is hj
           have hbig:(2:Int) ^ 63=9223372036854775808:=by decide
           obtain ⟨_,rp⟩:=RepL.pu (g':=false) f2 hp
           obtain ⟨cs,r6,hsub⟩:=c5.erase (j:=j)
           refine ⟨l,xs,kk,j,vv,rfl,by rw [of_int okx (e2.trans hs)],c2,?_,?_,by rw [← c5.len];exact g1,f1,?_⟩
           ·have:(2:Int) ^ 62=4611686018427387904:=by decide
            omega
           ·have:(2:Int) ^ 62=4611686018427387904:=by decide
            omega
           have yn:y.own.Nodup:=by
            obtain ⟨A,B,e,_⟩:=at_split b1
            have:=w1.nd
            rw [e,owned_app,owned_some,List.nodup_append] at this
            exact (List.nodup_append.mp this.2.1).1
           have hoo:y.o=.rt\/y.o=.dp:=by
            rw [b2]
            cases oo with
            | no=>exact absurd rfl hno
            | rt=>exact .inl rfl
            | dp=>exact .inr rfl
           obtain ⟨w3,s3⟩:=put_lst (T:=[]) (o':=y.o) (ds':=ds.eraseIdx j) (xs':=xs.eraseIdx j) (by simpa using w1) b1 c2 c3 c4 c1 r6 (by
            rcases hoo with hoo | hoo
            ·exact .inl ⟨hoo,fun a ha=>.inl (hsub.subset ha)⟩
            ·refine .inr ⟨hoo,hoo,?_,fun a ha=>.inl (hsub.subset ha)⟩
             unfold Sl.own at yn
             rw [hoo,c3] at yn
             exact hsub.nodup (List.nodup_cons.mp yn).2)
           have ke:∀ a o,H1 a=some o->a≠l->upd H1 l (.lst (xs.eraseIdx j)) a=some o:=fun a o e ne=>by rw [upd_ne ne];exact e
           have rp2:RepL Z.K (upd H1 l (.lst (xs.eraseIdx j))) false d vv []:=by
            refine rp.kp ⟨fun a zs e=>ke a _ e fun z=>?_,fun a o u e=>ke a _ e fun z=>?_,fun a ha=>nomatch ha⟩
            ·subst z;rw [c2] at e;cases e
            ·subst z;rw [c2] at e;cases e
           have mm:=m1.set (x:=⟨y.o,.lst (ds.eraseIdx j),y.v,l :: cs⟩) i
           rw [set_same b4] at mm
           refine k _ _ rfl ⟨.dp,d,vv,[]⟩ _ _ rfl rfl (b2▸mm) (w3.consPu rp2 rfl) (stepNo (x:=⟨.dp,d,vv,[]⟩) (st.trans (by simpa using s3)) (fun b hb=>nomatch hb) rfl) fun z=>nomatch z
       | _=>rw [hs] at h1;cases h1
      | _=>cases h1
   | _=>rw [h0] at hc;cases hc
theorem dp_lst {y:Sl} {ds:List D} (ok:y.ok K H) (hd:y.d=.lst ds) (ho:y.o=.dp):∃ l xs bs,y.v=.ref l/\H l=some (.lst xs)/\y.as=l :: bs/\y.own=l :: bs/\RepA K H false ds xs bs:=by
 obtain ⟨l,xs,bs,c1,c2,c3,c4,c5⟩:=own_lst ok hd (by rw [ho];exact fun z=>nomatch z)
 rw [ho] at c5
 exact ⟨l,xs,bs,c1,c2,c3,by unfold Sl.own;rw [ho,c3],c5⟩
end
end Q
namespace Q
open PySem PySem.Spec PyProof.Rows L2 L3
section
variable {X:Cx} {Z:Fx0} {q:Bool} {a b c:Ex} {ea eb ec:Expr} {σ:L2.St} {H:Hp} {pos:Pos}
theorem chain_read {r r'} {f g} (ad:Ad2 Z.K r (pu2 f)) (ad':Ad2 Z.K r' (pu2 g)) {Q} (h:tQ Z q (cChain f g a b c) σ H Q):tChain r r' (tV Z q a) (tV Z true b) (tV Z true c) σ H Q:=by
 obtain ⟨E,L,R,m,w,hc,xc,k⟩:=h
 refine vbind m w hc xc fun E1 s h1 x L1 H1 e1 e2 m1 w1 ok fr sr st sm=>(vbind m1 w1 h1 (xc.step st) fun E2 s2 h2 y L2 H2 e3 e4 m2 w2 ok2 fr2 sr2 st2 sm2=>?_)
 cases hf:f s.2 s2.2 with
 | none=>rw [hf] at h2;cases h2
 | some d =>
  rw [hf] at h2
  cases d with
  | bl kb =>
   refine ad H2 x y _ _ (view_keep ok fr st2 (sm2 rfl)).1 ok2 (by show (f x.d y.d).map _=_;rw [e2,e4,hf];rfl) fun z H' zo zd o=>(⟨kb,of_bl o.ok zd,?_⟩)
   have w3:World Z.K H' L2:=⟨fun t ht=>RepO.kp (w2.ok t ht) (Kp.of_same o.same),w2.nd,w2.ds⟩
   have st3:=(st.trans st2).trans ⟨fun b ob h _=>o.same b ob h,fun _ h=>.inl h,fun _ h=>.inl h⟩
   have sm3:=fun hq=>same_trans (sm hq) (same_trans (sm2 rfl) o.same)
   cases kb with
   | false =>
    cases Option.some.inj h2
    exact k _ _ rfl _ L2 H' rfl rfl m2 (w3.consPu (x:=⟨.dp,.bl false,.bl false,[]⟩) (show RepL Z.K H' false _ _ [] from rep_bl) rfl) (stepNo st3 (fun b hb=>nomatch hb) rfl) fun hq=>⟨sm3 hq,fun _ z=>(nomatch z)⟩
   | true =>
    rw [if_pos rfl]
    refine vbind m2 w3 h2 (xc.step st3) fun E3 s3 h3 v L3 H3 e5 e6 m3 w4 ok3 fr3 sr3 st4 sm4=>?_
    obtain ⟨zz,hz,rfl⟩:=val_inv h3
    have ky:=view_keep (RepO.kp ok2 (Kp.of_same o.same)) fr2 st4 (sm4 rfl)
    refine ad' H3 y v zz Q ky.1 ok3 (by show (g y.d v.d).map _=_;rw [e4,e6];exact hz) fun t H5 to td ot=>?_
    obtain ⟨w5,st5⟩:=out_world w4 (st3.trans st4) ot (fun b hb=>(List.mem_append.mp hb).elim (ky.2 b) (fr3 b)) (fun b hb=>(List.mem_append.mp hb).elim (fun z=>ky.1.some (Sl.frz_as z)) fun z=>ok3.some (Sl.frz_as z))
     (src_app (src_mono (sr2.back st) fun b hb=>Sl.frz_as hb) (src_mono (sr3.back st3) fun b hb=>Sl.frz_as hb))
    exact k _ _ rfl t L3 H5 to td m3 w5 st5 fun hq=>⟨same_trans (sm3 hq) (same_trans (sm4 rfl) ot.same),fun b hb=>none_back (same_trans (sm3 hq) (sm4 rfl)) (ot.new b hb)⟩
  | _=>cases h2
theorem q_tChain {op op'} {r r'} {f g} (ho:OpR X (compareOp op) r) (ad:Ad2 Z.K r (pu2 f)) (ho':OpR X (compareOp op') r') (ad':Ad2 Z.K r' (pu2 g)) (ha:QV X Z q a ea) (hb:QV X Z true b eb) (hc:QV X Z true c ec) (hg:∀ x y s,pu2 g x y=some s->∃ k,s.2=.bl k)
  (hm:lastMarks [op,op'] [eb,ec]=false:=by with_unfolding_all rfl):QT X Z q (_root_.Q.tE (cChain f g a b c)) (.Compare ea [op,op'] [eb,ec] pos) :=
 pt_imp (pt_chain ho ho' ha hb hc hm) fun σ H Q h_z=>ex8 h_z fun E L r m w hcc xc k=>by
  refine chain_read ad ad' ?_
  rcases bnd_cases hcc with ⟨E1,s,h1,h2⟩ | ⟨E1,cx,h1,h2⟩
  ·refine ⟨E,L,_,m,w,h1,(fun _ _ z=>by cases z),fun E' s' z x L' H' e1 e2 m' w' st sm=>?_⟩
   injection z with z1 z2
   subst z1 z2
   obtain ⟨kk,hk⟩:∃ k,s.2=.bl k:=by
    rcases bnd_cases h1 with ⟨E2,s2,h3,h4⟩ | ⟨_,_,_,z⟩
    ·rcases bnd_cases h4 with ⟨E3,s3,h5,h6⟩ | ⟨_,_,_,z⟩
     ·split at h6
      ·rcases bnd_cases h6 with ⟨E4,s4,h7,h8⟩ | ⟨_,_,_,z⟩
       ·obtain ⟨y,hy,z⟩:=val_inv h8
        cases z
        exact hg s3 s4 _ hy
       ·cases z
      ·grind
      ·grind
     ·cases z
    ·cases z
   rw [hk] at h2
   cases Option.some.inj h2
   exact ⟨kk,of_bl w'.head (e2.trans hk),k _ _ rfl L' H' m' w'.tail (st.trans Step.drop) fun hq=>(sm hq).1⟩
  ·exact ⟨E,L,_,m,w,h1,xc.map h2,fun E' s' z=>by cases z⟩
end
end Q
namespace L3
open PySem PySem.Spec PyProof.Rows L2
noncomputable def tX (X:Cx) (x:Addr):Cx:={ X with A:=X.A.mark (some (.ref x)),calm:=false,xe:=fun _ _=>False }
noncomputable abbrev exO (o:Obj):HO:=.frz o (.ext fun _ _=>True)
section
variable {X:Cx} {pins:List (Addr×Obj)} {σ:L2.St} {H:Hp} {s:Shared} {x:Addr} {ox:Obj}
theorem inv_tX (I:Inv X pins σ H s):Inv (tX X x) pins σ H s :=
 ⟨⟨I.ok.mod,I.ok.kind,I.ok.glob,I.ok.blt,I.ok.above,I.ok.inj,I.ok.has,I.ok.cab,fun z=>(by cases z),I.ok.frames,I.ok.stk,I.ok.exf,I.ok.bs,I.ok.bsz,I.ok.noex,I.ok.exfs,I.ok.funs,I.ok.frf⟩,I.os,I.bare,I.base,I.loc,I.cell,I.free,I.freeC,I.pin,I.hok,I.len⟩
theorem inv_ofT (ok:X.Ok) (I:Inv (tX X x) pins σ H s):Inv X pins σ H s:=⟨ok,I.os,I.bare,I.base,I.loc,I.cell,I.free,I.freeC,I.pin,I.hok,I.len⟩
theorem inv_frz (I:Inv X pins σ H s) (e:s.heap.get? x=some ox) (f:FpX X pins H x):Inv X pins σ (upd H x (exO ox)) s:=by
 obtain ⟨hn,f1,f2,f3,f4,f5⟩:=f
 refine ⟨I.ok,I.os,I.bare,⟨I.base.keep,I.base.slot,fun b o q n hx=>?_,I.base.there,fun b xs q=>?_,fun b o u q=>?_,fun b ps q=>?_⟩,I.loc,I.cell,?_,fun y c q=>?_,fun p hp=>?_,fun b u q=>?_,I.len⟩
 ·have hb:b≠x:=by
   rintro rfl
   rcases f3 with z | z
   ·exact hx z
   ·grind
  rw [upd_ne hb]
  exact I.base.free b o q n hx
 ·have:=I.base.tups b xs q
  rw [upd_ne (ne_of_none this hn)];exact this
 ·have:=I.base.frzs b o u q
  rw [upd_ne (ne_of_none this hn)];exact this
 ·obtain ⟨more,this⟩:=I.base.tbls b ps q
  exact ⟨more,by rw [upd_ne (ne_of_none this hn)];exact this⟩
 ·rw [upd_ne (Ne.symm f1)];exact I.free
 ·rw [upd_ne (f4 y c q)];exact I.freeC y c q
 ·obtain ⟨a1,a2,a3⟩:=I.pin p hp
  exact ⟨a1,by rw [upd_ne (f5 p hp)];exact a2,a3⟩
 ·by_cases hb:b=x
  ·subst hb
   rw [upd_same] at q
   cases q
   exact ⟨e,trivial,⟨_,e⟩,fun _ _ _ _=>trivial⟩
  ·rw [upd_ne hb] at q
   exact (I.hok b u q).stay (fun c v _ q=>q) (fun c q=>by rw [upd_ne (ne_of_none q hn)];exact q) fun c xs q=>by rw [upd_ne (ne_of_none q hn)];exact q
end
noncomputable abbrev tTryT (K:PySem.W.Frag) (UC:Addr) (i:Nat) (tb:XK->TS) (ts:TS):TS:=fun D σ H=>∃ E:XK,tb E D σ H/\∀ x Cv H',E Cv none H'->H' x=none->∃ C,Cv=.ref C/\PySem.W.exmOne K (.ref C) (.ref UC)=some true/\XCls K C /\
 ∀ o,ExAt K x o C->ts { nx:=fun σ' H''=>D.nx (σ'.set i none) H'',rt:=D.rt,bk:=fun σ' H''=>D.bk (σ'.set i none) H'',ct:=fun σ' H''=>D.ct (σ'.set i none) H'' } (σ.set i (some (.ref x))) (upd H' x (exO o))
theorem ps_tryT {X} {ux n} {np hpos pos} {UC} {i} {st b0} {suite} {tb} {ts} (hN:X.N.Nodup) (hi:X.N[i]?=some n) (hk:X.env.scope.names.lookup n=some .local) (top:TopX X) (hU:X.mg ux=some (.ref UC)) (hb:PSX X st tb)
  (hs:∀ x,PSs (tX X x) (b0 :: suite) ts) (hg:Gl X ux:=by rfl) (hdb:(ux == ("__debug__":Str))=false:=by decide) :
  PS X (.Try [st] [.ExceptHandler (some (.Name ux np)) (some n) (b0 :: suite) hpos] [] [] pos) (tTryT X.K UC i tb ts):=by
 intro pins s σ H D I ⟨E,h1,h2⟩
 refine wpAny_Try_except (wpAny_execs_cons (wpAny_mono (hb E pins s σ H D I h1) (fun f s1 q=>?_) (fun e s1 q=>?_)))
 ·cases f with
  | next=>exact wpAny_execs_nil (wpAny_execs_nil q)
  | ret v=>exact q
  | brk=>exact q
  | cont=>exact q
 ·obtain ⟨H',x,Cv,rfl,I1,f1,q1⟩:=q
  refine note_X top rfl I1 f1 fun L T s2 _ t2=>flight_X t2 fun s3 t3=>?_
  obtain ⟨C,rfl,hm,xc,ht⟩:=h2 x Cv H' q1 t3.fx.1
  refine wpAny_handleBy_cons (codeAny_handlers_test ?_) (fun z=>nomatch z)
  obtain ⟨vs,ho,hv⟩:=t3.f.ex
  have I3:Inv (tX X x) pins σ H' s3:=inv_tX t3.inv
  refine ld_glob I3 hg hU ?_ hdb
  have at3:PySem.W.InstAt s3.heap x { cls:=.ref C,data:=.fields vs } C none:=⟨ho,rfl,rfl,trivial⟩
  refine Lk (PySem.W.exm_one t3.inv.kIn at3.type hm) (codeAny_handlers_suite_as (flight_X t3 fun s4 t4=>?_))
  obtain ⟨vs4,ho4,hv4⟩:=t4.f.ex
  have I4:Inv (tX X x) pins σ _ s4:=inv_tX (inv_frz t4.inv ho4 t4.fx)
  refine store_ok (X:=tX X x) I4 hN hi (.inl hk) (v:=.ref x) rfl (fun s5 I5=>(wpAny_mono (hs x pins s5 _ _ _ I5 (ht _ ⟨rfl,rfl,rfl,xc⟩)) (fun f s6 q=>?_) fun _ _ z=>z.elim)) (.inr hk)
  have bk:∀ {σ6} {H6},Inv (tX X x) pins σ6 H6 s6->Inv X pins σ6 H6 s6:=fun z=>inv_ofT I.ok z
  show wpAny _ _ _ _ _ s6
  cases f with
  | next =>
   obtain ⟨σ6,H6,I6,q6⟩:=q
   exact name_goes (bk I6) hN hi hk fun s7 I7=>⟨_,_,I7,q6⟩
  | brk =>
   obtain ⟨σ6,H6,I6,q6⟩:=q
   exact name_goes (bk I6) hN hi hk fun s7 I7=>⟨_,_,I7,q6⟩
  | cont =>
   obtain ⟨σ6,H6,I6,q6⟩:=q
   exact name_goes (bk I6) hN hi hk fun s7 I7=>⟨_,_,I7,q6⟩
  | ret v =>
   obtain ⟨v',σ6,H6,I6,r6,q6⟩:=q
   exact name_goes (bk I6) hN hi hk fun s7 I7=>⟨v',_,_,I7,r6,q6⟩
noncomputable def rIsE (K:PySem.W.Frag):List V->Hp->VK->Prop:=fun xs H Q=>∃ x o C b,ExAt K x o C/\H x=some (exO o)/\((∃ U,xs=[.ref x,.ref U]/\PySem.W.kitOne K (.ref C) (.ref U)=some b)\/∃ U,xs=[.ref x,.ty U]/\PySem.W.kitOne K (.ref C) (.type U)=some b)/\Q (.bl b) H
theorem call_isE {X:Cx}:CallR X (.builtin "isinstance") (rIsE X.K):=by
 intro pins s σ H xs us Q I r ⟨x,o,C,b,a,e,h,q⟩
 have px:=(I.hok x _ e).1
 have at_:∃ o,PySem.W.InstAt s.heap x o C none:=⟨o,px,a.cls,a.no,by rw [a.di];trivial⟩
 rcases h with ⟨U,rfl,hk⟩ | ⟨U,rfl,hk⟩
 ·obtain ⟨u1,u2,rfl,e1,e2⟩:=vals2 r
  cases e1
  cases e2
  exact PySem.W.kia_one (kitx_exc a.xc) I.kIn at_ hk (fun z=>nomatch z) fun tk=>⟨.bl b,H,I.tok _,rfl,q⟩
 ·obtain ⟨u1,u2,rfl,e1,e2⟩:=vals2 r
  cases e1
  cases (e2)
  exact PySem.W.kia_one (kitx_exc a.xc) I.kIn at_ hk (fun z=>nomatch z) fun tk=>⟨.bl b,H,I.tok _,rfl,q⟩
end L3
namespace Q
open PySem PySem.Spec PyProof.Rows L2 L3
theorem bt_ValueError:bootBuiltins "ValueError"=some (.type "ValueError"):=by decide +kernel
theorem xcls_mk {K:PySem.W.Frag} {C:Addr} (ga:PySem.W.findIn K (.ref C) "__getattribute__"=some (some (.builtin "BaseException.__getattribute__"))) (gt:PySem.W.findIn K (.ref C) "__getattr__"=some none) (fa:PySem.W.findIn K (.ref C) "__class__"=some (some (.builtin "object.__class__")))
  (fg:PySem.W.specialIn K (.builtin "object.__class__") "__get__"=some (some (.builtin "getset_descriptor.__get__"))) (ft:PySem.W.takesIn K (.builtin "object.__class__")=some true) (ob:PySem.W.mroIn K C (.type "object")=some true) (bx:PySem.W.mroIn K C (.type "BaseException")=some true) (cl:PySem.W.isClsIn K C=true):XCls K C :=
 ⟨ga,gt,by
  obtain ⟨cd,hc⟩:=Option.isSome_iff_exists.mp (cl)
  unfold PySem.W.findObj
  rw [hc,fa]
  simp [fg,ft],ob,bx,cl⟩
noncomputable def IsTab (K:PySem.W.Frag) (u:V) (t:List (Str×Bool)):Prop:=∀ c b,t.lookup c=some b->∃ C,PySem.W.nsIn K mainGlobals c=some (some (.ref C))/\((∃ U,u=.ref U/\PySem.W.kitOne K (.ref C) (.ref U)=some b)\/∃ U,u=.ty U/\PySem.W.kitOne K (.ref C) (.type U)=some b)
theorem isx_nil {K:PySem.W.Frag} {u:V}:IsTab K u []:=fun _ _ z=>nomatch z
theorem isx_cons {K:PySem.W.Frag} {u:V} {c:Str} {b:Bool} {C:Addr} {t:List _} (h:PySem.W.nsIn K mainGlobals c=some (some (.ref C))) (k:(∃ U,u=.ref U/\PySem.W.kitOne K (.ref C) (.ref U)=some b)\/∃ U,u=.ty U/\PySem.W.kitOne K (.ref C) (.type U)=some b) (r:IsTab K u t):IsTab K u ((c,b) :: t):=fun c' b' z=>by
 rw [List.lookup_cons] at z
 split at z
 ·rename_i e
  cases eq_of_beq e
  cases z
  exact ⟨C,h,k⟩
 ·exact r c' b' z
theorem isx_own {K:PySem.W.Frag} {c:Str} {b:Bool} {C U:Addr} {t:List _} (h:PySem.W.nsIn K mainGlobals c=some (some (.ref C))) (k:PySem.W.kitOne K (.ref C) (.ref U)=some b) (r:IsTab K (.ref U) t):IsTab K (.ref U) ((c,b) :: t):=isx_cons h (.inl ⟨U,rfl,k⟩) r
theorem isx_ty {K:PySem.W.Frag} {c:Str} {b:Bool} {C:Addr} {U:String} {t:List _} (h:PySem.W.nsIn K mainGlobals c=some (some (.ref C))) (k:PySem.W.kitOne K (.ref C) (.type U)=some b) (r:IsTab K (.ty U) t):IsTab K (.ty U) ((c,b) :: t):=isx_cons h (.inr ⟨U,rfl,k⟩) r
theorem ad_isX {K:PySem.W.Frag} {u:V} {t:List _} (ht:IsTab K u t):Ad1 K (fun v H Q=>rIsE K [v,u] H Q) (pu1 (fIsX t)):=by
 intro H x s Q ok hf k
 have ok:=RepO.wk ok
 unfold pu1 at hf
 obtain ⟨o,d,v,as⟩:=x
 cases d with
 | obj c fs =>
  unfold fIsX at hf
  cases hl:t.lookup c with
  | none=>grind
  | some b =>
   simp only [hl] at hf
   cases Option.some.inj hf
   dsimp only at ok
   obtain ⟨e0,x,ob,C,rfl,h1,h2,h3⟩:=ok
   obtain ⟨C',h4,h5⟩:=ht c b hl
   rw [h3] at h4
   cases Option.some.inj (Option.some.inj h4)
   refine ⟨x,ob,C,b,h2,h1,?_,k _ H rfl rfl outB⟩
   rcases h5 with ⟨U,rfl,h5⟩ | ⟨U,rfl,h5⟩
   ·exact .inl ⟨U,rfl,h5⟩
   ·exact .inr ⟨U,rfl,h5⟩
 | _=>cases hf
section
variable {X:Cx} {Z:Fx0} {pn:List Nat} {q:Bool} {a b c:Ex} {e ea eb:Expr} {es:List Expr} {pos p p2:Pos} {t:List (Str×Bool)} {y:Str} {u:V}
theorem q_isX (ha:QV X Z q a ea) (hm:X.mg "isinstance"=none) (hu:PE X (.Name y p2) (tC u)) (hK:X.K=Z.K) (ht:IsTab X.K u t) (hg:Gl X "isinstance":=by rfl)
  (he:starEach [ea,.Name y p2] X.env=(false,eval ea X.env) :: starEach [.Name y p2] X.env:=by rfl) (he2:starEach [.Name y p2] X.env=(false,eval (.Name y p2) X.env) :: starEach [] X.env:=by rfl) (hpl:(backTo pos (starEach [.Name y p2] X.env)).any (·.1)=false:=by rfl) :
  QE X Z q (cF1 (pu1 (fIsX t)) a) (.Call (.Name "isinstance" p) [ea,.Name y p2] [] pos):=by
 rw [hK] at ht
 have hc:=hK▸call_isE
 exact pe_imp (pe_callB hc hg hm bt_isinstance (pa_cons ha (pa_cons hu pa_nil he2) he) (by decide) (by decide) he hpl) fun σ H Q h=>ad1_read (ad_isX ht) h
theorem q_raise {x:Str} {C:Addr} {z:Str} {np cpos:Pos} (c:ECls X.K X.mg x C) (hm:Z.mg x=some (.ref C)) (g:Goes X Z.EX) (hz:PE X e (tC (.str z))) (hg:Gl X x:=by rfl) (hc:X.calm=true:=by rfl) (hdb:(x == ("__debug__":Str))=false:=by decide)
  (he:starEach [e] X.env=(false,eval e X.env) :: starEach [] X.env:=by rfl) (hpl:((backTo cpos (starEach [e] X.env)).any (·.1))=false:=by rfl) :
  QS X Z pn (sRz x) (.Raise (some (.Call (.Name x np) [e] [] cpos)) none pos):=ps_imp (ps_raise c g (pa_cons hz pa_nil he) hg hc hdb he hpl) fun D σ H h_z=>ex7 h_z fun E L r m w hr k=>by
 cases Option.some.inj hr
 exact ⟨show 1<=sizeLine by decide,k C σ L H hm Pn.refl m w Step.refl⟩
noncomputable def QEX (X:Cx) (Z:Fx0) (q:Bool) (c:Ex) (e:Expr):Prop:=PEX X e fun EX=>tQ ⟨Z.K,Z.mg,EX⟩ q c
theorem pex_imp {t t':XK->TE} (h:PEX X e t) (w:∀ E σ H Q,t' E σ H Q->t E σ H Q):PEX X e t':=fun E pins s σ H Q I q=>h E pins s σ H Q I (w E σ H Q q)
theorem q_callT {k n:Nat} {x:Str} {ps:List Str} {f:Fn} {cs:List Ex} (D:DefE X.prog X.w X.K X.mg X.base k x ps (spF Z.K Z.mg n f)) (hr:Room k X.A) (ha:QA X.nox ⟨Z.K,Z.mg,fun _ _ _=>False⟩ q cs (e :: es)) (hn:cs.length=n:=by rfl) (hg:Gl X x:=by rfl) (hdb:(x == ("__debug__":Str))=false:=by decide)
  (he:starEach (e :: es) X.env=(false,eval e X.env) :: starEach es X.env:=by rfl) (hpl:(backTo pos (starEach es X.env)).any (·.1)=false:=by rfl) :
  QEX X Z false (cCallT f cs) (.Call (.Name x p) (e :: es) [] pos):=pex_imp (pex_call D hr ha hg hdb he hpl) fun EX σ H Q h_z=>ex8 h_z fun E L r m w hc xc kk=>by
 unfold cCallT at hc
 split at hc
 ·rename_i E1 ys hA
  refine ⟨E,L,_,m,w,hA,(fun _ _ z=>by cases z),fun E' ys' z xs L1 H1 e1 m1 w1 st sm=>?_⟩
  injection z with z1 z2
  subst z1 z2
  rw [List.append_nil]
  have hlen:xs.length=n:=by
   rw [← hn]
   have:ys.length=cs.length:=cArgs_len hA
   rw [← this,← e1,List.length_map]
  cases hf:f _ with
  | none=>rw [hf] at hc;cases hc
  | some fr =>
   rw [hf] at hc
   obtain ⟨wl,sl⟩:=world_lets w1
   have ev:xs.map Sl.v=(xs.map Sl.let).map Sl.v:=by rw [List.map_map];rfl
   rw [ev]
   refine ⟨xs.map Sl.let,fr,rfl,by rw [List.length_map];exact hlen,wl.left,by rw [← e1] at hf;rw [lets_sd];exact hf,fun E' c ee C H' hm s'=>?_,fun E' a ee y H' e2 e3 w' s'=>?_⟩
   ·subst ee
    cases Option.some.inj hc
    obtain ⟨w2,s2⟩:=stay wl s' ⟨fun _ z=>(nomatch z),List.nodup_nil,fun _ z=>(nomatch z)⟩
    exact xc _ _ rfl C L1 H' hm m1 w2 ((st.trans sl).trans s2)
   ·subst ee
    cases Option.some.inj hc
    obtain ⟨w2,s2⟩:=stay wl s' w'
    exact kk _ _ rfl y L1 H' e2 e3 m1 w2 ((st.trans sl).trans s2) fun hq=>nomatch hq
 ·cases hc
theorem Mt.unset:∀ {E:En} {σ:L2.St} {L:Ls} (i:Nat),Mt E σ L->Mt (E.set i none) (σ.set i none) (L.set i none)
 | _,_,_,_,.nil=>.nil
 | _,_,_,0,.un m=>.un m
 | _,_,_,0,.cons m=>.un m
 | _,_,_,i + 1,.un m=>.un (Mt.unset i m)
 | _,_,_,i + 1,.cons m=>.cons (Mt.unset i m)
theorem sls_unset:∀ (L:Ls) (i:Nat),(sls (L.set i none)).Sublist (sls L)
 | [],_=>List.Sublist.refl _
 | none :: L,0=>List.Sublist.refl _
 | some x :: L,0=>List.Sublist.cons _ (List.Sublist.refl _)
 | none :: L,i + 1=>sls_unset L i
 | some x :: L,i + 1=>List.Sublist.cons_cons _ (sls_unset L i)
theorem World.unset {K:PySem.W.Frag} {H:Hp} {L:Ls} {i:Nat} (w:World K H L):World K H (L.set i none):=w.sub (sls_unset L i)
theorem Step.unset {H H':Hp} {L L':Ls} {i:Nat} (s:Step H L H' L'):Step H L H' (L'.set i none):=s.sub (sls_unset L' i)
theorem World.unset1 {K:PySem.W.Frag} {H:Hp} {L:Ls} {x:Sl} {i:Nat} (w:World K H (some x :: L)):World K H (some x :: L.set i none):=w.sub (List.Sublist.cons_cons _ (sls_unset L i))
theorem Step.unset1 {H H':Hp} {L L':Ls} {x:Sl} {i:Nat} (s:Step H L H' (some x :: L')):Step H L H' (some x :: L'.set i none):=s.sub (List.Sublist.cons_cons _ (sls_unset L' i))
noncomputable def Caught (K:PySem.W.Frag) (mg:Str->Option Value) (UC:Addr) (cs:List Str):Prop:=∀ c∈cs,∃ C,mg c=some (.ref C)/\PySem.W.nsIn K mainGlobals c=some (some (.ref C))/\PySem.W.exmOne K (.ref C) (.ref UC)=some true/\XCls K C
theorem caught_nil {K:PySem.W.Frag} {mg:Str->Option Value} {UC:Addr}:Caught K mg UC []:=fun _ z=>nomatch z
theorem caught_cons {K:PySem.W.Frag} {mg:Str->Option Value} {UC C:Addr} {c:Str} {cs:List Str} (e:ECls K mg c C) (h:PySem.W.nsIn K mainGlobals c=some (some (.ref C))) (k:PySem.W.exmOne K (.ref C) (.ref UC)=some true) (r:Caught K mg UC cs):Caught K mg UC (c :: cs):=fun c' hc=>by
 rcases List.mem_cons.mp hc with rfl | hc
 ·exact ⟨C,e.bd,h,k,e.xc⟩
 ·exact r c' hc
theorem try_read {UC:Addr} {i:Nat} {cs:List Str} {B h:Sm} {tb:XK->TS} {D:Ends} {σ:L2.St} {H:Hp} (hK:X.K=Z.K) (ca:Caught X.K Z.mg UC cs) (hp:i∉pn)
  (hb:∀ (EX:XK) E L r,Mt E σ L->World Z.K H L->B E=some r->(∀ E' c,r=.xc E' c->∀ C L' H',Z.mg c=some (.ref C)->Mt E' σ L'->World Z.K H' L'->Step H L H' L'->EX (.ref C) none H')->((∀ E' c,r≠.xc E' c)->FlP Z pn D σ H L r)->tb EX D σ H)
  (hr:tS Z pn (sTry cs i B h) D σ H):tTryT X.K UC i tb (tS ⟨Z.K,Z.mg,fun _ _ _=>False⟩ pn h) D σ H:=by
 obtain ⟨E,L,r,m,w,hr,k⟩:=hr
 cases hB:B E with
 | none=>unfold sTry at hr;rw [hB] at hr;cases hr
 | some rb =>
  refine ⟨fun Cv _ H'=>∃ E1 c C L1,rb=.xc E1 c/\Cv=.ref C/\Z.mg c=some (.ref C)/\Mt E1 σ L1/\World Z.K H' L1/\Step H L H' L1,hb _ E L rb m w hB (fun E' c e C L' H' hm m' w' st=>⟨E',c,C,L',e,rfl,hm,m',w',st⟩) (fun hne=>?_),?_⟩
  ·unfold sTry at hr
   rw [hB] at hr
   cases rb with
   | xc E1 c1=>exact absurd rfl (hne E1 c1)
   | nx E1=>cases Option.some.inj hr;exact k
   | ct E1=>cases Option.some.inj hr;exact k
   | bk E1=>cases Option.some.inj hr;exact k
   | rt E1 x=>grind
  ·rintro x Cv H' ⟨E1,c,C,L1,rfl,rfl,hm,m1,w1,st1⟩ hx
   unfold sTry at hr
   rw [hB] at hr
   dsimp only at hr
   by_cases hc:c∈cs
   ·rw [if_pos hc] at hr
    obtain ⟨C',g1,g2,g3,g4⟩:=ca c hc
    rw [hm] at g1
    cases Option.some.inj g1
    refine ⟨C,rfl,g3,g4,fun o at_=>?_⟩
    have sm:Same H' (upd H' x (exO o)):=same_upd hx
    let y:Sl:=⟨.no,.obj c [],.ref x,[]⟩
    have wy:World Z.K (upd H' x (exO o)) (some y :: L1):=by
     refine World.consPu ⟨fun t ht=>RepO.kp (w1.ok t ht) (Kp.of_same sm),w1.nd,w1.ds⟩ ?_ rfl
     show RepL Z.K _ true _ _ []
     exact ⟨rfl,x,o,C,rfl,upd_same,hK▸at_,hK▸g2⟩
    have sy:Step H L (upd H' x (exO o)) (some y :: L1):=by
     refine ⟨fun b ob q hn=>sm b ob (st1.keep b ob q hn),fun b hb=>st1.own b (by exact hb),fun b hb=>st1.frz b (by rw [frozen_some] at hb;exact hb)⟩
    cases h2:h _ with
    | none=>rw [h2] at hr;cases hr
    | some r2 =>
     rw [h2] at hr
     refine ⟨_,_,r2,mt_set (x:=y) m1 rfl rfl,wy.set,h2,?_⟩
     have sy2:Step H L _ (L1.set i _):=sy.trans Step.set
     have pp:Pn pn σ (σ.set i (some (V.ref x))):=Pn.refl.set hp
     cases r2 with
     | nx E2 =>
      cases Option.some.inj hr
      intro σ' L' H2 p' m' w' st'
      exact k _ _ H2 ((pp.trans p').set hp) (Mt.unset i m') w'.unset (sy2.trans st').unset
     | ct E2 =>
      cases Option.some.inj hr
      intro σ' L' H2 p' m' w' st'
      exact k _ _ H2 ((pp.trans p').set hp) (Mt.unset i m') w'.unset (sy2.trans st').unset
     | bk E2 =>
      cases Option.some.inj hr
      intro σ' L' H2 p' m' w' st'
      exact k _ _ H2 ((pp.trans p').set hp) (Mt.unset i m') w'.unset (sy2.trans st').unset
     | rt E2 a2 =>
      cases Option.some.inj hr
      intro z σ' L' H2 e1 e2 p' m' w' st'
      exact k z _ _ H2 e1 e2 ((pp.trans p').set hp) (Mt.unset i m') w'.unset1 (sy2.trans st').unset1
     | xc E2 c2=>cases hr
   ·grind
theorem q_tryE {ux n:Str} {np hpos tpos:Pos} {UC:Addr} {i:Nat} {b0:Stmt} {suite:List Stmt} {cs:List Str} {h:Sm} (hN:X.N.Nodup) (hi:X.N[i]?=some n) (hk:X.env.scope.names.lookup n=some .local) (top:TopX X) (hU:X.mg ux=some (.ref UC)) (hK:X.K=Z.K) (ca:Caught X.K Z.mg UC cs) (hb:QEX X Z q b e)
  (hs:∀ x,QSs (tX X x) ⟨Z.K,Z.mg,fun _ _ _=>False⟩ pn h (b0 :: suite)) (hp:i∉pn:=by decide) (hsw:swapsWith e none pos.line X.env=pure false:=by rfl) (hg:Gl X ux:=by rfl) (hdb:(ux == ("__debug__":Str))=false:=by decide) :
  QS X Z pn (sTry cs i (sExpr b) h) (.Try [.Expr e pos] [.ExceptHandler (some (.Name ux np)) (some n) (b0 :: suite) hpos] [] [] tpos) :=
 ps_imp (ps_tryT hN hi hk top hU (psx_expr hb hsw) hs hg hdb) fun D σ H hr=>try_read hK ca hp (fun EX E L r m w hB hx hk=>by
  rcases ofE_cases hB with ⟨E1,s,h1,h2⟩ | ⟨E1,c,h1,rfl⟩
  ·cases Option.some.inj h2
   refine ⟨E,L,_,m,w,h1,(fun _ _ z=>by cases z),fun E' s' z x L' H' e1 e2 m' w' st sm=>?_⟩
   injection z with z1 z2
   subst z1 z2
   exact hk (fun _ _ z=>nomatch z) σ L' H' Pn.refl m' w'.tail (st.trans Step.drop)
  ·exact ⟨E,L,_,m,w,h1,(fun E' c' e C L' H' hm m' w' st=>by injection e with z1 z2;subst z1 z2;exact hx _ _ rfl C L' H' hm m' w' st),fun E' s' z=>by cases z⟩) hr
end
end Q
noncomputable section
noncomputable section
noncomputable section
noncomputable section
noncomputable section
noncomputable section
noncomputable section
noncomputable section
noncomputable section
noncomputable section
namespace Q
open PySem PySem.Spec PyProof.Rows L2 L3
theorem q_join {X} {Z} {q} {c} {o e} {z} {apos cpos} (ho:PE X o (tC (.str z))) (hc:QV X Z q c e) (hK:X.K=Z.K:=by rfl)
  (hbase:attributeBase o "join" X.env (eval o X.env)=eval o X.env:=by rfl)
  (hfew:((backTo cpos (starEach [e] X.env)).all (fun x=>!x.1) && (backToKw cpos (keywordEach [] X.env)).all (fun x=>x.1.isSome)
   && decide ([e].length + ([]:List Keyword).length + (if ([]:List Keyword).isEmpty then 0 else 1) < 30))=true:=by rfl)
  (hline:(apos.endLine == cpos.line)=true:=by rfl) (hs:starEach [e] X.env=(false,eval e X.env) :: starEach [] X.env:=by rfl) (hplain:(backTo cpos (starEach [] X.env)).any (·.1)=false:=by rfl) :
  QE X Z q (cJoin z c) (.Call (.Attribute o "join" apos) [e] [] cpos) :=
 pe_imp (pe_bm PySem.F.plainAttrs_str PySem.F.slot_str_join PySem.F.type_str_join mt_join ho (pa_cons hc pa_nil hs) hbase hfew hline hs hplain) fun σ H Q h_z=>ex8 h_z fun E L r m w hcc xc k=>by
  refine ⟨?_,?_⟩
  ·rfl
  ·refine vbind m w (hcc) xc fun E1 s h1 x L1 H1 e1 e2 m1 w1 ok fr sr st sm=>?_
   obtain ⟨y,hz,rfl⟩:=val_inv h1
   unfold fJoin at hz
   cases hx:s.2 with
   | lst ds =>
    rw [hx] at hz
    dsimp only at hz
    cases hp:strsD ds with
    | none=>rw [hp] at hz;cases hz
    | some ys =>
     rw [hp] at hz
     dsimp only at hz
     by_cases hl:(ys.map (·.length)).sum + ys.length * z.length<=100000
     ·rw [if_pos hl] at hz
      cases Option.some.inj hz
      obtain ⟨a,xs,bs,ev,q1,ra⟩:=items ok (.inl (e2▸hx))
      have hq:SqL Z.K H1 a xs:=by
       rcases q1 with ⟨_,t⟩ | ⟨t,_⟩
       ·exact t.sq
       ·grind
      have ex:=(strs_rep hp ra.1).1
      subst ex
      have hlen:(Txt.join z ys).length<=sizeLine:=joinOk_length (joinOk_of (by lia))
      exact ⟨z,a,ys,rfl,by rw [ev],by rw [hK];exact hq,by lia,(k _ _ rfl _ L1 H1 rfl rfl m1 (w1.consPu (x:=⟨.dp,.str _,.str _,[]⟩) (show RepL Z.K H1 false _ _ [] from rep_str hlen) rfl) (stepNo st (fun b hb=>nomatch hb) rfl) fun hq=>⟨sm hq,fun _ t=>(nomatch t)⟩)⟩
     ·rw [if_neg hl] at hz;cases hz
   | _=>rw [hx] at hz;cases hz
end Q
noncomputable section
noncomputable section
noncomputable section
namespace Q
open PySem PySem.Spec PyProof.Rows L2 L3
section
variable {X:Cx} {Z:Fx0} {pn:List Nat} {q:Bool} {a b:Ex} {o e:Expr} {apos cpos:Pos}
theorem q_idxS (ha:QV X Z q a o) (hb:QV X Z true b e) (hK:X.K=Z.K:=by rfl)
  (hbase:attributeBase o "index" X.env (eval o X.env)=eval o X.env:=by rfl)
  (hfew:((backTo cpos (starEach [e] X.env)).all (fun x=>!x.1) && (backToKw cpos (keywordEach [] X.env)).all (fun x=>x.1.isSome)
   && decide ([e].length + ([]:List Keyword).length + (if ([]:List Keyword).isEmpty then 0 else 1) < 30))=true:=by rfl)
  (hline:(apos.endLine == cpos.line)=true:=by rfl) (hs:starEach [e] X.env=(false,eval e X.env) :: starEach [] X.env:=by rfl) (hplain:(backTo cpos (starEach [] X.env)).any (·.1)=false:=by rfl) :
  QE X Z q (cIdxS a b) (.Call (.Attribute o "index" apos) [e] [] cpos) :=
 pe_imp (pe_bm PySem.F.plainAttrs_str PySem.F.slot_str_index PySem.F.type_str_index mtIndex ha (pa_cons hb pa_nil hs) hbase hfew hline hs hplain) fun σ H Q h_z=>ex8 h_z fun E L r m w hcc xc k=>by
  refine vbind m w (hcc) xc fun E1 s h1 x L1 H1 e1 e2 m1 w1 ok fr sr st sm=>?_
  by_cases hst:isStrD s.2=true
  ·rw [if_pos hst] at h1
   cases hx:s.2 with
   | str z =>
    have ev:=(of_str ok (e2▸hx)).1
    refine ⟨by rw [ev];rfl,(vbind m1 w1 h1 (xc.step st) fun E2 s2 h2 y L2 H2 e3 e4 m2 w2 ok2 fr2 sr2 st2 sm2=>?_)⟩
    obtain ⟨d,hz,rfl⟩:=val_inv h2
    rw [hx] at hz
    unfold fIdxS at hz
    cases hy:s2.2 with
    | str y' =>
     rw [hy] at hz
     dsimp only at hz
     cases ho:Builtin.Str.occurrences z y' 0 z.length 1 with
     | nil=>simp_all
     | cons i rest =>
      rw [ho] at hz
      cases Option.some.inj hz
      exact ⟨z,y',i,rest,ev,by rw [((of_str ok2 (e4▸hy)).1)],ho,(k _ _ rfl _ L2 H2 rfl rfl m2 (w2.consPu (x:=⟨.dp,.int i,.int i,[]⟩) (show RepL Z.K H2 false _ _ [] from rep_int) rfl) (stepNo (st.trans st2) (fun b hb=>nomatch hb) rfl) fun hq=>⟨same_trans (sm hq) (sm2 rfl),fun _ t=>(nomatch t)⟩)⟩
    | _=>rw [hy] at hz;cases hz
   | _=>rw [hx] at hst;cases hst
  ·simp_all
end
end Q
noncomputable section
namespace Q
open PySem PySem.Spec PyProof.Rows L2 L3
theorem own_rep {K} {H} {x:Sl} (ok:x.ok K H) (ht:ownT x.sd=true) (nd:x.own.Nodup):∃ cs,RepL K H false x.d x.v cs/\(∀ a∈cs,a∈x.own)/\cs.Nodup:=by
 obtain ⟨o,d,v,as⟩:=x
 unfold ownT at ht
 rw [Bool.or_eq_true] at ht
 rcases ht with ht | ht
 ·unfold tight at ht
  rw [Bool.or_eq_true] at ht
  rcases ht with ht | ht
  ·have ho:o=.dp:=by
    cases o with
    | dp=>rfl
    | no=>cases ht
    | rt=>cases ht
   subst ho
   exact ⟨as,ok,fun a h=>h,nd⟩
  ·obtain ⟨_,r⟩:=RepL.pu (g':=false) (RepO.wk ok) ht
   exact ⟨[],r,fun _ h=>(nomatch h),List.nodup_nil⟩
 ·rw [Bool.and_eq_true] at ht
  have ho:o=.rt:=by
   have ht:(o == Own.rt)=true:=ht.1
   cases o with
   | rt=>rfl
   | no=>cases ht
   | dp=>cases ht
  subst ho
  cases d with
  | lst ds =>
   obtain ⟨a,xs,bs,e,r,h,e2⟩:=(show RepR K H (.lst ds) v as from ok)
   obtain ⟨_,r2⟩:=RepA.pu (g':=false) r ht.2
   refine ⟨[a],?_,fun b hb=>?_,by simp⟩
   ·exact ⟨a,xs,[],e,r2,.inl ⟨h,rfl⟩⟩
   ·rw [List.mem_singleton.mp hb,e2]
    exact List.mem_cons_self
  | _=>simp_all
end Q
noncomputable section
noncomputable section
namespace Q
open PySem PySem.Spec PyProof.Rows L2 L3
noncomputable def PV (K:PySem.W.Frag) (H:Hp):List Nat->D->V->V->Prop
 | [],_,v,u=>u=v
 | n :: p,.tup ds,v,u=>∃ a xs x d,v=.ref a/\SqT K H a xs/\xs[n]?=some x/\(ds[n]?=some d/\xs.length=ds.length)/\PV K H p d x u
 | n :: p,.lst ds,v,u=>∃ a xs x d,v=.ref a/\H a=some (.lst xs)/\xs[n]?=some x/\(ds[n]?=some d/\xs.length=ds.length)/\PV K H p d x u
 | _ :: _,_,_,_=>False
section
variable {K:PySem.W.Frag} {H:Hp}
structure Kx (H H':Hp) (as bs:List Addr):Prop where
 tup:∀ a xs,H a=some (.tup xs)->H' a=some (.tup xs)
 frz:∀ a o u,H a=some (.frz o u)->H' a=some (.frz o u)
 out:∀ b∈as,b∉bs->∀ ob,H b=some ob->H' b=some ob
theorem Kx.kp {H':Hp} {as bs cs:List Addr} (k:Kx H H' as bs) (h:∀ b∈cs,b∈as/\b∉bs):Kp H H' cs:=⟨k.tup,k.frz,fun a ha=>k.out a (h a ha).1 (h a ha).2⟩
theorem RepA.hole:∀ {n:Nat} {ds:List D} {xs:List V} {as:List Addr} {dn:D},RepA K H false ds xs as->as.Nodup->ds[n]?=some dn->∃ x bs,xs[n]?=some x/\RepL K H false dn x bs/\bs.Nodup/\(∀ b∈bs,b∈as) /\
  ∀ (H':Hp) (dn':D) (bs':List Addr),Kx H H' as bs->RepL K H' false dn' x bs'->bs'.Nodup->(∀ b∈as,b∉bs->b∉bs')->∃ as',RepA K H' false (ds.set n dn') xs as'/\as'.Nodup/\∀ b∈as',(b∈as/\b∉bs)\/b∈bs'
 | _,[],_,_,_,_,_,e=>by simp at e
 | 0,d :: ds,xs,as,dn,h,nd,e=>by
  have e:d=dn:=by simpa using e
  subst e
  unfold RepA at h
  obtain ⟨x,r,bs,es,rfl,rfl,h1,h2⟩:=h
  rw [List.nodup_append] at nd
  refine ⟨x,bs,rfl,h1,nd.1,fun b hb=>List.mem_append_left _ hb,fun H' dn' bs' kx r' nd' hd=>?_⟩
  have he:∀ b∈es,b∈bs++es/\b∉bs:=fun b hb=>⟨List.mem_append_right _ hb,fun z=>nd.2.2 b z b hb rfl⟩
  refine ⟨bs'++es,?_,?_,fun b hb=>?_⟩
  ·rw [List.set_cons_zero]
   unfold RepA
   exact ⟨x,r,bs',es,rfl,rfl,r',h2.kp (kx.kp he)⟩
  ·rw [List.nodup_append]
   refine ⟨nd',nd.2.1,fun a ha b hb hab=>?_⟩
   subst hab
   exact hd a (he a hb).1 (he a hb).2 ha
  ·rcases List.mem_append.mp hb with z | z
   ·exact .inr z
   ·exact .inl (he b z)
 | n + 1,d :: ds,xs,as,dn,h,nd,e=>by
  unfold RepA at h
  obtain ⟨x,r,bs,es,rfl,rfl,h1,h2⟩:=h
  rw [List.nodup_append] at nd
  obtain ⟨y,fs,q1,q2,q3,q4,q5⟩:=RepA.hole (n:=n) h2 nd.2.1 (by simpa using e)
  have hb:∀ b∈bs,b∈bs++es/\b∉fs:=fun b hb=>⟨List.mem_append_left _ hb,fun z=>nd.2.2 b hb b (q4 b z) rfl⟩
  refine ⟨y,fs,by simpa using q1,q2,q3,fun b hb=>List.mem_append_right _ (q4 b hb),fun H' dn' bs' kx r' nd' hd=>?_⟩
  obtain ⟨as',a1,a2,a3⟩:=q5 H' dn' bs' ⟨kx.tup,kx.frz,fun b hb=>kx.out b (List.mem_append_right _ hb)⟩ r' nd' (fun b hb=>hd b (List.mem_append_right _ hb))
  refine ⟨bs++as',?_,?_,fun b hb2=>?_⟩
  ·rw [List.set_cons_succ]
   unfold RepA
   exact ⟨x,r,bs,as',rfl,rfl,h1.kp (kx.kp hb),a1⟩
  ·rw [List.nodup_append]
   refine ⟨nd.1,a2,fun a ha b hb2 hab=>?_⟩
   subst hab
   rcases a3 a hb2 with z | z
   ·exact nd.2.2 a ha a z.1 rfl
   ·exact hd a (hb a ha).1 (hb a ha).2 z
  ·rcases List.mem_append.mp hb2 with z | z
   ·exact .inl (hb b z)
   ·exact (a3 b z).imp (fun z=>⟨List.mem_append_right _ z.1,z.2⟩) id
theorem RepL.hole:∀ {p:List Nat} {d d1:D} {v:V} {as:List Addr},RepL K H false d v as->as.Nodup->D.at p d=some d1->∃ v1 as1,PV K H p d v v1/\RepL K H false d1 v1 as1/\as1.Nodup/\(∀ b∈as1,b∈as) /\
  ∀ (H':Hp) (d':D) (bs':List Addr),Kx H H' as as1->RepL K H' false d' v1 bs'->bs'.Nodup->(∀ b∈as,b∉as1->b∉bs')->∃ as',RepL K H' false (D.put d' p d) v as'/\as'.Nodup/\∀ b∈as',(b∈as/\b∉as1)\/b∈bs'
 | [],d,d1,v,as,h,nd,e=>by
  cases Option.some.inj (show some d=some d1 from e)
  exact ⟨v,as,rfl,h,nd,fun _ h=>h,fun H' d' bs' kx r' nd' hd=>⟨bs',r',nd',fun b hb=>.inr hb⟩⟩
 | n :: p,.tup ds,d1,v,as,h,nd,e=>by
  unfold D.at at e
  cases hn:ds[n]? with
  | none=>rw [hn] at e;cases e
  | some dn =>
   rw [hn] at e
   unfold RepL at h
   obtain ⟨a,xs,e1,sq,ra⟩:=h
   obtain ⟨x,bs,q1,q2,q3,q4,q5⟩:=RepA.hole ra nd hn
   obtain ⟨v1,as1,p1,p2,p3,p4,p5⟩:=RepL.hole (p:=p) q2 q3 e
   refine ⟨v1,as1,⟨a,xs,x,dn,e1,sq,q1,⟨hn,ra.len.symm⟩,p1⟩,p2,p3,fun b hb=>q4 b (p4 b hb),fun H' d' bs' kx r' nd' hd=>?_⟩
   obtain ⟨cs,c1,c2,c3⟩:=p5 H' d' bs' ⟨kx.tup,kx.frz,fun b hb=>kx.out b (q4 b hb)⟩ r' nd' (fun b hb=>hd b (q4 b hb))
   obtain ⟨as',a1,a2,a3⟩:=q5 H' _ cs ⟨kx.tup,kx.frz,fun b hb hn=>kx.out b hb fun z=>hn (p4 b z)⟩ c1 c2 (fun b hb hn z=>by
    rcases c3 b z with z | z
    ·exact hn z.1
    ·exact hd b hb (fun z=>hn (p4 b z)) z)
   refine ⟨as',?_,a2,fun b hb=>?_⟩
   ·unfold D.put
    rw [hn]
    dsimp only
    unfold RepL
    exact ⟨a,xs,e1,Kp.tupT (as:=[]) ⟨kx.tup,kx.frz,fun _ h=>nomatch h⟩ sq,a1⟩
   ·rcases a3 b hb with z | z
    ·exact .inl ⟨z.1,fun y=>z.2 (p4 b y)⟩
    ·exact (c3 b z).imp (fun z=>⟨q4 b z.1,z.2⟩) id
 | n :: p,.lst ds,d1,v,as,h,nd,e=>by
  unfold D.at at e
  cases hn:ds[n]? with
  | none=>rw [hn] at e;cases e
  | some dn =>
   rw [hn] at e
   unfold RepL at h
   obtain ⟨a,xs,fs,e1,ra,sq⟩:=h
   rcases sq with ⟨sq,rfl⟩ | ⟨z,_⟩
   rotate_left
   ·cases z
   rw [List.nodup_cons] at nd
   obtain ⟨x,bs,q1,q2,q3,q4,q5⟩:=RepA.hole ra nd.2 hn
   obtain ⟨v1,as1,p1,p2,p3,p4,p5⟩:=RepL.hole (p:=p) q2 q3 e
   have ha1:a∉as1:=fun z=>nd.1 (q4 a (p4 a z))
   refine ⟨v1,as1,⟨a,xs,x,dn,e1,sq,q1,⟨hn,ra.len.symm⟩,p1⟩,p2,p3,fun b hb=>List.mem_cons_of_mem _ (q4 b (p4 b hb)),fun H' d' bs' kx r' nd' hd=>?_⟩
   obtain ⟨cs,c1,c2,c3⟩:=p5 H' d' bs' ⟨kx.tup,kx.frz,fun b hb=>kx.out b (List.mem_cons_of_mem _ (q4 b hb))⟩ r' nd' (fun b hb=>hd b (List.mem_cons_of_mem _ (q4 b hb)))
   obtain ⟨as',a1,a2,a3⟩:=q5 H' _ cs ⟨kx.tup,kx.frz,fun b hb hn=>kx.out b (List.mem_cons_of_mem _ hb) fun z=>hn (p4 b z)⟩ c1 c2 (fun b hb hn z=>by
    rcases c3 b z with z | z
    ·exact hn z.1
    ·exact hd b (List.mem_cons_of_mem _ hb) (fun z=>hn (p4 b z)) z)
   have h3:∀ b∈as',(b∈fs/\b∉as1)\/b∈bs':=fun b hb=>by
    rcases a3 b hb with z | z
    ·exact .inl ⟨z.1,fun y=>z.2 (p4 b y)⟩
    ·exact (c3 b z).imp (fun z=>⟨q4 b z.1,z.2⟩) id
   refine ⟨a :: as',?_,List.nodup_cons.mpr ⟨fun z=>?_,a2⟩,fun b hb=>?_⟩
   ·unfold D.put
    rw [hn]
    dsimp only
    unfold RepL
    exact ⟨a,xs,as',e1,a1,.inl ⟨kx.out a List.mem_cons_self ha1 _ sq,rfl⟩⟩
   ·rcases h3 a z with z | z
    ·exact nd.1 z.1
    ·exact hd a List.mem_cons_self ha1 z
   ·rcases List.mem_cons.mp hb with rfl | hb
    ·exact .inl ⟨List.mem_cons_self,ha1⟩
    ·exact (h3 b hb).imp (fun z=>⟨List.mem_cons_of_mem _ z.1,z.2⟩) id
 | _ :: _,.non,_,_,_,_,_,e=>by cases e
 | _ :: _,.bl _,_,_,_,_,_,e=>by cases e
 | _ :: _,.int _,_,_,_,_,_,e=>by cases e
 | _ :: _,.str _,_,_,_,_,_,e=>by cases e
 | _ :: _,.dct _,_,_,_,_,_,e=>by cases e
 | _ :: _,.obj _ _,_,_,_,_,_,e=>by cases e
theorem own_dp {y:Sl} (h:y.o=.dp):y.own=y.as:=by unfold Sl.own;rw [h]
theorem frz_dp {y:Sl} (h:y.o=.dp):y.frz=[]:=by unfold Sl.frz;rw [h]
theorem World.hole {L:Ls} {y:Sl} {p:List Nat} {d1:D} (w:World K H (some y :: L)) (ho:y.o=.dp) (h:D.at p y.d=some d1):∃ y1:Sl,y1.o=.dp/\y1.d=d1/\PV K H p y.d y.v y1.v/\World K H (some y1 :: L) /\
  ∀ (He:Hp) (Le:Ls) (z:Sl),World K He (some z :: Le)->Step H (some y1 :: L) He (some z :: Le)->z.o=.dp->z.v=y1.v->∃ y':Sl,y'.o=.dp/\y'.d=D.put z.d p y.d/\y'.v=y.v/\World K He (some y' :: Le)/\Step H (some y :: L) He (some y' :: Le):=by
 have ok:RepL K H false y.d y.v y.as:=by
  have:=w.ok y List.mem_cons_self
  unfold Sl.ok at this
  rw [ho] at this
  exact this
 have nd:=w.nd
 rw [owned_some,own_dp ho,List.nodup_append] at nd
 have ds:=w.ds
 obtain ⟨v1,as1,p1,p2,p3,p4,p5⟩:=RepL.hole ok nd.1 h
 have al:∀ b∈y.as,H b≠none:=fun b hb z=>by
  rcases w.own_al (a:=b) (by rw [owned_some,own_dp ho];exact List.mem_append_left _ hb) with ⟨_,q⟩ | ⟨_,q⟩ | ⟨_,q⟩<;>· rw [z] at q;cases q
 refine ⟨⟨.dp,d1,v1,as1⟩,rfl,rfl,p1,⟨fun x hx=>?_,?_,fun a ha=>?_⟩,fun He Le z wz st zo zv=>?_⟩
 ·rcases List.mem_cons.mp hx with e | hx
  ·cases e;exact p2
  ·exact w.ok x (List.mem_cons_of_mem _ hx)
 ·rw [owned_some,List.nodup_append]
  exact ⟨p3,nd.2.1,fun a ha b hb=>nd.2.2 a (p4 a ha) b hb⟩
 ·have ha2:a∈owned (some y :: L):=by
   rw [owned_some] at ha ⊢
   rcases List.mem_append.mp ha with ha | ha
   ·exact List.mem_append_left _ (by rw [own_dp ho];exact p4 a ha)
   ·exact List.mem_append_right _ ha
  have:=ds a ha2
  rw [frozen_some] at this ⊢
  intro q
  rcases List.mem_append.mp q with q | q
  ·cases q
  ·exact this (List.mem_append_right _ q)
 ·have okz:RepL K He false z.d v1 z.as:=by
   have:=wz.ok z List.mem_cons_self
   unfold Sl.ok at this
   rw [zo,zv] at this
   exact this
  have ndz:=wz.nd
  rw [owned_some,own_dp zo,List.nodup_append] at ndz
  have no1:∀ b∈y.as,b∉as1->b∉owned (some (⟨.dp,d1,v1,as1⟩:Sl) :: L):=fun b hb hn q=>by
   rw [owned_some] at q
   rcases List.mem_append.mp q with q | q
   ·exact hn q
   ·exact nd.2.2 b hb b q rfl
  have noz:∀ b∈y.as,b∉as1->b∉owned (some z :: Le):=fun b hb hn q=>by
   rcases st.own b q with q | q
   ·exact no1 b hb hn q
   ·exact al b hb q
  have nof:∀ b∈y.as,b∉as1->b∉frozen Le:=fun b hb hn q=>by
   rcases st.frz b (by rw [frozen_some];exact List.mem_append_right _ q) with q | q | q
   ·rw [frozen_some] at q
    rcases List.mem_append.mp q with q | q
    ·cases q
    ·exact ds b (by rw [owned_some,own_dp ho];exact List.mem_append_left _ hb) (by rw [frozen_some];exact List.mem_append_right _ q)
   ·exact no1 b hb hn q
   ·exact al b hb q
  have tupk:∀ a xs,H a=some (.tup xs)->He a=some (.tup xs):=fun a xs e=>st.keep a _ e fun q=>by
   have q2:a∈owned (some y :: L):=by
    rw [owned_some] at q ⊢
    exact List.mem_append.mpr ((List.mem_append.mp q).imp (fun q=>by rw [own_dp ho];exact p4 a q) id)
   rcases w.own_al q2 with ⟨_,q⟩ | ⟨_,q⟩ | ⟨_,q⟩<;>· rw [e] at q;cases q
  have frzk:∀ a o u,H a=some (.frz o u)->He a=some (.frz o u):=fun a o u e=>st.keep a _ e fun q=>by
   have q2:a∈owned (some y :: L):=by
    rw [owned_some] at q ⊢
    exact List.mem_append.mpr ((List.mem_append.mp q).imp (fun q=>by rw [own_dp ho];exact p4 a q) id)
   rcases w.own_al q2 with ⟨_,q⟩ | ⟨_,q⟩ | ⟨_,q⟩<;>· rw [e] at q;cases q
  obtain ⟨as',a1,a2,a3⟩:=p5 He z.d z.as ⟨tupk,frzk,fun b hb hn ob e=>st.keep b ob e (no1 b hb hn)⟩ okz ndz.1 (fun b hb hn q=>noz b hb hn (by rw [owned_some,own_dp zo];exact List.mem_append_left _ q))
  have sub:∀ b∈owned (some z :: Le),b∈owned (some y :: L)\/H b=none:=fun b hb=>(st.own b hb).imp (fun q=>by
   rw [owned_some] at q ⊢
   exact List.mem_append.mpr ((List.mem_append.mp q).imp (fun q=>by rw [own_dp ho];exact p4 b q) id)) id
  refine ⟨⟨.dp,D.put z.d p y.d,y.v,as'⟩,rfl,rfl,rfl,⟨fun x hx=>?_,?_,fun a ha q=>?_⟩,⟨fun a ob e hn=>st.keep a ob e fun q=>hn ?_,fun a ha=>?_,fun a ha=>?_⟩⟩
  ·rcases List.mem_cons.mp hx with e | hx
   ·cases e;exact a1
   ·exact wz.ok x (List.mem_cons_of_mem _ hx)
  ·rw [owned_some,List.nodup_append]
   refine ⟨a2,ndz.2.1,fun a ha b hb hab=>?_⟩
   subst hab
   rcases a3 a ha with q | q
   ·exact noz a q.1 q.2 (by rw [owned_some];exact List.mem_append_right _ hb)
   ·exact ndz.2.2 a q a hb rfl
  ·have q:a∈frozen Le:=by
    rw [frozen_some] at q
    rcases List.mem_append.mp q with q | q
    ·cases q
    ·exact q
   rw [owned_some] at ha
   have fz:a∈frozen (some z :: Le):=by rw [frozen_some];exact List.mem_append_right _ q
   rcases List.mem_append.mp ha with ha | ha
   ·rcases a3 a ha with r | r
    ·exact nof a r.1 r.2 q
    ·exact wz.ds a (by rw [owned_some,own_dp zo];exact List.mem_append_left _ r) fz
   ·exact wz.ds a (by rw [owned_some];exact List.mem_append_right _ ha) fz
  ·rw [owned_some] at q ⊢
   exact List.mem_append.mpr ((List.mem_append.mp q).imp (fun q=>by rw [own_dp ho];exact p4 a q) id)
  ·rw [owned_some] at ha
   rcases List.mem_append.mp ha with ha | ha
   ·rcases a3 a ha with q | q
    ·exact .inl (by rw [owned_some,own_dp ho];exact List.mem_append_left _ q.1)
    ·exact sub a (by rw [owned_some,own_dp zo];exact List.mem_append_left _ q)
   ·exact sub a (by rw [owned_some];exact List.mem_append_right _ ha)
  ·have q:a∈frozen Le:=by
    rw [frozen_some] at ha
    rcases List.mem_append.mp ha with q | q
    ·cases q
    ·exact q
   rcases st.frz a (by rw [frozen_some];exact List.mem_append_right _ q) with r | r | r
   ·refine .inl ?_
    rw [frozen_some] at r ⊢
    rcases List.mem_append.mp r with r | r
    ·cases r
    ·exact List.mem_append_right _ r
   ·refine .inr (.inl ?_)
    rw [owned_some] at r ⊢
    exact List.mem_append.mpr ((List.mem_append.mp r).imp (fun q=>by rw [own_dp ho];exact p4 a q) id)
   ·exact .inr (.inr r)
end
end Q
noncomputable section
namespace Q
open PySem PySem.Spec PyProof.Rows L2 L3
noncomputable abbrev tP (K:PySem.W.Frag) (i:Nat) (p:List Nat):TE:=fun σ H Q=>∃ d v u,σ[i]?=some (some v)/\PV K H p d v u/\Q u H
section
variable {X:Cx} {Z:Fx0} {pn:List Nat} {q:Bool} {c:Ex} {e ep:Expr} {i:Nat} {p:List Nat} {pos:Pos}
theorem pth_nil K (h:PE X e (tVar i)):PE X e (tP K i []):=pe_imp h fun σ H Q ⟨d,v,u,hv,hu,q⟩=>by
 subst hu
 exact ⟨u,hv,q⟩
theorem take_out {K} {H} {L} {y} (w:World K H L) (h:L[i]?=some (some y)):World K H (some y :: L.set i none)/\Step H L H (some y :: L.set i none):=by
 have wn:World K H (none :: L):=⟨fun y hy=>w.ok y (by simpa using hy),by simpa using w.nd,by simpa using w.ds⟩
 have sn:Step H L H (none :: L):=⟨fun _ _ z _=>z,fun a z=>.inl (by simpa using z),fun a z=>.inl (by simpa using z)⟩
 exact ⟨wn.perm (perm_take h),sn.trans (Step.refl.perm (List.Perm.refl _) (perm_take h))⟩
theorem rep_pu {K} {H} {x:Sl} (ok:x.ok K H) (h:x.d.pure=true):RepL K H false x.d x.v []:=(RepL.pu (g':=false) (RepO.wk ok) h).2
theorem kp_upd {H} {l} {xs} {ob} (h:H l=some (.lst xs)) {as} (hn:l∉as):Kp H (upd H l ob) as:=by
 have ke:∀ a o,H a=some o->a≠l->upd H l ob a=some o:=fun a o e ne=>by rw [upd_ne ne];exact e
 refine ⟨fun a xs e=>ke a _ e fun z=>?_,fun a o u e=>ke a _ e fun z=>?_,fun a ha o e=>ke a o e fun z=>hn (z▸ha)⟩
 ·grind
 ·grind
theorem World.app {K} {H} {M:Ls} {y x} {ds} (w:World K H (some y :: some x :: M)) (ho:y.o=.dp) (hd:y.d=.lst ds) (hp:x.d.pure=true):∃ l xs,y.v=.ref l/\H l=some (.lst xs)/\xs.length=ds.length /\
  ∃ z,z.o=.dp/\z.d=.lst (ds++[x.d])/\z.v=y.v/\World K (upd H l (.lst (xs++[x.v]))) (some z :: M)/\Step H (some y :: some x :: M) (upd H l (.lst (xs++[x.v]))) (some z :: M):=by
 obtain ⟨l,xs,bs,c1,c2,c3,c4,c5⟩:=dp_lst (w.ok y List.mem_cons_self) hd ho
 have nd:=w.nd
 rw [owned_some,List.nodup_append,c4,List.nodup_cons] at nd
 refine ⟨l,xs,c1,c2,c5.len.symm,⟨.dp,.lst _,y.v,l :: bs⟩,rfl,rfl,rfl,World.write (T:=[some x]) w (c4▸List.mem_cons_self) ?_ (List.nodup_cons.mpr nd.1) (fun a ha=>.inl (c4▸ha)) (fun a ha=>nomatch ha) (fun a ha z=>nomatch z)⟩
 have hr:=RepA.snoc ((rep_pu (w.ok x (List.mem_cons_of_mem _ List.mem_cons_self)) hp).kp (kp_upd c2 (fun z=>nomatch z))) (c5.kp (kp_upd (ob:=.lst (xs++[x.v])) c2 nd.1.1))
 rw [List.append_nil] at hr
 exact ⟨l,_,bs,c1,hr,.inl ⟨upd_same,rfl⟩⟩
theorem World.clr {K} {H} {M:Ls} {y} {ds} (w:World K H (some y :: M)) (ho:y.o=.dp) (hd:y.d=.lst ds):∃ l xs,y.v=.ref l/\H l=some (.lst xs) /\
  ∃ z,z.o=.dp/\z.d=.lst []/\z.v=y.v/\World K (upd H l (.lst [])) (some z :: M)/\Step H (some y :: M) (upd H l (.lst [])) (some z :: M):=by
 obtain ⟨l,xs,bs,c1,c2,c3,c4,c5⟩:=dp_lst (w.ok y List.mem_cons_self) hd ho
 refine ⟨l,xs,c1,c2,⟨.dp,.lst [],y.v,[l]⟩,rfl,rfl,rfl,World.write (T:=[]) w (c4▸List.mem_cons_self) ?_ (by simp [Sl.own]) (fun a ha=>.inl ?_) (fun a ha=>nomatch ha) (fun a ha z=>nomatch z)⟩
 ·exact ⟨l,[],[],c1,⟨rfl,rfl⟩,.inl ⟨upd_same,rfl⟩⟩
 ·rw [c4,List.mem_singleton.mp ha]
  exact List.mem_cons_self
theorem ty_lst {K} {H} {l} {xs} (h:H l=some (.lst xs)):tyV K "list" (.ref l) H:=.inl ⟨rfl,xs,.inl (.inl h)⟩
theorem q_pc (hP:PE X ep (tP Z.K i p)) (hK:X.K=Z.K:=by rfl) (hm:MtR X "list.clear" rClear) {apos cpos spos}
  (hbase:attributeBase ep "clear" X.env (eval ep X.env)=eval ep X.env:=by rfl) (hline:(apos.endLine == cpos.line)=true:=by rfl)
  (hsw:swapsWith (.Call (.Attribute ep "clear" apos) [] [] cpos) none spos.line X.env=pure false:=by rfl) :
  QS X Z pn (sPC i p) (.Expr (.Call (.Attribute ep "clear" apos) [] [] cpos) spos) :=
 ps_imp (ps_expr (pe_bm0K Z.K PySem.F.plainAttrs_list PySem.F.slot_list_clear PySem.F.type_list_clear hm hP hbase hline hK) hsw) fun De σ H h_z=>ex7 h_z fun E L r m w hcc k=>by
 unfold sPC at hcc
 split at hcc
 rotate_left
 ·cases hcc
 rename_i d hE
 split at hcc
 rotate_left
 ·cases hcc
 rename_i ds hat
 cases Option.some.inj hcc
 obtain ⟨y,a1,a2,a3,a4⟩:=m.get hE
 obtain ⟨w0,s0⟩:=take_out w a1
 obtain ⟨y1,b1,b2,b3,b4,b5⟩:=w0.hole a2 (a3▸hat)
 obtain ⟨l,xs,c1,c2,z,z1,z2,z3,z4,z5⟩:=World.clr b4 b1 b2
 refine ⟨y.d,y.v,y1.v,a4,b3,by rw [c1];exact ty_lst c2,?_⟩
 obtain ⟨y',g1,g2,g3,g4,g5⟩:=b5 _ _ z z4 z5 z1 z3
 refine ⟨l,xs,c1,rfl,c2,?_⟩
 have mm:=mt_set (i:=i) (s:=(.dp,Q.D.put _ p d)) (mt_none i m) g1 (by rw [g2,z2,a3])
 rw [g3,set_same a4,List.set_set] at mm
 exact k σ _ _ Pn.refl mm g4.set (s0.trans (g5.trans Step.set))
theorem mt_un {u}:∀ {E} {σ} {L} j,Mt E σ L->Mt (E.set j none) (σ.set j u) (L.set j none):=by
 intro E σ L j m
 induction m generalizing j with
 | nil=>exact .nil
 | un m ih=>cases j with
  | zero=>exact .un m
  | succ j=>exact .un (ih j)
 | cons m ih=>cases j with
  | zero=>exact .un m
  | succ j=>exact .cons (ih j)
theorem World.out1 {K} {H} {L} r (w:World K H L):World K H (L.set r none)/\Step H L H (L.set r none):=by
 cases h:L[r]? with
 | none =>
  rw [show L.set r none=L from List.set_eq_of_length_le (by simpa using h)]
  exact ⟨w,Step.refl⟩
 | some q =>
  cases q with
  | none =>
   rw [set_same h]
   exact ⟨w,Step.refl⟩
  | some y =>
   obtain ⟨w1,s1⟩:=take_out w h
   exact ⟨w1.tail,s1.trans Step.drop⟩
theorem q_own (hc:QE X Z q c e):QE X Z q (cOwn c) e:=pe_imp hc fun σ H Q h_z=>ex8 h_z fun E L r m w hr xc k=>by
 rcases bnd_cases hr with ⟨E1,s,h1,h2⟩ | ⟨E1,cc,h1,h2⟩
 ·refine ⟨E,L,_,m,w,h1,(fun _ _ z=>by cases z),fun E' s' z x L' H' e1 e2 m' w' st sm=>?_⟩
  injection z with z1 z2
  subst z1 z2
  split at h2
  rotate_left
  ·grind
  rename_i hown
  cases Option.some.inj h2
  have xn:x.own.Nodup:=by
   have:=w'.nd
   exact (List.nodup_append.mp this).1
  obtain ⟨cs,rx,hcs,hcn⟩:=own_rep w'.head (by unfold Sl.sd;rw [e1,e2];exact hown) xn
  have nd:=w'.nd
  rw [owned_some,List.nodup_append] at nd
  refine k _ _ rfl ⟨.dp,x.d,x.v,cs⟩ L' H' rfl e2 m' ⟨fun y hy=>?_,?_,fun a ha=>?_⟩ ⟨st.keep,fun a ha=>?_,fun a ha=>?_⟩ fun hq=>⟨(sm hq).1,fun b hb=>(sm hq).2 b (hcs b hb)⟩
  ·rcases List.mem_cons.mp hy with z | z
   ·cases z;exact rx
   ·exact w'.ok y (List.mem_cons_of_mem _ z)
  ·rw [owned_some,List.nodup_append]
   exact ⟨hcn,nd.2.1,fun a ha b hb=>nd.2.2 a (hcs a ha) b hb⟩
  ·have ha2:a∈owned (some x :: L'):=by
    rw [owned_some] at ha ⊢
    exact List.mem_append.mpr ((List.mem_append.mp ha).imp (hcs a) id)
   intro q2
   rw [frozen_some] at q2
   exact w'.ds a ha2 (List.mem_append_right _ ((List.mem_append.mp q2).elim (fun z=>nomatch z) id))
  ·refine st.own a ?_
   rw [owned_some] at ha ⊢
   exact List.mem_append.mpr ((List.mem_append.mp ha).imp (hcs a) id)
  ·refine st.frz a ?_
   rw [frozen_some] at ha ⊢
   exact List.mem_append_right _ ((List.mem_append.mp ha).elim (fun z=>nomatch z) id)
 ·exact ⟨E,L,_,m,w,h1,xc.map h2,fun E' s' z=>by cases z⟩
end
end Q
noncomputable section
noncomputable section
noncomputable section
noncomputable section
noncomputable section
namespace Q
open PySem PySem.Spec PyProof.Rows L2 L3
theorem law_callQ {P} {w} {K} {mg mb} {CX} {k} {fa a} {fd} {x} {sp} {s₁} {vs} {ns}
  (KX:K.In s₁.heap) (hns:s₁.heap.Ns mainGlobals mg) (hb:s₁.heap.Ns builtinsNs mb) (hbb:∀ x:Str,x≠"__name__"->mb x=bootBuiltins x) (hlim:s₁.heap.NoLimit) (hg:s₁.gens=#[])
  (ha:s₁.heap.get? a=some { cls:=.type "list",data:=.seq vs.toArray }) (hi:IntsAre vs ns) (hl:ns.length<=sizeLine) (hr:Room k callerA)
  (F:∀ base,K.In base->base.Ns mainGlobals mg->FnOk P w K mg base CX k fa fd [x] sp) (hbind:∀ s u,BindsTo s fd ⟨[u],[]⟩ [(x,u)])
  (hsp:∀ H,Only H->LsR K H a (ns.map V.int)->sp [.ref a] H (fun v _=>v=.bl true) fun _ _ _=>False)
  (hCX:∀ H e s',CX [] H s₁ (fun _ _ _=>False) e s'->False) :
  codeAny (model P w) callerA (.call (.ref fa) ⟨[.ref a],[]⟩) (fun r s'=>r=.ok (.ret (.bool true))/\OldK s₁.heap s'.heap/\s'.os=s₁.os/\AllBare s'.gens) s₁:=by
 have rv:=vals_ints hi
 have core:∀ H,Only H->LsR K H a (ns.map V.int)->HOk P w H s₁.heap->(∀ b,H b≠none->b=a)->(H a≠none->K.lookup a=none) ->
   codeAny (model P w) callerA (.call (.ref fa) ⟨[.ref a],[]⟩) (fun r s'=>r=.ok (.ret (.bool true))/\OldK s₁.heap s'.heap/\s'.os=s₁.os/\AllBare s'.gens) s₁:=by
  intro H hO hS hok hA hK
  have base_of:∀ {b} {o},s₁.heap.get? b=some o->H b=none->(hidT s₁.heap H).get? b=some o:=fun e n=>hidT_get e n
  have noA:∀ {b} {o} {es} {ep},s₁.heap.get? b=some o->o.data=.dict es ep->H b=none:=fun {b o es ep} e d=>by
   cases q:H b with
   | none=>rfl
   | some u=>grind
  have nsK:∀ {b} {m},s₁.heap.Ns b m->(hidT s₁.heap H).Ns b m:=fun {b m} ⟨o,es,ep,e,d,r⟩=>⟨o,es,ep,base_of e (noA e d),d,r⟩
  have hKb:=fun b o e=>base_of (KX b o e) (by
   cases q:H b with
   | none=>rfl
   | some u =>
    have e':=hA b (by rw [q];simp)
    subst e'
    rw [hK (by lia)] at e;cases e)
  have hM:Mod K mg (hidT s₁.heap H):=⟨hKb,nsK hns,⟨mb,nsK hb,hbb⟩,let ⟨mc,h1,h2⟩:=hlim;⟨mc,nsK h1,h2⟩⟩
  have e0:Env0 P w K mg _ callerA [] s₁ H:=⟨rfl,hM,fun b o e=>of_hidT e,Nat.le_of_eq (hidT_size _ _),trivial,fun b hb=>absurd (show b∈([]:List Addr) from hb) (by simp),hok,.of_eq hg⟩
  refine codeAny_mono ((F _ hKb (nsK hns)).run callerA [] s₁ H _ [.ref a] [.ref a] _ _ hr e0 (hbind s₁ _) (.cons rfl .nil) (hsp H hO hS)) fun r s' h=>?_
  cases r with
  | error e=>exact (hCX H e s' h).elim
  | ok fl =>
   cases fl with
   | next=>exact False.elim h
   | brk=>exact False.elim h
   | cont=>exact False.elim h
   | ret u =>
    obtain ⟨v,H',os,bare,un,hok',r',q⟩:=h
    subst q
    obtain rfl:u=Value.bool true:=r'
    refine ⟨rfl,OldK.of_keep fun b o e=>?_,os,bare⟩
    cases q:H b with
    | none=>exact un.keep b o e q (by intro z;exact absurd (show b∈([]:List Addr) from z) (by simp)) (by simp)
    | some u =>
     rcases hO b with z | ⟨ob,xs,z⟩
     ·grind
     ·have z2:=un.frzs b ob _ z
      obtain ⟨e1,_⟩:=hok b _ z
      obtain ⟨e2,_⟩:=hok' b _ z2
      grind
 cases hk:K.lookup a with
 | some o =>
  have e:=KX a o hk
  rw [ha] at e
  cases e
  refine core (fun _=>none) (fun _=>.inl rfl) (.inr ⟨vs.toArray,_,hk,by rw [List.size_toArray,hi.length];exact hl,by simpa using rv⟩) (fun b u z=>by have z':(none)=some u:=z;cases z') (fun b z=>absurd rfl z) fun z=>absurd rfl z
 | none =>
  refine core (fun b=>if b=a then some (.frz { cls:=.type "list",data:=.seq vs.toArray } (.lst (ns.map V.int))) else none) (fun b=>?_) (.inl (.inr ⟨{ cls:=.type "list",data:=.seq vs.toArray },if_pos rfl⟩)) (fun b u z=>?_) (fun b z=>?_) fun _=>hk
  ·by_cases hb:b=a
   ·exact .inr ⟨_,_,if_pos hb⟩
   ·exact .inl (if_neg hb)
  ·by_cases hb:b=a
   ·have z':=(if_pos hb).symm.trans z
    cases z'
    subst hb
    exact ⟨ha,by rw [List.length_map];exact hl,vs,_,rv,ha⟩
   ·have z':=(if_neg hb).symm.trans z
    cases z'
  ·by_cases hb:b=a
   ·exact hb
   ·exact absurd (if_neg hb) z
@[elab_as_elim] theorem len1 {P:List Value->Prop} us (e:us.length=1) (h:∀ a,P [a]):P us:=by
 cases us with
 | nil=>cases e
 | cons a us=>cases List.eq_nil_of_length_eq_zero (Nat.succ.inj e);exact h a
@[elab_as_elim] theorem len2 {P:List Value->Prop} us (e:us.length=2) (h:∀ a b,P [a,b]):P us:=by
 cases us with
 | nil=>cases e
 | cons a us=>exact len1 us (Nat.succ.inj e) fun b=>h a b
@[elab_as_elim] theorem len3 {P:List Value->Prop} us (e:us.length=3) (h:∀ a b c,P [a,b,c]):P us:=by
 cases us with
 | nil=>cases e
 | cons a us=>exact len2 us (Nat.succ.inj e) fun b c=>h a b c
@[elab_as_elim] theorem len4 {P:List Value->Prop} us (e:us.length=4) (h:∀ a b c d,P [a,b,c,d]):P us:=by
 cases us with
 | nil=>cases e
 | cons a us=>exact len3 us (Nat.succ.inj e) fun b c d=>h a b c d
@[elab_as_elim] theorem len5 {P:List Value->Prop} us (e:us.length=5) (h:∀ a b c d f,P [a,b,c,d,f]):P us:=by
 cases us with
 | nil=>cases e
 | cons a us=>exact len4 us (Nat.succ.inj e) fun b c d f=>h a b c d f
@[elab_as_elim] theorem len6 {P:List Value->Prop} (us:List Value) (e:us.length=6) (h:∀ a b c d f g,P [a,b,c,d,f,g]):P us:=by
 cases us with
 | nil=>cases e
 | cons a us=>exact len5 (P:=fun l=>P (a :: l)) us (Nat.succ.inj e) fun b c d f g=>h a b c d f g
theorem script_rep {K} {H} {g}:∀ (ns:List Int),RepA K H g (ns.map D.int) (ns.map V.int) []
 | []=>⟨rfl,rfl⟩
 | n :: ns=>by
  unfold RepA
  exact ⟨_,_,[],[],rfl,rfl,rep_int,script_rep ns⟩
theorem law_sp {K} {mg} {f} {H} {a} {ns:List Int} (h:∃ E o,f [(.no,.lst (ns.map D.int))]=some (.ok E (o,.bl true))) (hs:LsR K H a (ns.map V.int)) (hO:Only H) :
  spF K mg 1 f [.ref a] H (fun v _=>v=.bl true) fun _ _ _=>False:=by
 obtain ⟨E,o,h⟩:=h
 have key:∃ as,RepL K H true (.lst (ns.map D.int)) (.ref a) as/\(∀ b∈as,False):=by
  rcases hs with (hs | ⟨ob,hs⟩) | hs
  ·rcases hO a with z | ⟨_,_,z⟩<;>(rw [hs] at z;cases z)
  ·exact ⟨[],(⟨a,ns.map V.int,[],rfl,script_rep ns,.inr ⟨rfl,.inl ⟨ob,hs⟩,rfl⟩⟩),fun b hb=>nomatch hb⟩
  ·exact ⟨[],(⟨a,ns.map V.int,[],rfl,script_rep ns,.inr ⟨rfl,.inr hs,rfl⟩⟩),fun b hb=>nomatch hb⟩
 obtain ⟨as,r,hn⟩:=key
 refine ⟨[⟨.no,.lst _,.ref a,as⟩],_,rfl,rfl,?_,h,(fun E' c z=>by cases z),fun E' s z x H' e1 e2 w' st=>?_⟩
 ·exact ⟨fun x hx=>by rw [Option.some.inj (List.mem_singleton.mp hx)];exact r,by simp [Sl.own],fun b hb=>by simp [Sl.own] at hb⟩
 ·injection z with z1 z2
  subst z2
  exact of_bl w'.head e2
section
open PySem.W PySem.Calls
theorem walkQ {l:OpenLaw} {n k} {q} {loose} {XP} {YP} {d} {K:Params->Frag} {f} {x}
  (hn:l.most=some n) (hn2:n<=sizeLine) (hdf:d.params.defaults=[]) (hr:Room k callerA)
  (hY:∀ w (h),YP w h->(K w.params).In h)
  (F:∀ w (mg) (fa) (h),(K w.params).In h->h.Ns mainGlobals mg->mg d.name=some (.ref fa) ->
   ∃ fd,(∀ s (u),BindsTo s fd ⟨[u],[]⟩ [(x,u)])/\∀ base,(K w.params).In base->base.Ns mainGlobals mg->FnOk l.prog w (K w.params) mg base (CXE l.prog w) k fa fd [x] (spF (K w.params) mg 1 f))
  (hsp:∀ (ns:List Int),ns.length<=n->(∀ i∈ns,Builtin.Int.intBits i<=1048576)->∃ E o,f [(.no,.lst (ns.map D.int))]=some (.ok E (o,.bl true))) :
  WalkO q loose XP YP l.row.toRowW d [] (fun f vs=>PySem.call f vs):=by
 intro w s0 s1 mg mb G Y fa o pm cd doc dV kV ho hd hcd hD hmg hg args vals as hpre hlay hrd hwl hlo
 obtain ⟨a,vs,ns,rfl,rfl,hobj,hints,hlen⟩:=Att.script_of hn hpre hwl
 have KX:=hY w _ Y
 obtain ⟨fd,hb,hF⟩:=F w mg fa _ KX G.T.g hmg
 refine enter_call (codeAny_mono (law_callQ KX G.T.g G.T.b G.T.builtins G.T.nolimit hg hobj hints (Nat.le_trans hlen hn2) hr hF hb (fun H hO hS=>law_sp (hsp ns hlen (bits_of_lay hlay)) hS hO) (fun _ _ _ ⟨_,_,_,_,_,_,_,_,_,_,_,_,_,_,_,z⟩=>z)) fun r s' hq=>?_)
 obtain ⟨rfl,h2,h3,h4⟩:=hq
 exact ⟨.inl ⟨.bool true,.bool true,[],rfl,fun _=>rfl,.bool true,Att.post_true l _,fun _=>⟨List.Pairwise.nil,fun _ hm=>(nomatch hm)⟩⟩,h2,h3,h4⟩
end
end Q
noncomputable section
namespace Q
open PySem PySem.Spec PyProof.Rows L2 L3
section
variable {P:Program} {w:PySem.World} {K:PySem.W.Frag} {mg:Str->Option Value} {base h:Heap} {x:Str} {st:Stmt} {ps:List Str} {k:Nat} {sp:Sp}
noncomputable def Gf (K:PySem.W.Frag) (x:Str) (st:Stmt):Prop:=∃ (f:Addr) (oc:Value) (od:Option Addr) (kV dc pm:Value) (an:Option Addr) (cd ct:Value) (sl:Array (Option Value)),PySem.W.nsIn K mainGlobals x=some (some (.ref f))/\K.lookup f=some ⟨oc,od,.func (PySem.W.fnOf x x (defArgs st) (defBody st) (defScope st) .none kV dc pm an cd ct),sl⟩/\PySem.W.codeIn K cd x=true/\PySem.W.keepIn K (.ref f)=true
theorem Gf.mk {f} {oc} {od} {kV dc pm} {an} {cd ct} {sl} (a:PySem.W.nsIn K mainGlobals x=some (some (.ref f))) (l:K.lookup f=some ⟨oc,od,.func (PySem.W.fnOf x x (defArgs st) (defBody st) (defScope st) .none kV dc pm an cd ct),sl⟩) (c:PySem.W.codeIn K cd x=true) (k:PySem.W.keepIn K (.ref f)=true):Gf K x st:=⟨f,oc,od,kV,dc,pm,an,cd,ct,sl,a,l,c,k⟩
theorem Gf.d (g:Gf K x st) (X:K.In h) (G:h.Ns mainGlobals mg) (ok:∀ {f:Addr} {fd:FuncData},Fun K x x st f fd->FnOk P w K mg base (CXE P w) k f fd ps sp)
  (hb:∀ (kV doc pm:Value) (an:Option Addr) (cdv ct:Value) (us:List Value),us.length=ps.length->bindArgs (PySem.W.fnOf x x (defArgs st) (defBody st) (defScope st) .none kV doc pm an cdv ct) ⟨us,[]⟩=pure (ps.zip us):=by
   intro _ _ _ _ _ _ us hl
   first
   | exact len1 us hl fun _=>rfl
   | exact len2 us hl fun _ _=>rfl
   | exact len3 us hl fun _ _ _=>rfl
   | exact len4 us hl fun _ _ _ _=>rfl
   | exact len5 us hl fun _ _ _ _ _=>rfl
   | exact len6 us hl fun _ _ _ _ _ _=>rfl):DefE P w K mg base k x ps sp:=by
 obtain ⟨f,oc,od,kV,dc,pm,an,cd,ct,sl,a,l,c,kp⟩:=g
 exact ⟨f,_,ok (fun_mk l c kp),(fun_mk l c kp).binds hb,kp,PySem.W.mg_of X G a⟩
theorem Gf.law {fa:Addr} {y:Str} (g:Gf K "law" st) (X:K.In h) (G:h.Ns mainGlobals mg) (hfa:mg "law"=some (.ref fa)) (ok:∀ {base:Heap} {f:Addr} {fd:FuncData},Fun K "law" "law" st f fd->FnOk P w K mg base (CXE P w) k f fd [y] sp)
  (hb:∀ (kV doc pm:Value) (an:Option Addr) (cdv ct:Value) (s:Shared) (v:Value),BindsTo s (PySem.W.fnOf "law" "law" (defArgs st) (defBody st) (defScope st) .none kV doc pm an cdv ct) ⟨[v],[]⟩ [(y,v)]:=by
   intros
   exact .of_eq rfl) :
  ∃ fd:FuncData,(∀ (s:Shared) (v:Value),BindsTo s fd ⟨[v],[]⟩ [(y,v)])/\∀ base:Heap,K.In base->base.Ns mainGlobals mg->FnOk P w K mg base (CXE P w) k fa fd [y] sp:=by
 obtain ⟨f,oc,od,kV,dc,pm,an,cd,ct,sl,a,l,c,kp⟩:=g
 have e:=hfa.symm.trans (PySem.W.mg_of X G a)
 cases e
 exact ⟨_,hb kV dc pm an cd ct,fun base _ _=>ok (fun_mk l c kp)⟩
end
end Q
namespace Q
open PySem L2
theorem mkS {N P} {sc} (h1:sc.kind=.function:=by rfl) (h2:sc.isCoroutine=false:=by rfl) (h3:sc.isGenerator=false:=by rfl) (h4:N.Nodup:=by decide +kernel) (h5:N.take P.length=P:=by rfl) (h6:∀ x∈P,sc.names.lookup x=some .local\/sc.names.lookup x=some .cell:=by decide +kernel) (h7:∀ y∈sc.names,y.2≠.free:=by decide +kernel):FnScope N P sc:=⟨h1,h2,h3,h4,h5,h6,h7⟩
end Q
noncomputable section
namespace Q
open PySem PySem.Spec PyProof.Rows L2 L3
section
variable {X:Cx} {Z:Fx0} {pn:List Nat} {q qa:Bool} {a b c:Ex} {e ea eb:Expr} {pos p:Pos}
theorem kI {z} {j}:QE X Z true (cC (.int z)) (.Constant (.int z) j p):=q_C pe_int fun _=>rep_int
theorem ki {z} {j}:QV X Z true (vE (cC (.int z))) (.Constant (.int z) j p):=q_vE kI
theorem kN {j}:QE X Z true (cC .non) (.Constant .none j p):=q_C pe_non fun _=>rep_non
theorem kn {j}:QV X Z true (vE (cC .non)) (.Constant .none j p):=q_vE kN
theorem kS {z} {j} (h:z.length<=sizeLine:=by decide):QE X Z true (cC (.str z)) (.Constant (.str z) j p):=q_C pe_str fun _=>rep_str h
theorem vv (i:Nat) {x:Str} (hN:X.N[i]?=some x:=by rfl) (hv:Vis X.env.scope x:=by first | exact Or.inl rfl | exact Or.inr (Or.inl rfl) | exact Or.inr (Or.inr rfl)) (hd:(x == ("__debug__":Str))=false:=by decide)
  (hcd:(x == ("__classdict__":Str))=false:=by decide):QV X Z true (vV i) (.Name x pos):=q_vV (pv i hN hv hd hcd)
theorem cv (i:Nat) {x:Str} (hN:X.N[i]?=some x:=by rfl) (hv:Vis X.env.scope x:=by first | exact Or.inl rfl | exact Or.inr (Or.inl rfl) | exact Or.inr (Or.inr rfl)) (hd:(x == ("__debug__":Str))=false:=by decide)
  (hcd:(x == ("__classdict__":Str))=false:=by decide):QE X Z true (cV i) (.Name x pos):=q_V (pv i hN hv hd hcd)
theorem kx (ha:QV X Z qa a ea) (hb:QV X Z true b eb) (hs:PlainIx eb:=by exact fun _ _=>rfl) (hK:X.K=Z.K:=by rfl):QV X Z qa (vIxQ a b) (.Subscript ea eb pos):=q_ix ha hb hs hK
theorem qA {i} {y} {pos'} (hN:X.N.Nodup) (h:QE X Z q a ea) (hi:X.N[i]?=some y:=by rfl) (hx:Loc X.env.scope y:=by first | exact Or.inl rfl | exact Or.inr rfl) (hp:i∉pn:=by decide) (hs:swapsWith ea (some (.Name y pos')) pos.line X.env=pure false:=by rfl) (hf:X.fn y=true\/X.env.scope.names.lookup y=some .local:=by first | exact .inl rfl | exact .inr rfl | assumption) :
  QS X Z pn (sAsg i a) (.Assign [.Name y pos'] ea pos):=q_asg hN hi hx h hp hs hf
theorem gn {i} {x} (hN:X.N.Nodup) (hi:X.N[i]?=some x:=by rfl) (hx:Loc X.env.scope x:=by first | exact Or.inl rfl | exact Or.inr rfl) (hf:X.fn x=true\/X.env.scope.names.lookup x=some .local:=by first | exact .inl rfl | exact .inr rfl | assumption):PG X (.Name x pos) (gName i):=pg_name hN hi hx hf
theorem gN {i} {x} (hN:X.N.Nodup) (hi:X.N[i]?=some x:=by rfl) (hx:Loc X.env.scope x:=by first | exact Or.inl rfl | exact Or.inr rfl) (hf:X.fn x=true\/X.env.scope.names.lookup x=some .local:=by first | exact .inl rfl | exact .inr rfl | assumption) (hp:i∉pn:=by decide):QG X Z pn (.n i) (.Name x pos):=q_gN (pg_name hN hi hx hf) hp
theorem qC {k m n} {x} {ps} {f} {cs} {es} (D:DefE X.prog X.w X.K X.mg X.base k x ps (spF Z.K Z.mg n f)) (hr:Room m X.A) (ha:QA X Z q cs (e :: es)) (g:Goes X Z.EX:=by exact goes_wish) (hle:k<=m:=by decide) (hn:cs.length=n:=by rfl) (hg:Gl X x:=by rfl) (hdb:(x == ("__debug__":Str))=false:=by decide)
  (he:starEach (e :: es) X.env=(false,eval e X.env) :: starEach es X.env:=by rfl) (hpl:(backTo pos (starEach es X.env)).any (·.1)=false:=by rfl) :
  QE X Z q (cCall f cs) (.Call (.Name x p) (e :: es) [] pos):=q_call D (hr.mono hle) g ha hn hg hdb he hpl
theorem qF {tg iter:Expr} {ss:List Stmt} {it:Ev (List D)} {t:Tg} {B:Sm} (hi:QI X Z q tg it iter) (hg:QG X Z pn t tg) (hb:QSs X Z pn B ss) (hp:PassesOwn (model X.prog X.w) X.A X.env X.xe:=by exact own_X ⟨_,_,rfl,rfl⟩) (hc:X.calm=true:=by rfl) (hs:∀ x,foldedSetIterable iter X.env x=pure x:=by intro _;rfl):QS X Z pn (sFor it t B) (.For tg iter ss [] pos):=q_for hp hc hi hg hb hs
theorem oA (ha:QV X Z qa a ea) (hb:QV X Z true b eb) (hK:X.K=Z.K:=by rfl):QE X Z qa (cF2 fAdd a b) (.BinOp ea .Add eb pos):=q_op (opAddQ hK) ad_add ha hb
theorem oX (ha:QV X Z qa a ea) (hb:QV X Z true b eb) (hK:X.K=Z.K:=by rfl):QE X Z qa (cF2 fMulT a b) (.BinOp ea .Mult eb pos):=q_op (opMulT hK) ad_mulT ha hb
theorem oM (ha:QV X Z qa a ea) (hb:QV X Z true b eb):QE X Z qa (cF2 (pu2 fMod) a b) (.BinOp ea .Mod eb pos):=q_op op_mod ad_mod ha hb
theorem qP {i:Nat} {x:Str} {apos cpos xp:Pos} (h:QE X Z q c e) (hN:X.N[i]?=some x:=by rfl) (hv:Vis X.env.scope x:=by first | exact Or.inl rfl | exact Or.inr (Or.inl rfl) | exact Or.inr (Or.inr rfl)) (hd:(x == ("__debug__":Str))=false:=by decide)
  (hcd:(x == ("__classdict__":Str))=false:=by decide) (hbase:attributeBase (.Name x xp) "append" X.env (eval (.Name x xp) X.env)=eval (.Name x xp) X.env:=by rfl)
  (hfew:((backTo cpos (starEach [e] X.env)).all (fun x=>!x.1) && (backToKw cpos (keywordEach [] X.env)).all (fun x=>x.1.isSome)
   && decide ([e].length + ([]:List Keyword).length + (if ([]:List Keyword).isEmpty then 0 else 1) < 30))=true:=by rfl)
  (hline:(apos.endLine == cpos.line)=true:=by rfl) (hs:starEach [e] X.env=(false,eval e X.env) :: starEach [] X.env:=by rfl) (hplain:(backTo cpos (starEach [] X.env)).any (·.1)=false:=by rfl) (hK:X.K=Z.K:=by rfl)
  (hsw:swapsWith (.Call (.Attribute (.Name x xp) "append" apos) [e] [] cpos) none pos.line X.env=pure false:=by rfl) :
  QS X Z pn (sMut1 gApp i c) (.Expr (.Call (.Attribute (.Name x xp) "append" apos) [e] [] cpos) pos):=q_app (pe_bmK Z.K PySem.F.plainAttrs_list PySem.F.slot_list_append PySem.F.type_list_append mt_append (pv i hN hv hd hcd) (pa_cons h pa_nil hs) hbase hfew hline hs hplain hK) hsw
theorem qL (ha:QV X Z q a ea) (hm:X.mg "len"=none) (hK:X.K=Z.K:=by rfl) (hg:Gl X "len":=by rfl) (he:starEach [ea] X.env=(false,eval ea X.env) :: starEach [] X.env:=by rfl) (hpl:(backTo pos (starEach [] X.env)).any (·.1)=false:=by rfl):QE X Z q (cF1 (pu1 fLen) a) (.Call (.Name "len" p) [ea] [] pos):=q_b1 (hK▸callLen X.K) ad_len ha hm bt_len hg (by decide) (by decide) he hpl
theorem qT (ha:QV X Z q a ea) (hm:X.mg "tuple"=none) (hK:X.K=Z.K:=by rfl) (hg:Gl X "tuple":=by rfl) (he:starEach [ea] X.env=(false,eval ea X.env) :: starEach [] X.env:=by rfl) (hpl:(backTo pos (starEach [] X.env)).any (·.1)=false:=by rfl):QE X Z q (cF1 fTuple a) (.Call (.Name "tuple" p) [ea] [] pos):=q_y1 (callTuple hK) ad_tuple ha hm bt_tuple hg (by decide) (by decide) he hpl
variable {iter elt tg:Expr} {ifs:List Expr} {scope:Scope} {it:Ev (List D)} {tt:Tg} {u:Ts}
theorem qm (o:Own) (k:Nat) (R:List Nat) (m:Nat) (N:List Str) (hi:QI X Z q tg it iter)
  (hg:N.Nodup->∀ cl C s0 H0 fp,QG (lcE X scope N cl C s0 H0 fp Z.EX) Z ((List.range R.length).map (k + ·)) tt tg) (ht:∀ cl C s0 H0 fp,PTs (lcE X scope N cl C s0 H0 fp Z.EX) ifs (tT Z q u)) (he:∀ cl C s0 H0 fp,QE (lcE X scope N cl C s0 H0 fp Z.EX) Z q c elt)
  (hN:N.Nodup:=by decide +kernel) (gx:Goes X Z.EX:=by exact goes_wish) (top:TopX X:=by exact ⟨_,_,rfl,rfl⟩) (hR:R.Nodup:=by decide) (hm:X.N.length=m:=by rfl) (hr:∀ j∈R,j < m:=by decide) (hc:X.calm=true:=by rfl) (hk:scope.kind=.function:=by rfl) (hsc:lcChk X.N X.env.scope scope N k R=true:=by rfl) (hs:∀ x,foldedSetIterable iter X.env x=pure x:=by intro _;rfl) :
  QE X Z q (cLC o k R it tt u c) (.ListComp elt [⟨tg,iter,ifs,0⟩] scope pos):=q_lc N hi (hg hN) ht he gx top hR (hm▸hr) hc hk hsc hs
theorem qM {x:Str} {p':Pos} (o:Own) (k:Nat) (R:List Nat) (m:Nat) (N:List Str) (hi:QI X Z q (.Name x p') it iter) (he:∀ cl C s0 H0 fp,QE (lcE X scope N cl C s0 H0 fp Z.EX) Z q c elt)
  (hN:N.Nodup:=by decide +kernel) (gx:Goes X Z.EX:=by exact goes_wish) (top:TopX X:=by exact ⟨_,_,rfl,rfl⟩) (hR:R.Nodup:=by decide) (hm:X.N.length=m:=by rfl) (hr:∀ j∈R,j < m:=by decide) (hc:X.calm=true:=by rfl) (hk:scope.kind=.function:=by rfl) (hsc:lcChk X.N X.env.scope scope N k R=true:=by rfl) (hs:∀ x,foldedSetIterable iter X.env x=pure x:=by intro _;rfl)
  (hg:N.Nodup->∀ cl C s0 H0 fp,QG (lcE X scope N cl C s0 H0 fp Z.EX) Z ((List.range R.length).map (k + ·)) (.n 0) (.Name x p'):=by exact fun h _ _ _ _ _=>q_gN (pg_name (i:=0) h rfl (by first | exact Or.inl rfl | exact Or.inr rfl))) :
  QE X Z q (cLC o k R it (.n 0) tYes c) (.ListComp elt [⟨.Name x p',iter,[],0⟩] scope pos):=q_lc N hi (hg hN) (fun _ _ _ _ _=>q_ts0) he gx top hR (hm▸hr) hc hk hsc hs
end
end Q
noncomputable section
noncomputable section
noncomputable section
noncomputable section
noncomputable section
noncomputable section
noncomputable section
namespace Q
noncomputable def ddI (ss:List Int):List Int:=ss.foldl (fun l k=>if l.any (· == k) then l else l++[k]) []
noncomputable def cCallW (f:Fn) (cs:List Ex):Ex:=fun E=>bnd (cArgs cs E) fun E xs=>match f (letAll xs) with
 | some (.ok _ y)=>if y.1=.dp then some (.ok E y) else none
 | some (.exc _ c)=>some (.exc E c)
 | none=>none
end Q
namespace Q
open PySem PySem.Spec PyProof.Rows L2 L3
section
variable {X:Cx} {Z:Fx0} {K:PySem.W.Frag} {q:Bool} {a:Ex} {e ea:Expr} {σ:L2.St} {H:Hp} {pos p p2 pos2:Pos} {x y:Str} {pins:List (Addr×Obj)} {s:Shared}
theorem fm_is (ns:List Int):∀ i,i<=ns.length->firstMet (fun i=>ns.getD i 0) i=(ns.take i).foldl step_dedup []
 | 0,_=>rfl
 | i + 1,h=>by
  rw [firstMet_succ,fm_is ns i (Nat.le_of_succ_le h),List.take_succ,List.foldl_append,List.getD_eq_getElem?_getD,List.getElem?_eq_getElem h]
  rfl
end
end Q
namespace Q
open PySem PySem.Spec PyProof.Rows L2 L3
section
variable {X:Cx} {Z:Fx0} {K:PySem.W.Frag} {pn:List Nat} {q qa qb:Bool} {a b c:Ex} {u:Ts} {tg e ea eb:Expr} {st:Stmt} {σ:L2.St} {H:Hp} {L:Ls} {E:En} {pos p p2:Pos} {x:Str}
theorem q_callW {k n:Nat} {ps:List Str} {f:Fn} {cs:List Ex} {es:List Expr} (D:DefE X.prog X.w X.K X.mg X.base k x ps (spF Z.K Z.mg n f)) (hr:Room k X.A) (g:Goes X Z.EX) (ha:QAV X Z cs (e :: es)) (hn:cs.length=n:=by rfl) (hg:Gl X x:=by rfl) (hdb:(x == ("__debug__":Str))=false:=by decide)
  (he:starEach (e :: es) X.env=(false,eval e X.env) :: starEach es X.env:=by rfl) (hpl:(backTo pos (starEach es X.env)).any (·.1)=false:=by rfl) :
  QE X Z true (cCallW f cs) (.Call (.Name x p) (e :: es) [] pos):=pe_imp (pe_fnE D hr g ha hg hdb he hpl) fun σ H Q h_z=>ex8 h_z fun E L r m w hc xc kk=>by
 have hc:bnd (cArgs cs E) _=some r:=hc
 rcases bnd_cases hc with ⟨E1,ys,h1,h2⟩ | ⟨E1,cc,h1,h2⟩
 rotate_left
 ·exact ⟨E,L,_,m,w,h1,xc.map h2,fun E' s' z=>by cases z⟩
 refine ⟨E,L,_,m,w,h1,(fun _ _ z=>by cases z),fun E' ys' z xs L1 H1 e1 m1 w1 ok1 st sm=>?_⟩
 injection z with z1 z2
 subst z1 z2
 rw [List.append_nil]
 have hlen:xs.length=n:=by rw [← hn,← cArgs_len h1,← e1,List.length_map]
 cases hf:f (letAll ys) with
 | none=>rw [hf] at h2;cases h2
 | some fr =>
  rw [hf] at h2
  have ev:xs.map Sl.v=(xs.map Sl.let).map Sl.v:=by rw [List.map_map];rfl
  have wl:World Z.K H1 ((xs.map Sl.let).map some):=by
   refine ⟨fun y hy=>?_,by rw [owned_lets];exact List.nodup_nil,fun a ha=>by rw [owned_lets] at ha;exact nomatch ha⟩
   obtain ⟨y',hy',e⟩:=List.mem_map.mp hy
   cases e
   obtain ⟨t,ht,rfl⟩:=List.mem_map.mp hy'
   exact let_ok (ok1 t ht)
  rw [ev]
  refine ⟨xs.map Sl.let,fr,rfl,by rw [List.length_map];exact hlen,wl,by rw [← e1] at hf;rw [lets_sd];exact hf,fun E' c ee C H' hm s'=>?_,fun E' a ee y H' e2 e3 w' s'=>?_⟩
  ·subst ee
   cases Option.some.inj h2
   have sm1:Same H1 H':=fun b ob hb=>s'.keep b ob hb fun z=>by rw [owned_lets] at z;exact nomatch z
   exact xc _ _ rfl C L1 H' hm m1 ⟨fun y hy=>RepO.kp (w1.ok y hy) (Kp.of_same sm1),w1.nd,w1.ds⟩ (st.trans ⟨fun b ob hb _=>sm1 b ob hb,fun _ h=>.inl h,fun _ h=>.inl h⟩)
  ·subst ee
   dsimp only at h2
   split at h2
   ·rename_i hp
    cases Option.some.inj h2
    have sm1:Same H1 H':=fun b ob hb=>s'.keep b ob hb fun z=>by rw [owned_lets] at z;exact nomatch z
    have w2:World Z.K H' L1:=⟨fun y hy=>RepO.kp (w1.ok y hy) (Kp.of_same sm1),w1.nd,w1.ds⟩
    have hyo:y.o=.dp:=e2.trans hp
    have nw:∀ b∈y.own,H1 b=none:=fun b hb=>by
     rcases s'.own b (by rw [owned_some];exact List.mem_append_left _ hb) with z | z
     ·rw [owned_lets] at z;exact nomatch z
     ·exact z
    have fz:y.frz=[]:=by unfold Sl.frz;rw [hyo]
    have nd:y.own.Nodup:=by have:=w'.nd;rw [owned_some,owned_nil,List.append_nil] at this;exact this
    have st2:Step H L H' L1:=st.trans ⟨fun b ob hb _=>sm1 b ob hb,fun _ h=>.inl h,fun _ h=>.inl h⟩
    have w3:World Z.K H' (some y :: L1):=w2.cons (w'.ok y List.mem_cons_self) nd (fun b hb hL=>w1.own_some hL (nw b hb)) (fun b hb hL=>w1.frz_some hL (nw b hb)) (fun b hb=>by rw [fz] at hb;cases hb) (fun b hb hL=>by rw [fz] at hL;cases hL)
    have none0:∀ b∈y.own,H b=none:=fun b hb=>none_back sm (nw b hb)
    refine kk _ _ rfl y L1 H' e2 e3 m1 w3 ⟨st2.keep,fun b hb=>?_,fun b hb=>?_⟩ fun _=>⟨same_trans sm sm1,fun b hb=>none0 b hb⟩
    ·rw [owned_some] at hb
     rcases List.mem_append.mp hb with hb | hb
     ·exact .inr (none0 b hb)
     ·exact st2.own b hb
    ·rw [frozen_some,fz] at hb
     exact st2.frz b hb
   ·cases h2
end
end Q
noncomputable section
noncomputable section
noncomputable section
noncomputable section
noncomputable section
noncomputable section
noncomputable section
noncomputable section
noncomputable section
noncomputable section
noncomputable section
noncomputable section
noncomputable section
noncomputable section
noncomputable section
noncomputable section
noncomputable section
noncomputable section
noncomputable section
noncomputable section
noncomputable section
noncomputable section
noncomputable section
noncomputable section
namespace Q
open PySem PySem.Spec PyProof.Rows L2 L3
@[irreducible] noncomputable def ShE (X:Cx) (Z:Fx0) (q:Bool) (c:Ex) (e:Expr):Prop:=QE X Z q c e
@[irreducible] noncomputable def ShA (X:Cx) (Z:Fx0) (q:Bool) (cs:List Ex) (es:List Expr):Prop:=QA X Z q cs es
@[irreducible] noncomputable def ShS (X:Cx) (Z:Fx0) (pn:List Nat) (c:Sm) (st:Stmt):Prop:=QS X Z pn c st
@[irreducible] noncomputable def ShB (X:Cx) (Z:Fx0) (pn:List Nat) (c:Sm) (ss:List Stmt):Prop:=QSs X Z pn c ss
end Q
noncomputable section
noncomputable section
noncomputable section
noncomputable section
noncomputable section
noncomputable section
noncomputable section
noncomputable section
noncomputable section
noncomputable section
noncomputable section
noncomputable section
noncomputable section
namespace Tl
open Q
mutual
noncomputable def ltD:D->D->Option Bool
 | .int i,.int j=>some (decide (i < j))
 | .str x,.str y=>some (decide (x.cps.toList < y.cps.toList))
 | .tup xs,.tup ys=>ltDs xs ys
 | _,_=>none
noncomputable def ltDs:List D->List D->Option Bool
 | [],[]=>some false
 | [],_ :: _=>some true
 | _ :: _,[]=>some false
 | a :: x,b :: y=>if a=b then ltDs x y else ltD a b
end
end Tl
noncomputable section
namespace Tl
open PySem PyProof.Rows SeqAt
noncomputable def LtAt (A:Around) (s:Shared) (y x:Value) (b:Bool):Prop :=
 ∀ (prog:Program) (w:World) (E:Value->Shared->Prop) (Q:Value->Shared->Prop),Q (.bool b) s->wpAny (model prog w) A (richCompare .Lt y x) Q E s
inductive Lx (A:Around) (s:Shared):List Value->List Value->Bool->Prop
 | nn:Lx A s [] [] false
 | nc (y:Value) (ys:List Value):Lx A s [] (y :: ys) true
 | cn (x:Value) (xs:List Value):Lx A s (x :: xs) [] false
 | eq {x y:Value} {xs ys:List Value} {b:Bool}:EqAt A s x y true->Lx A s xs ys b->Lx A s (x :: xs) (y :: ys) b
 | lt {x y:Value} {xs ys:List Value} {b:Bool}:EqAt A s x y false->LtAt A s x y b->Lx A s (x :: xs) (y :: ys) b
theorem lx_loop {prog:Program} {w:World} {A:Around} {s:Shared} {E:Value->Shared->Prop} {xs ys:List Value} {k:Bool} (h:Lx A s xs ys k):∀ {R:Option Fin×Unit->Shared->Prop},(R (some (.done (.ret (.bool k))),()) s)->(k=decide (xs.length < ys.length)->R (none,()) s) ->
  wpAny (model prog w) A (forIn (xs.zip ys) ((none,()):Option Fin×Unit) fun x __s=>do
      let __do_lift ← eqBool x.fst x.snd
      if (!__do_lift)=true then do
        PySem.rule "tuple.compare.by-the-first-pair-that-differs"
        let __do_lift ← richCompare CmpOp.Lt x.fst x.snd
        let __do_lift ← ret __do_lift
        pure (ForInStep.done (some __do_lift,()))
       else pure (ForInStep.yield (none,()))) R E s:=by
 induction h with
 | nn=>intro R h1 h2;exact wpAny_pure (h2 rfl)
 | nc y ys=>intro R h1 h2;exact wpAny_pure (h2 (by simp))
 | cn x xs=>intro R h1 h2;exact wpAny_pure (h2 (by simp))
 | eq he _ ih =>
  intro R h1 h2
  rw [List.zip_cons_cons,List.forIn_cons]
  refine wpAny_bind (wpAny_bind (he prog w _ _ ?_))
  refine wpAny_pure ?_
  exact ih h1 fun e=>h2 (by rw [e];simp)
 | lt he hl =>
  intro R h1 h2
  rw [List.zip_cons_cons,List.forIn_cons]
  refine wpAny_bind (wpAny_bind (he prog w _ _ ?_))
  refine wpAny_bind (wpAny_rule (wpAny_bind (hl prog w _ _ ?_)))
  exact wpAny_bind (wpAny_pure (wpAny_pure (wpAny_pure h1)))
theorem tuple_lt {prog:Program} {w:World} {A:Around} {s:Shared} {E:Value->Shared->Prop} {l b:Addr} {items items2:Array Value} {k:Bool} {Q:Value->Shared->Prop} (hl:s.heap.IsTuple l items) (hb:s.heap.IsTuple b items2) (h:Lx A s items.toList items2.toList k) (hq:Q (.bool k) s) :
  wpAny (model prog w) A (Builtin.«tuple.__lt__» ⟨[.ref l,.ref b],[]⟩) (fun fin s'=>∃ v,fin=.done (.ret v)/\Q v s') E s:=by
 have tyb:=hb.typeIs
 obtain ⟨ol,hol,hcl,nl,hdl⟩:=hl
 obtain ⟨ob,hob,hcb,nb,hdb⟩:=hb
 show wpAny _ _ (isInstance _ _ >>= _) _ _ _
 refine wpAny_bind (wpAny_isInstance tyb isSubtype_tuple_tuple ?_)
 refine wpAny_bind (wpAny_tupleItemsOf hol hdl (wpAny_bind (wpAny_tupleItemsOf hob hdb ?_)))
 refine wpAny_bind (lx_loop h ?_ fun e=>?_)
 ·exact wpAny_pure ⟨_,rfl,hq⟩
 ·refine wpAny_pure ⟨_,rfl,?_⟩
  have:Builtin.Tuple.tupleCompareSizes CmpOp.Lt items.size items2.size=.bool k:=by
   rw [e]
   rfl
  rw [this]
  exact hq
theorem lt_tuples {A:Around} {s:Shared} {l b:Addr} {items items2:Array Value} {k:Bool} (hl:s.heap.IsTuple l items) (hb:s.heap.IsTuple b items2) (hu:A.units < cLine) (h:Lx A.in1 s items.toList items2.toList k):LtAt A s (.ref l) (.ref b) k:=fun prog w E Q hq=>by
 have t1:=hl.typeIs
 have t2:=hb.typeIs
 exact richCompare_meets_room t1 t2 PySem.F.slot_tuple_lt PySem.F.entry_tuple_lt (PySem.F.args_tuple_lt_2 _ _)
  (Meets.of_wp (S:=fun A R s=>s.heap.IsTuple l items/\s.heap.IsTuple b items2/\Lx A.in1 s items.toList items2.toList k/\R _ s) fun prog w A R s hs=>tuple_lt hs.1 hs.2.1 hs.2.2.1 hs.2.2.2) ⟨hl,hb,h,⟨(fun x=>nomatch x),hq⟩⟩ hu
open Q
theorem lt_text {A:Around} {s:Shared} (x y:Str) (t u:Tok):LtAt A s (.str x t) (.str y u) (decide (x.cps.toList < y.cps.toList)):=fun prog w E Q h=>PyProof.Rows.lt_str h
theorem lt_int {A:Around} {s:Shared} (i j:Int) (t u:Tok):LtAt A s (.int i t) (.int j u) (decide (i < j)):=fun prog w E Q h=>wpAny_lt_int h
theorem lx_of {s:Shared} {A:Around} {n:Nat} (hu:A.units + 2 * n + 1 < cLine) (hlt:∀ (d d':D) (u w:Value) b,keyD n d=true->keyD n d'=true->CRep s.heap d u->CRep s.heap d' w->ltD d d'=some b->LtAt A s u w b):∀ (xs ys:List D) (us us':List Value) b,keyDs n xs=true->keyDs n ys=true->CReps s.heap xs us->CReps s.heap ys us'->ltDs xs ys=some b->Lx A s us us' b:=by
 intro xs
 induction xs<;>intro ys us us' b kx ky q1 q2 h<;>cases ys<;>unfold CReps at q1 q2<;>unfold ltDs at h
 ·cases h;subst q1 q2;exact .nn
 ·obtain ⟨u,r,rfl,_,_⟩:=q2
  cases h;subst q1;exact .nc _ _
 ·obtain ⟨u,r,rfl,_,_⟩:=q1
  cases h;subst q2;exact .cn _ _
 ·rename_i x xs ihx y ys
  obtain ⟨u,r,rfl,g1,g2⟩:=q1
  obtain ⟨u',r',rfl,g3,g4⟩:=q2
  unfold keyDs at kx ky
  rw [Bool.and_eq_true] at kx ky
  have he:=eqAt_C n (A:=A) (key_flat kx.1) g1 g3 (by lia)
  rw [key_peq kx.1 ky.1] at he
  by_cases e:x=y
  ·rw [if_pos e] at h
   rw [decide_eq_true e] at he
   exact .eq he (ihx ys r r' b kx.2 ky.2 g2 g4 h)
  ·rw [if_neg e] at h
   rw [decide_eq_false e] at he
   exact .lt he (hlt _ _ _ _ _ kx.1 ky.1 g1 g3 h)
theorem lt_C {s : Shared} : ∀ n {d d' : D} {u w : Value} {A : Around} {b : Bool}, keyD n d = true → keyD n d' = true → CRep s.heap d u → CRep s.heap d' w → A.units + 2 * n < cLine → ltD d d' = some b → LtAt A s u w b := by
  intro n
  induction n <;> intro d d' u w A b k1 k2 r1 r2 hu h <;> cases d <;> unfold keyD at k1 <;> (try (cases k1; done)) <;> cases d' <;> unfold ltD at h <;> (try (cases h; done)) <;> unfold CRep at r1 r2 <;> first
    | (obtain ⟨t, rfl⟩ := r1; obtain ⟨t', rfl⟩ := r2; cases h; first | exact lt_int _ _ _ _ | exact lt_text _ _ _ _)
    | skip
  rename_i n ih xs ys
  obtain ⟨a, us, rfl, h1, q1⟩ := r1
  obtain ⟨a', us', rfl, h2, q2⟩ := r2
  exact lt_tuples h1 h2 (by lia) (lx_of (by lia) (fun _ _ _ _ _ a1 a2 a3 a4 a5 => ih a1 a2 a3 a4 (by lia) a5) xs ys us us' b k1 k2 q1 q2 h)
end Tl
namespace Tl
open Q
inductive Lv:D->D->Bool->Prop
 | int (i j:Int):Lv (.int i) (.int j) (decide (i < j))
 | str (x y:PySem.Str):Lv (.str x) (.str y) (decide (x.cps.toList < y.cps.toList))
 | tup {xs ys:List D} {k:Bool}:ltDs xs ys=some k->Lv (.tup xs) (.tup ys) k
theorem ltv {a b} {k} (h : ltD a b = some k) : Lv a b k := by
  cases a <;> (try (unfold ltD at h; cases h)) <;> cases b <;> unfold ltD at h <;> first
    | (cases h; done)
    | (cases h; constructor)
    | exact .tup h
structure Ord (n:Nat):Prop where
 a1:∀ {a b:D},sizeOf a < n->ltD a b=some true->ltD b a=some false
 a2:∀ {x y:List D},sizeOf x < n->ltDs x y=some true->ltDs y x=some false
 t1:∀ {a b:D},sizeOf a < n->ltD a b=some false->a≠b->ltD b a=some true
 t2:∀ {x y:List D},sizeOf x < n->ltDs x y=some false->x≠y->ltDs y x=some true
 r1:∀ {a b c:D},sizeOf a < n->ltD a b=some true->ltD b c=some true->ltD a c=some true
 r2:∀ {x y z:List D},sizeOf x < n->ltDs x y=some true->ltDs y z=some true->ltDs x z=some true
theorem ord (n) : Ord n := by
  induction n with
  | zero => exact ⟨nofun, nofun, nofun, nofun, nofun, nofun⟩
  | succ n ih =>
    refine ⟨fun {a b} hs h => ?_, fun {x y} hs h => ?_, fun {a b} hs h ne => ?_, fun {x y} hs h ne => ?_, fun {a b c} hs h1 h2 => ?_, fun {x y z} hs h1 h2 => ?_⟩
    · generalize hk : true = k at h
      cases ltv h <;> unfold ltD
      · rw [decide_eq_false (by have := of_decide_eq_true hk.symm; lia)]
      · rw [decide_eq_false (List.lt_asymm (of_decide_eq_true hk.symm))]
      · subst hk
        exact ih.a2 (by simp at hs; lia) ‹_›
    · cases x <;> cases y <;> unfold ltDs at h ⊢ <;> first
        | (cases h; done)
        | rfl
        | skip
      simp at hs
      split at h
      · rw [if_pos (Eq.symm ‹_›)]
        exact ih.a2 (by lia) h
      · rw [if_neg fun z => ‹¬ _› z.symm]
        exact ih.a1 (by lia) h
    · generalize hk : false = k at h
      cases ltv h <;> unfold ltD
      · rename_i i j
        have : i ≠ j := fun z => ne (by rw [z])
        rw [decide_eq_true (by lia)]
      · rename_i x y
        have h1 := List.not_lt.mp (of_decide_eq_false hk.symm)
        rcases Decidable.em (y.cps.toList < x.cps.toList) with h2 | h2
        · rw [decide_eq_true h2]
        · have := List.le_antisymm (List.not_lt.mp h2) h1
          exact absurd (by cases x; cases y; cases Array.toList_inj.mp this; rfl) ne
      · subst hk
        exact ih.t2 (by simp at hs; lia) ‹_› fun z => ne (by rw [z])
    · cases x <;> cases y <;> unfold ltDs at h ⊢ <;> first
        | (cases h; done)
        | rfl
        | exact absurd rfl ne
        | skip
      simp at hs
      split at h
      · rename_i e
        rw [if_pos e.symm]
        exact ih.t2 (by lia) h fun z => ne (by rw [e, z])
      · rename_i e
        rw [if_neg fun z => e z.symm]
        exact ih.t1 (by lia) h e
    · generalize hk : true = k at h1
      cases ltv h1 <;> generalize hl : true = l at h2 <;> cases ltv h2 <;> unfold ltD
      · rw [decide_eq_true (by have := of_decide_eq_true hk.symm; have := of_decide_eq_true hl.symm; lia), ← hk]
      · rw [decide_eq_true (List.lt_trans (of_decide_eq_true hk.symm) (of_decide_eq_true hl.symm)), ← hk]
      · subst hk hl
        exact ih.r2 (by simp at hs; lia) ‹_› ‹_›
    · cases x <;> cases y <;> (try (unfold ltDs at h1; cases h1; done)) <;> cases z <;> unfold ltDs at h1 h2 ⊢ <;> first
        | (cases h2; done)
        | rfl
        | skip
      rename_i a x b y c z
      simp at hs
      by_cases e1 : a = b
      · subst e1
        rw [if_pos rfl] at h1
        split at h2
        · rw [if_pos ‹_›]
          exact ih.r2 (by lia) h1 h2
        · rwa [if_neg ‹_›]
      · rw [if_neg e1] at h1
        by_cases e2 : b = c
        · rwa [← e2, if_neg e1]
        · rw [if_neg e2] at h2
          rw [if_neg fun e => by subst e; rw [ih.a1 (by lia) h1] at h2; cases h2]
          exact ih.r1 (by lia) h1 h2
theorem lt_asym {a b} (h:ltD a b=some true):ltD b a=some false:=(ord _).a1 (Nat.lt_succ_self _) h
theorem lt_irr a (h:ltD a a=some true):False:=by
 have:=lt_asym h
 grind
end Tl
noncomputable section
noncomputable section
noncomputable section
noncomputable section
noncomputable section
noncomputable section
noncomputable section
namespace Q
open PySem
noncomputable def fLenSetI:D->Option D:=fun x=>match x with
 | .lst ds=>(match intsD ds with
  | some ns=>if ns.length < 4000 then some (.int (ddI ns).length) else none
  | none=>none)
 | _=>none
end Q
noncomputable section
noncomputable section
noncomputable section
namespace Q
open PySem PySem.Spec PyProof.Rows L2 L3
section
variable {X:Cx} {Z:Fx0} {K:PySem.W.Frag} {q:Bool} {a:Ex} {e ea:Expr} {σ:L2.St} {H:Hp} {pos p p2 pos2:Pos} {x y:Str} {pins:List (Addr×Obj)} {s:Shared}
noncomputable def rLI (K:PySem.W.Frag):List V->Hp->VK->Prop:=fun xs H Q=>∃ p ns,xs=[.ref p]/\SqL K H p (ns.map V.int)/\ns.length < 4000/\Q (.int (ddI ns).length) H
theorem ad_lensetI:Ad1 K (fun v H Q=>rLI K [v] H Q) (pu1 fLenSetI):=by
 intro H x s Q ok hf k
 unfold pu1 fLenSetI at hf
 dsimp only at hf
 cases hx:x.d with
 | lst ds =>
  rw [hx] at hf
  dsimp only at hf
  obtain ⟨l,xs,bs,ev,q3,r3,_⟩:=items ok (.inl hx)
  have q3:LsR K H l xs:=by rcases q3 with ⟨_,z⟩ | ⟨z,_⟩;exact z;rw [hx] at z;cases z
  cases hi:intsD ds with
  | none=>rw [hi] at hf;cases hf
  | some ss =>
   rw [hi] at hf
   dsimp only at hf
   split at hf
   ·rename_i hl
    cases Option.some.inj hf
    have e1:=ints_rep hi r3
    subst e1
    exact ⟨l,ss,by rw [ev],rd_sq q3,hl,k ⟨.dp,.int _,.int _,[]⟩ H rfl rfl outI⟩
   ·cases hf
 | _=>rw [hx] at hf;cases hf
theorem q_lensetI (hK:X.K=Z.K) (hc:X.calm=true) (ha:QV X Z q a ea) (hm:X.mg "len"=none) (hm2:X.mg "set"=none) (hg:Gl X "len":=by rfl) (hg2:Gl X "set":=by rfl) (he:starEach [ea] X.env=(false,eval ea X.env) :: starEach [] X.env:=by rfl) :
  QE X Z q (cF1 (pu1 fLenSetI) a) (.Call (.Name "len" p) [.Call (.Name "set" p2) [ea] [] pos2] [] pos) :=
 pe_imp (t:=fun σ H Q=>tV Z q a σ H fun v H1=>rLI X.K [v] H1 Q) (by
 intro pins s σ H Q I h
 refine wpAny_Call_Name_kw (ld_blt I hg hm (u:=.builtin "len") rfl ?_ (by decide) (by decide))
 refine PyProof.Rows.callWith_builtin1 ?_ rfl rfl
 show wpAny _ _ (spliced ((false,eval (.Call (.Name "set" p2) [ea] [] pos2) X.env) :: [])) _ _ s
 refine Calls.spliced_cons ?_
 refine wpAny_Call_Name_kw (ld_blt I hg2 hm2 (u:=.type "set") rfl ?_ (by decide) (by decide))
 refine PyProof.Rows.callWith_type1 (thn (pa_cons ha pa_nil he pos2 pins s σ H (fun vs H1=>rLI X.K vs H1 Q) I h) fun us s1 ⟨vs,H1,I1,r1,q1⟩=>?_) he rfl
 obtain ⟨b,ss,rfl,hq,hl,q⟩:=q1
 obtain ⟨u,rfl,rx⟩:=vals1 r1
 cases rx
 obtain ⟨its,r',pl,hz⟩:=I1.list hq
 have hlen:=r'.length
 rw [List.length_map] at hlen hz
 refine PySem.call_set_list (ns:=ss) (I1.ok.hd hc) pl.isList (by simpa using intsAre_of r') (by simp;unfold scanBound;lia) fun h' tk hS old=>?_
 have I2:L2.Inv X pins σ H1 { s1 with heap:=h',toks:=tk }:=I1.kept fun b u q=>old b u (Heap.lt_size q) q
 obtain ⟨o,es,ep,t,ho,hex,hd,hel,hmem,hb,hf,hn⟩:=hS
 have hn2:es.size=(ddI ss).length:=by
  rw [hn,show its.toArray.size=ss.length by simp;lia,fm_is ss _ (Nat.le_refl _),List.take_length]
  rfl
 refine Calls.spliced_nil (call_len_set ho hex hd hf (by unfold scanBound at hb;lia) ?_)
 exact ⟨.int (ddI ss).length,H1,I2.kept (h':=h') fun b u q=>q,by rw [hn2];exact ⟨_,rfl⟩,q⟩) fun σ H Q h=>by
  have:=ad1_read (r:=fun v H Q=>rLI Z.K [v] H Q) ad_lensetI h
  rw [hK]
  exact this
end
end Q
noncomputable section
namespace Tl
open PySem PyProof.Rows SeqAt MeetsSeq MeetsSeq2 MeetsSeq3
theorem lt_loopAt (l b) (items items2) (n n2) (dd dd2) (sl sl2:Array (Option Value)) (kk:Bool) (k:Nat) :
  ∀ i:Nat,items.size - i=k->i<=items.size->i<=items2.size->Meets (Builtin.«list.__eq__.loop» ⟨[.ref l,.ref b,rawInt i,rawInt 0],[]⟩)
   (fun A R s=>s.heap.get? l=some { cls:=.type "list",dict:=dd,data:=.seq items n,slots:=sl }/\s.heap.get? b=some { cls:=.type "list",dict:=dd2,data:=.seq items2 n2,slots:=sl2 } /\
    Lx A.in1 s (items.toList.drop i) (items2.toList.drop i) kk/\R (.ok (.ret (.bool kk))) s):=by
 induction k with
 | zero =>
  intro i hk h1 h2 prog w A R s h
  obtain ⟨hp,g,d,tk,os⟩:=s;obtain ⟨hl,hb,he,h⟩:=h
  wp_walk using AutoSeq1.wpAny_loadPart' hl,AutoSeq1.wpAny_loadPart' hb
  have hi1:items[((i:Nat):Int).toNat]?=none:=by simp;omega
  rw [hi1]
  wp_walk using AutoSeq1.wpAny_loadPart' hl,AutoSeq1.wpAny_loadPart' hb
  show R (.ok (.ret (.bool (decide (items.size < items2.size))))) _
  have hd:items.toList.drop i=[]:=List.drop_eq_nil_of_le (by rw [Array.length_toList];omega)
  rw [hd] at he
  have:kk=decide (items.size < items2.size):=by
   generalize he2:items2.toList.drop i=ys at he
   cases he with
   | nn =>
    have:=List.drop_eq_nil_iff.mp he2
    rw [Array.length_toList] at this
    rw [decide_eq_false (by omega)]
   | nc y ys =>
    have:i < items2.toList.length:=by
     rcases Nat.lt_or_ge i items2.toList.length with h' | h'
     ·exact h'
     ·rw [List.drop_eq_nil_of_le h'] at he2;cases he2
    rw [Array.length_toList] at this
    rw [decide_eq_true (by omega)]
  rw [← this]
  exact h
 | succ k ih =>
  intro i hk h1 h2 prog w A R s h
  obtain ⟨hp,g,d,tk,os⟩:=s;obtain ⟨hl,hb,he,h⟩:=h
  wp_walk using AutoSeq1.wpAny_loadPart' hl,AutoSeq1.wpAny_loadPart' hb
  have hlt:i < items.size:=by omega
  have hi1:items[((i:Nat):Int).toNat]?=some items[i]:=by simp [hlt]
  have hd:items.toList.drop i=items[i] :: items.toList.drop (i + 1):=by simp [List.drop_eq_getElem_cons,hlt]
  have hc:((i:Int) + 1)=((i + 1:Nat):Int):=by push_cast;rfl
  by_cases hlt2:i < items2.size
  ·have hi2:items2[((i:Nat):Int).toNat]?=some items2[i]:=by simp [hlt2]
   have hd2:items2.toList.drop i=items2[i] :: items2.toList.drop (i + 1):=by simp [List.drop_eq_getElem_cons,hlt2]
   rw [hd,hd2] at he
   rw [hi1,hi2]
   cases he with
   | eq e1 e2 =>
    refine wpAny_bind (e1 prog w _ _ ?_)
    wp_walk
    rw [hc]
    exact ⟨plainId_quiet plain_eq_loop _,codeAny_builtin entry_eq_loop (by
     rw [Around.under_plainId plain_eq_loop _]
     exact ih (i + 1) (by omega) (by omega) (by omega) prog w A R _ ⟨hl,hb,e2,h⟩)⟩
   | lt e1 e2 =>
    refine wpAny_bind (e1 prog w _ _ ?_)
    wp_walk using AutoSeq1.wpAny_loadPart' hl,AutoSeq1.wpAny_loadPart' hb
    rw [hi1,hi2]
    refine wpAny_bind (e2 prog w _ _ ?_)
    wp_walk
    exact h
  ·have hi2:items2[((i:Nat):Int).toNat]?=none:=by simp;omega
   have hd2:items2.toList.drop i=[]:=List.drop_eq_nil_of_le (by rw [Array.length_toList];omega)
   rw [hd,hd2] at he
   rw [hi1,hi2]
   wp_walk using AutoSeq1.wpAny_loadPart' hl,AutoSeq1.wpAny_loadPart' hb
   show R (.ok (.ret (.bool (decide (items.size < items2.size))))) _
   cases he
   rw [decide_eq_false (by omega)]
   exact h
theorem list_ltAt (l b) (items items2) (n n2) (dd dd2) (sl sl2) (kk) :
  Meets (Builtin.«list.__lt__» ⟨[.ref l,.ref b],[]⟩)
   (fun A R s=>s.heap.get? l=some { cls:=.type "list",dict:=dd,data:=.seq items n,slots:=sl }/\s.heap.get? b=some { cls:=.type "list",dict:=dd2,data:=.seq items2 n2,slots:=sl2 } /\
    Lx A.in1 s items.toList items2.toList kk/\R (.ok (.ret (.bool kk))) s):=by
 intro prog w A R s h
 obtain ⟨hp,g,d,tk,os⟩:=s;obtain ⟨hl,hb,he,h⟩:=h
 have f3:=AutoSeq1.sub_list_list
 wp_walk using AutoSeq1.wpAny_loadPart' hl,AutoSeq1.wpAny_loadPart' hb
 exact ⟨plainId_quiet plain_eq_loop _,codeAny_builtin entry_eq_loop (by
  exact lt_loopAt l b items items2 n n2 dd dd2 sl sl2 kk _ 0 rfl (Nat.zero_le _) (Nat.zero_le _) prog w A R _ ⟨hl,hb,by simpa using he,h⟩)⟩
theorem lt_lists {A:Around} {s:Shared} {l b:Addr} {items items2:Array Value} {k:Bool} (hl:s.heap.IsList l items) (hb:s.heap.IsList b items2) (hu:A.units < cLine) (h:Lx A.in1 s items.toList items2.toList k):LtAt A s (.ref l) (.ref b) k:=fun prog w E Q hq=>by
 have t1:=hl.typeIs
 have t2:=hb.typeIs
 obtain ⟨⟨c1,d1,da1,s1⟩,ho1,hc1,hd1⟩:=hl
 obtain ⟨⟨c2,d2,da2,s2⟩,ho2,hc2,hd2⟩:=hb
 obtain ⟨n1,hd1⟩:=hd1
 obtain ⟨n2,hd2⟩:=hd2
 cases hc1
 cases hd1
 cases hc2
 cases hd2
 exact richCompare_meets_room (op:=.Lt) t1 t2 PySem.F.slot_list_lt PySem.F.entry_list_lt (PySem.F.args_list_lt_2 _ _) (list_ltAt l b items items2 n1 n2 d1 d2 s1 s2 k) ⟨ho1,ho2,h,⟨(fun x=>nomatch x),hq⟩⟩ hu
end Tl
noncomputable section
namespace Tl
open Q
noncomputable def ltL:D->D->Option Bool
 | .lst xs,.lst ys=>ltDs xs ys
 | _,_=>none
noncomputable def isKL:D->Bool
 | .lst xs=>keyDs 5 xs
 | _=>false
end Tl
noncomputable section
noncomputable section
noncomputable section
namespace Q
open PySem PySem.Spec PyProof.Rows L2 L3 Tl
section
variable {X:Cx} {Z:Fx0} {K:PySem.W.Frag} {σ:L2.St} {H:Hp} {pins:List (Addr×Obj)} {s:Shared}
theorem isKL_flat {d} (h:isKL d=true):d.flat 6=true:=by
 cases d<;>first | (unfold isKL at h;cases h) | skip
 unfold D.flat
 exact keys_flat h
end
end Q
noncomputable section
namespace Q
open PySem
noncomputable def selF (tg:Tg) (t:Ts) (B:En):List D->Option (List D)
 | []=>some []
 | d :: ds=>match tg.put d B with
  | some B1=>(match t B1,selF tg t B ds with
   | some (.ok _ k),some r=>if k then (match B1[0]? with
    | some (some (_,d0))=>some (d0 :: r)
    | _=>none) else some r
   | _,_=>none)
  | none=>none
noncomputable def cSel1 (j:Nat) (t:Ts):Ex:=fun E=>match E[j]? with
 | some (some (.dp,.lst ds))=>(match selF (.n 0) t [none] ds with
  | some r=>some (.ok (E.set j none) (.dp,.lst r))
  | none=>none)
 | _=>none
noncomputable def isT2:D->Bool
 | .tup [_,_]=>true
 | _=>false
noncomputable def cSel2 (j p:Nat) (t:Ts):Ex:=fun E=>match E[j]?,E[p]? with
 | some (some (.dp,.lst ds)),some (some (.no,dp))=>if j≠p/\ds.all isT2=true then (match selF (.t [0,1]) t [none,none,some (.no,dp)] ds with
  | some r=>some (.ok (E.set j none) (.dp,.lst r))
  | none=>none) else none
 | _,_=>none
noncomputable def sExtP (i:Nat) (c:Ex):Sm:=fun E=>if isLst E[i]? then ofE (c E) fun E x=>match E[i]?,x.2 with
 | some (some (.dp,.lst xs)),.lst ys=>if x.1=.dp/\xs.length + ys.length < big then some (.nx (E.set i (some (.dp,.lst (xs++ys))))) else none
 | _,_=>none
 else none
noncomputable def eachQ (r:Nat) (q:List Nat) (c:Ex):Nat->Nat->D->En->Option (En×D)
 | 0,_,d,E=>some (E,d)
 | n + 1,k,d,E=>match D.at (k :: q) d with
  | some (.lst ds)=>if ds.length < big then (match c (E.set r none) with
   | some (.ok E1 x)=>if x.2.pure=true then eachQ r q c n (k + 1) (D.put (.lst (ds++[x.2])) (k :: q) d) E1 else none
   | _=>none) else none
  | _=>none
noncomputable def sEachQ (i r:Nat) (p q:List Nat) (c:Ex):Sm:=fun E=>match E[i]? with
 | some (some (.dp,d))=>(match D.at p d with
  | some (.lst ds)=>if r < E.length then (match eachQ r q c ds.length 0 (.lst ds) (E.set i none) with
   | some (E1,d1)=>some (.nx (E1.set i (some (.dp,D.put d1 p d))))
   | _=>none) else none
  | _=>none)
 | _=>none
noncomputable def cLook (c:Ex):Ex:=fun E=>bnd (c E) fun _ x=>if x.1=.dp then some (.ok E x) else none
noncomputable def fLtL (a b:D):Option D:=if Tl.isKL a=true/\Tl.isKL b=true then (Tl.ltL a b).map .bl else none
end Q
noncomputable section
namespace Q
open PySem PySem.Spec PyProof.Rows L2 L3
section
variable {K:PySem.W.Frag} {H:Hp} {L M:Ls}
theorem parts:∀ {ds xs as},RepA K H false ds xs as->∃ zs:List Sl,zs.map Sl.d=ds/\zs.map Sl.v=xs/\(∀ z∈zs,z.o=.dp/\z.ok K H)/\owned (zs.map some)=as/\frozen (zs.map some)=[]
 | [],xs,as,h=>⟨[],rfl,by rw [h.1];rfl,(fun _ h=>nomatch h),by rw [h.2];rfl,rfl⟩
 | d :: ds,xs,as,h=>by
  obtain ⟨x,r,bs,cs,rfl,rfl,h1,h2⟩:=h
  obtain ⟨zs,e1,e2,e3,e4,e5⟩:=parts h2
  refine ⟨⟨.dp,d,x,bs⟩ :: zs,by rw [List.map_cons,e1],by rw [List.map_cons,e2],fun z hz=>?_,by rw [List.map_cons,owned_some,e4];rfl,by rw [List.map_cons,frozen_some,e5];rfl⟩
  rcases List.mem_cons.mp hz with rfl | hz
  ·exact ⟨rfl,h1⟩
  ·exact e3 z hz
theorem World.fewer {zs zs0:List Sl} (w:World K H (zs.map some++L)) (hok:∀ z∈zs0,z.ok K H) (so:(owned (zs0.map some)).Sublist (owned (zs.map some))) (fz:frozen (zs0.map some)=[]):World K H (zs0.map some++L)/\Step H (zs.map some++L) H (zs0.map some++L):=by
 have nd:=w.nd
 rw [owned_app] at nd
 have so2:(owned (zs0.map some)++owned L).Sublist (owned (zs.map some)++owned L):=so.append (List.Sublist.refl _)
 refine ⟨⟨fun x hx=>?_,by rw [owned_app];exact so2.nodup nd,fun a ha hf=>?_⟩,⟨fun _ _ h _=>h,fun a ha=>.inl ?_,fun a ha=>.inl ?_⟩⟩
 ·rcases List.mem_append.mp hx with z | z
  ·obtain ⟨t,ht,e⟩:=List.mem_map.mp z
   cases e
   exact hok _ ht
  ·exact w.ok x (List.mem_append_right _ z)
 ·rw [owned_app] at ha
  rw [frozen_app,fz] at hf
  exact w.ds a (by rw [owned_app];exact so2.subset ha) (by rw [frozen_app];exact List.mem_append_right _ hf)
 ·rw [owned_app] at ha ⊢
  exact so2.subset ha
 ·rw [frozen_app,fz] at ha
  rw [frozen_app]
  exact List.mem_append_right _ ha
theorem World.parts {y:Sl} {ds} (w:World K H (some y :: L)) (ho:y.o=.dp) (hd:y.d=.lst ds):∃ (l:Addr) (xs:List V) (zs:List Sl),y.v=.ref l/\H l=some (.lst xs)/\zs.map Sl.d=ds/\zs.map Sl.v=xs/\(∀ z∈zs,z.o=.dp/\z.ok K H)/\frozen (zs.map some)=[]/\World K H (zs.map some++L)/\Step H (some y :: L) H (zs.map some++L):=by
 obtain ⟨l,xs,bs,c1,c2,c3,c4,c5⟩:=dp_lst w.head hd ho
 obtain ⟨zs,e1,e2,e3,e4,e5⟩:=Q.parts c5
 have:=World.fewer (zs:=[y]) w (fun z hz=>(e3 z hz).2) (by rw [e4];show bs.Sublist (owned [some y]);rw [owned_some,c4];exact (List.sublist_cons_self _ _).trans (List.sublist_append_left _ _)) e5
 exact ⟨l,xs,zs,c1,c2,e1,e2,e3,e5,this⟩
theorem World.later {H2} (w:World K H L) (sm:Same H H2):World K H2 L:=⟨fun y hy=>RepO.kp (w.ok y hy) (Kp.of_same sm),w.nd,w.ds⟩
theorem Step.later {H0 H2} {L0:Ls} (s:Step H0 L0 H L) (sm:Same H H2):Step H0 L0 H2 L:=s.trans ⟨fun a ob h _=>sm a ob h,fun _ h=>.inl h,fun _ h=>.inl h⟩
theorem own_sub {a b:List Sl} (h:a.Sublist b):(owned (a.map some)).Sublist (owned (b.map some)):=by
 induction h with
 | slnil=>exact List.Sublist.refl _
 | cons x _ ih=>rw [List.map_cons,owned_some];exact ih.trans (List.sublist_append_right _ _)
 | cons_cons x _ ih=>rw [List.map_cons,List.map_cons,owned_some,owned_some];exact (List.Sublist.refl _).append ih
theorem frz_sub {a b:List Sl} (h:a.Sublist b) (e:frozen (b.map some)=[]):frozen (a.map some)=[]:=by
 induction h with
 | slnil=>rfl
 | cons x _ ih=>rw [List.map_cons,frozen_some] at e;exact ih (List.append_eq_nil_iff.mp e).2
 | cons_cons x _ ih =>
  rw [List.map_cons,frozen_some] at e ⊢
  rw [ih (List.append_eq_nil_iff.mp e).2,(List.append_eq_nil_iff.mp e).1]
  rfl
end
theorem sel_read {Z:Fx0} {σ:L2.St} {H:Hp} {Q:VK} {l:Addr} {ds:List D} {xs:List V} {zs:List Sl} {k:Nat} {R:List Nat} {g:TG} {tg:Tg} {u:Ts} {B0:En} {res:List D} (ok:L2.St->Prop)
  (hl:H l=some (.lst xs)) (h1:ds.length=xs.length) (h2:zs.length=xs.length) (hz:xs.length<=sizeLine) (hs:selF tg u B0 ds=some res) (o0:ok (lcSt k R σ))
  (hG:∀ (i:Nat) d x z B1,ds[i]?=some d->xs[i]?=some x->zs[i]?=some z->tg.put d B0=some B1->∀ τ H2,ok τ->Same H H2->∃ τ2 LB,(∀ Q,Q τ2 H2->g x τ H2 Q)/\Mt B1 τ2 LB/\World Z.K H2 LB/\τ2[0]?=some (some z.v)/\B1[0]?=some (some (.no,z.d))/\ok τ2)
  (fin:∀ sel:List Sl,sel.Sublist zs->sel.map Sl.d=res->∀ H2,Same H H2->∀ p,H2 p=none->Q (.ref p) (upd H2 p (.lst (sel.map Sl.v)))) :
  ∃ W:Nat->Nat->List V->L2.St->Hp->Prop,(∃ m,W 0 m [] (lcSt k R σ) H)/\LcW g (tT Z true u) (tVar 0) Q (Itl Z.K l) W:=by
 have sq:∀ {H2},Same H H2->SqL Z.K H2 l xs:=fun s=>.inl (.inl (s l _ hl))
 refine ⟨fun i m ys τ H2=>Same H H2/\ok τ/\i<=xs.length/\m=xs.length - i/\∃ sel rest,ys=sel.map Sl.v/\selF tg u B0 (ds.drop i)=some rest/\sel.map Sl.d++rest=res/\(sel++zs.drop i).Sublist zs/\sel.length<=i,⟨_,same_refl,o0,Nat.zero_le _,rfl,[],res,rfl,hs,rfl,List.Sublist.refl _,Nat.le_refl _⟩,?_⟩
 rintro i m ys τ H2 ⟨sm,ok1,hi,rfl,sel,rest,rfl,hr,hres,hsub,hsl⟩
 by_cases hlt:i < xs.length
 ·refine .inr ⟨⟨xs,xs[i],sq sm,List.getElem?_eq_getElem hlt⟩,fun x H1 hy=>?_⟩
  obtain ⟨rfl,hy⟩:=hy
  have hx:=hy xs (sq sm)
  have hd:ds[i]?=some (ds[i]'(by lia)):=List.getElem?_eq_getElem (by lia)
  have hzz:zs[i]?=some (zs[i]'(by lia)):=List.getElem?_eq_getElem (by lia)
  rw [List.drop_eq_getElem_cons (show i < ds.length by lia)] at hr
  rw [List.drop_eq_getElem_cons (show i < zs.length by lia)] at hsub
  generalize ds[i]'(by lia)=d at hd hr
  generalize zs[i]'(by lia)=z at hzz hsub
  unfold selF at hr
  cases hput:tg.put d B0 with
  | none=>rw [hput] at hr;cases hr
  | some B1 =>
   rw [hput] at hr
   dsimp only at hr
   obtain ⟨τ2,LB,g1,g2,g3,g4,g5,g6⟩:=hG i d x z B1 hd hx hzz hput τ H1 ok1 sm
   refine g1 _ ?_
   split at hr
   ·rename_i E1 kb r hu hrr
    refine ⟨fun y H4=>y=z.v/\kb=true/\Same H H4,fun H4=>kb=false/\Same H H4,fun y H4 ⟨e,ek,s4⟩=>?_,fun H4 ⟨ek,s4⟩=>?_,?_⟩
    ·subst e ek
     rw [if_pos rfl,g5] at hr
     cases Option.some.inj hr
     refine ⟨by rw [List.length_map];lia,xs.length - (i + 1),by lia,s4,g6,by lia,rfl,sel++[z],r,by simp,hrr,by rw [← hres];simp,by rw [List.append_assoc];exact hsub,by rw [List.length_append,List.length_singleton];lia⟩
    ·subst ek
     rw [if_neg (by decide)] at hr
     cases Option.some.inj hr
     exact ⟨xs.length - (i + 1),by lia,s4,g6,by lia,rfl,sel,rest,rfl,hrr,hres,List.Sublist.trans ((List.Sublist.refl _).append (List.sublist_cons_self _ _)) hsub,by lia⟩
    ·refine ⟨B1,LB,_,g2,g3,hu,(fun _ _ z=>by cases z),fun E' k' zz L' H' m' w' st' sm'=>?_⟩
     injection zz with z1 z2
     subst z1 z2
     have s4:=same_trans sm (sm' rfl)
     cases kb with
     | true=>exact ⟨z.v,g4,rfl,rfl,s4⟩
     | false=>exact ⟨rfl,s4⟩
   ·cases hr
 ·refine .inl ⟨⟨xs,sq sm,by lia⟩,by rw [List.length_map];lia,fun p hp=>?_⟩
  rw [List.drop_eq_nil_of_le (by lia)] at hr hsub
  cases Option.some.inj hr
  rw [List.append_nil] at hres hsub
  exact fin sel hsub hres H2 sm p hp
section
variable {X:Cx} {Z:Fx0} {j p:Nat} {u:Ts} {tg iter elt:Expr} {ifs:List Expr} {scope:Scope} {pos:Pos}
theorem sel_fin {E:En} {L:Ls} {H:Hp} {σ:L2.St} {Q:VK} {zs:List Sl} {res:List D} (m:Mt (E.set j none) σ (L.set j none)) (w:World Z.K H (zs.map some++L.set j none)) (st:Step H L H (zs.map some++L.set j none)) (hz:∀ z∈zs,z.o=.dp/\z.ok Z.K H) (fz:frozen (zs.map some)=[])
  (kk:∀ E' a,(Res.ok (E.set j none) (Own.dp,D.lst res):Res Sd)=.ok E' a->∀ (x:Sl) L' H',x.o=a.1->x.d=a.2->Mt E' σ L'->World Z.K H' (some x :: L')->Step H L H' (some x :: L')->(false=true->Same H H'/\∀ b∈x.own,H b=none)->Q x.v H') :
  ∀ sel:List Sl,sel.Sublist zs->sel.map Sl.d=res->∀ H2,Same H H2->∀ p,H2 p=none->Q (.ref p) (upd H2 p (.lst (sel.map Sl.v))):=fun sel hs hd H2 sm=>by
 obtain ⟨w1,s1⟩:=World.fewer w (fun z h=>(hz z (hs.subset h)).2) (own_sub hs) (frz_sub hs fz)
 have ht:(sel.map Sl.sd).all tight=true:=by
  rw [List.all_map,List.all_eq_true]
  intro z h
  show (z.o == .dp || _)=true
  rw [(hz z (hs.subset h)).1]
  rfl
 refine mkL_read (q:=false) (o:=.dp) (E':=E.set j none) (r:=.ok (E.set j none) (.dp,.lst res)) (ys:=sel.map Sl.sd) ?_ rfl (w1.later sm) ((st.trans s1).later sm) (fun h=>nomatch h) kk m
 unfold mkL
 rw [if_pos rfl,if_pos ht,← hd,List.map_map]
 rfl
theorem q_sel1 (N:List Str) (hv:PE X iter (tVar j)) (hg:∀ cl C s0 H0 fp,PG (lcE X scope N cl C s0 H0 fp Z.EX) tg (gName 0)) (ht:∀ cl C s0 H0 fp,PTs (lcE X scope N cl C s0 H0 fp Z.EX) ifs (tT Z true u)) (he:∀ cl C s0 H0 fp,PE (lcE X scope N cl C s0 H0 fp Z.EX) elt (tVar 0))
  (gx:Goes X Z.EX) (top:TopX X) (hK:X.K=Z.K:=by rfl) (hc:X.calm=true:=by rfl) (hk:scope.kind=.function:=by rfl) (hsc:lcChk X.N X.env.scope scope N 1 []=true:=by rfl) (hs:∀ x,foldedSetIterable iter X.env x=pure x:=by intro _;rfl) :
  QE X Z false (cSel1 j u) (.ListComp elt [⟨tg,iter,ifs,0⟩] scope pos):=fun pins s σ H Q I hw =>
 pe_lcE (EX:=Z.EX) N 1 [] (hK▸pi_any hv) hg ht he gx top hc hk hsc hs pins s σ H Q I (ex8 hw fun E L r m w hcc xc kk=>by
  unfold cSel1 at hcc
  split at hcc
  rotate_left
  ·cases hcc
  rename_i ds hE
  split at hcc
  rotate_left
  ·cases hcc
  rename_i res hsel
  cases Option.some.inj hcc
  obtain ⟨y,a1,a2,a3,a4⟩:=m.get hE
  obtain ⟨w0,s0⟩:=take_out w a1
  obtain ⟨l,xs,zs,b1,b2,b3,b4,b5,b6,b7,b8⟩:=w0.parts a2 a3
  have l1:ds.length=xs.length:=by rw [← b3,← b4,List.length_map,List.length_map]
  refine ⟨y.v,a4,.inl ⟨l,xs,b1,.inl (.inl b2),fun hz=>sel_read (fun τ=>τ.length=1) b2 l1 (by rw [← b4,List.length_map]) hz hsel (by simp [lcSt]) (fun i d x z B1 hd hx hzi hput τ H2 hτ sm=>?_) (sel_fin (mt_none j m) b7 (s0.trans b8) b5 b6 kk)⟩⟩
  cases Option.some.inj hput
  obtain ⟨q,rfl⟩:∃ q,τ=[q]:=by
   match τ,hτ with
   | [q],_=>exact ⟨q,rfl⟩
  rw [← b3,List.getElem?_map,hzi] at hd
  rw [← b4,List.getElem?_map,hzi] at hx
  cases Option.some.inj hd
  cases Option.some.inj hx
  have hok:=(b5 z (List.mem_of_getElem? hzi)).2
  have hok2:z.let.ok Z.K H2:=RepO.kp (let_ok hok) (Kp.of_same sm)
  exact ⟨[some z.v],[some z.let],fun Q h=>h,.cons (x:=z.let) .nil,World.consNo ⟨(fun _ h=>nomatch h),List.nodup_nil,(fun _ h=>nomatch h)⟩ hok2 rfl (fun _ _ h=>nomatch h),rfl,rfl,rfl⟩)
noncomputable def C2 (K:PySem.W.Frag) (H:Hp) (z z0:Sl):Prop:=∃ (a:Addr) (x1:V) (d1:D) (as1:List Addr),z.v=.ref a/\z.d=.tup [z0.d,d1]/\SqT K H a [z0.v,x1]/\RepL K H false z0.d z0.v z0.as/\RepL K H false d1 x1 as1
theorem comps {K:PySem.W.Frag} {H:Hp}:∀ {zs:List Sl},(∀ z∈zs,z.o=.dp/\z.ok K H)->(zs.map Sl.d).all isT2=true->∃ zs0:List Sl,zs0.length=zs.length/\(∀ (i:Nat) z z0,zs[i]?=some z->zs0[i]?=some z0->C2 K H z z0)/\(∀ z∈zs0,z.o=.dp/\z.ok K H)/\(owned (zs0.map some)).Sublist (owned (zs.map some))/\frozen (zs0.map some)=[]
 | [],_,_=>⟨[],rfl,(fun _ _ _ h=>by simp at h),(fun _ h=>nomatch h),List.Sublist.refl _,rfl⟩
 | ⟨o,d,v,as⟩ :: zs,hz,ht=>by
  rw [List.map_cons,List.all_cons,Bool.and_eq_true] at ht
  obtain ⟨zs0,e1,e2,e3,e4,e5⟩:=comps (fun z h=>hz z (List.mem_cons_of_mem _ h)) ht.2
  obtain ⟨ho,hok⟩:=hz _ List.mem_cons_self
  cases (show o=.dp from ho)
  have ht1:isT2 d=true:=ht.1
  unfold isT2 at ht1
  split at ht1
  rotate_left
  ·cases ht1
  rename_i d0 d1
  obtain ⟨a,xs,ev,sq,r⟩:=(show RepL K H false (.tup [d0,d1]) v as from hok)
  obtain ⟨x0,r1,bs,cs,rfl,rfl,h1,r⟩:=r
  obtain ⟨x1,r2,bs1,cs1,rfl,rfl,h2,r⟩:=r
  obtain ⟨rfl,rfl⟩:=r
  refine ⟨⟨.dp,d0,x0,bs⟩ :: zs0,by rw [List.length_cons,List.length_cons,e1],fun i z z0 h h'=>?_,fun z h=>?_,?_,by rw [List.map_cons,frozen_some,e5];rfl⟩
  ·cases i with
   | zero =>
    cases Option.some.inj h
    cases Option.some.inj h'
    exact ⟨a,x1,d1,bs1,ev,rfl,sq,h1,h2⟩
   | succ i=>exact e2 i z z0 h h'
  ·rcases List.mem_cons.mp h with rfl | h
   ·exact ⟨rfl,h1⟩
   ·exact e3 z h
  ·rw [List.map_cons,List.map_cons,owned_some,owned_some]
   exact (List.sublist_append_left _ _).append e4
theorem q_sel2 (N:List Str) (hv:PE X iter (tVar j)) (hg:∀ cl C s0 H0 fp,PG (lcE X scope N cl C s0 H0 fp Z.EX) tg (gSeq Z.K 2 (gNs [0,1]))) (ht:∀ cl C s0 H0 fp,PTs (lcE X scope N cl C s0 H0 fp Z.EX) ifs (tT Z true u)) (he:∀ cl C s0 H0 fp,PE (lcE X scope N cl C s0 H0 fp Z.EX) elt (tVar 0))
  (gx:Goes X Z.EX) (top:TopX X) (hK:X.K=Z.K:=by rfl) (hc:X.calm=true:=by rfl) (hk:scope.kind=.function:=by rfl) (hsc:lcChk X.N X.env.scope scope N 2 [p]=true:=by rfl) (hs:∀ x,foldedSetIterable iter X.env x=pure x:=by intro _;rfl) :
  QE X Z false (cSel2 j p u) (.ListComp elt [⟨tg,iter,ifs,0⟩] scope pos):=fun pins s σ H Q I hw =>
 pe_lcE (EX:=Z.EX) N 2 [p] (hK▸pi_any hv) hg ht he gx top hc hk hsc hs pins s σ H Q I (ex8 hw fun E L r m w hcc xc kk=>by
  unfold cSel2 at hcc
  split at hcc
  rotate_left
  ·cases hcc
  rename_i ds dp hE hEp
  split at hcc
  rotate_left
  ·cases hcc
  rename_i hjp
  split at hcc
  rotate_left
  ·cases hcc
  rename_i res hsel
  cases Option.some.inj hcc
  obtain ⟨y,a1,a2,a3,a4⟩:=m.get hE
  obtain ⟨yp,p1,p2,p3,p4⟩:=m.get hEp
  obtain ⟨w0,s0⟩:=take_out w a1
  obtain ⟨l,xs,zs,b1,b2,b3,b4,b5,b6,b7,b8⟩:=w0.parts a2 a3
  have l1:ds.length=xs.length:=by rw [← b3,← b4,List.length_map,List.length_map]
  obtain ⟨zs0,c1,c2,c3,c4,c5⟩:=comps b5 (b3▸hjp.2)
  obtain ⟨w1,s1⟩:=World.fewer b7 (fun z h=>(c3 z h).2) c4 c5
  have hpok:yp.ok Z.K H:=w.ok yp (getD_mem p1)
  have hst:lcSt 2 [p] σ=[none,none,some yp.v]:=by simp [lcSt,at',p4]
  refine ⟨y.v,a4,.inl ⟨l,xs,b1,.inl (.inl b2),fun hz=>sel_read (fun τ=>∃ a b,τ=[a,b,some yp.v]) b2 l1 (by rw [c1,← b4,List.length_map]) hz hsel ⟨_,_,hst⟩ (fun i d x z0 B1 hd hx hz0 hput τ H2 hτ sm=>?_) (sel_fin (mt_none j m) w1 (s0.trans (b8.trans s1)) c3 c5 kk)⟩⟩
  obtain ⟨q0,q1,rfl⟩:=hτ
  have hi:i < zs.length:=by rw [← c1];exact (List.getElem?_eq_some_iff.mp hz0).1
  have hzi:zs[i]?=some zs[i]:=List.getElem?_eq_getElem hi
  obtain ⟨a,x1,d1,as1,f1,f2,f3,f4,f5⟩:=c2 i _ _ hzi hz0
  rw [← b3,List.getElem?_map,hzi,Option.map_some,f2] at hd
  rw [← b4,List.getElem?_map,hzi,Option.map_some,f1] at hx
  cases Option.some.inj hd
  cases Option.some.inj hx
  cases Option.some.inj (show some [some (Own.no,z0.d),some (Own.no,d1),some (Own.no,dp)]=some B1 from hput)
  have kp:∀ {as},Kp H H2 as:=Kp.of_same sm
  have k0:Sl.ok Z.K H2 ⟨.no,z0.d,z0.v,z0.as⟩:=(show RepL Z.K H2 true _ _ _ from f4.wk.kp kp)
  have k1:Sl.ok Z.K H2 ⟨.no,d1,x1,as1⟩:=(show RepL Z.K H2 true _ _ _ from f5.wk.kp kp)
  have k2:yp.ok Z.K H2:=RepO.kp hpok kp
  have w2:World Z.K H2 [some ⟨.no,z0.d,z0.v,z0.as⟩,some ⟨.no,d1,x1,as1⟩,some yp]:=World.consNo (World.consNo (World.consNo ⟨(fun _ h=>nomatch h),List.nodup_nil,(fun _ h=>nomatch h)⟩ k2 p2 (fun _ _ h=>nomatch h)) k1 rfl (fun _ _ h=>by rw [owned_some,own_no p2] at h;exact nomatch h)) k0 rfl (fun _ _ h=>by rw [owned_some,owned_some,own_no p2,own_no rfl] at h;exact nomatch h)
  have mm:Mt [some (.no,z0.d),some (.no,d1),some (.no,dp)] [some z0.v,some x1,some yp.v] [some ⟨.no,z0.d,z0.v,z0.as⟩,some ⟨.no,d1,x1,as1⟩,some yp]:=by
   rw [← p2,← p3]
   exact .cons (x:=⟨yp.o,z0.d,z0.v,z0.as⟩) (.cons (x:=⟨yp.o,d1,x1,as1⟩) (.cons .nil))
  exact ⟨_,_,fun Q h=>⟨a,[z0.v,x1],rfl,.inl (Kp.tupT (as:=[]) kp f3),rfl,_,_,rfl,_,_,rfl,rfl,h⟩,mm,w2,rfl,rfl,_,_,rfl⟩)
end
end Q
noncomputable section
namespace Q
open PySem PySem.Spec PyProof.Rows L2 L3 Tl
section
variable {X:Cx} {Z:Fx0} {K:PySem.W.Frag} {pn:List Nat} {q:Bool} {c:Ex} {e:Expr} {pos:Pos}
noncomputable def rLtL (K:PySem.W.Frag):R2:=fun x y H Q=>∃ d d' as bs b,RepL K H true d x as/\RepL K H true d' y bs/\isKL d=true/\isKL d'=true/\ltL d d'=some b/\Q (.bl b) H
theorem opLtL (hu:X.A.units + 64 < cLine) (hK:X.K=K:=by rfl):OpR X (compareOp .Lt) (rLtL K):=by
 subst hK
 rintro pins s σ H x y v u Q I rx ry ⟨d,d',as,bs,b,h1,h2,k1,k2,hlt,q⟩
 have c1:=crep_of I h1 (isKL_flat k1) rx
 have c2:=crep_of I h2 (isKL_flat k2) ry
 cases d<;>first | (unfold isKL at k1;cases k1) | skip
 cases d'<;>first | (unfold isKL at k2;cases k2) | skip
 obtain ⟨a1,us1,rfl,g1,i1⟩:=c1
 obtain ⟨a2,us2,rfl,g2,i2⟩:=c2
 exact lt_lists g1 g2 (by lia) (lx_of (by lia) (fun _ _ _ _ _ a1 a2 a3 a4 a5=>lt_C 5 a1 a2 a3 a4 (by lia) a5) _ _ _ _ _ k1 k2 i1 i2 hlt) _ _ _ _ ⟨.bl b,H,I,rfl,q⟩
theorem ad_ltL:Ad2 K (rLtL K) (pu2 fLtL):=by
 intro H x y s Q ox oy hf k
 unfold pu2 fLtL at hf
 dsimp only at hf
 split at hf
 ·rename_i hk
  cases hl:ltL x.d y.d with
  | none=>rw [hl] at hf;cases hf
  | some b =>
   rw [hl] at hf
   cases Option.some.inj hf
   exact ⟨x.d,y.d,x.as,y.as,b,RepO.wk ox,RepO.wk oy,hk.1,hk.2,hl,k ⟨.dp,.bl b,.bl b,[]⟩ H rfl rfl (out_pure same_refl rep_bl)⟩
 ·cases hf
theorem bl_ltL:∀ x y s,pu2 fLtL x y=some s->∃ k,s.2=.bl k:=by
 intro x y s h
 unfold pu2 fLtL at h
 split at h
 ·cases hl:ltL x.2 y.2 with
  | none=>rw [hl] at h;cases h
  | some b=>rw [hl] at h;cases Option.some.inj h;exact ⟨b,rfl⟩
 ·cases h
theorem look_imp {σ H Q} (h:tQ Z true (cLook c) σ H Q):tQ Z true c σ H Q:=ex8 h fun E L r m w hr xc k=>by
 unfold cLook at hr
 rcases bnd_cases hr with ⟨E1,s,h1,h2⟩ | ⟨E1,cc,h1,h2⟩
 ·refine ⟨E,L,_,m,w,h1,(fun _ _ z=>by cases z),fun E' s' z x L' H' e1 e2 m' w' st sm=>?_⟩
  injection z with z1 z2
  subst z1 z2
  split at h2
  rotate_left
  ·cases h2
  rename_i ho
  cases Option.some.inj h2
  have eo:=e1.trans ho
  have wL:World Z.K H' L:=w.later (sm rfl).1
  have nb:∀ b∈x.own,b∉owned L:=fun b hb z=>w.own_some z ((sm rfl).2 b hb)
  have nf:∀ b∈x.own,b∉frozen L:=fun b hb z=>w.frz_some z ((sm rfl).2 b hb)
  have fx:x.frz=[]:=frz_dp eo
  refine k _ _ rfl x L H' (by rw [e1]) e2 m (wL.cons w'.head (by have:=w'.nd;rw [owned_some,List.nodup_append] at this;exact this.1) nb nf (by rw [fx];exact fun _ z=>nomatch z) (by rw [fx];exact fun _ _ z=>nomatch z)) ⟨fun a ob h _=>(sm rfl).1 a ob h,fun a ha=>?_,fun a ha=>?_⟩ fun _=>sm rfl
  ·rw [owned_some] at ha
   exact (List.mem_append.mp ha).elim (fun z=>.inr ((sm rfl).2 a z)) .inl
  ·rw [frozen_some,fx] at ha
   exact .inl ha
 ·exact ⟨E,L,_,m,w,h1,xc.map h2,fun E' s' z=>by cases z⟩
theorem q_setLook {tg iter elt:Expr} {ifs:List Expr} {scope:Scope} {k:Nat} {R:List Nat} {it:Ev (List D)} {tt:Tg} {u:Ts} {o:Own} {i:Nat} {y:Str} {py spos:Pos} (N:List Str) (hN:X.N.Nodup) (hy:X.N[i]?=some y) (hx:Loc X.env.scope y) (hi:QI X Z true tg it iter)
  (hg:∀ cl C s0 H0 fp,QG (lcE X scope N cl C s0 H0 fp Z.EX) Z ((List.range R.length).map (k + ·)) tt tg) (ht:∀ cl C s0 H0 fp,PTs (lcE X scope N cl C s0 H0 fp Z.EX) ifs (tT Z true u)) (he:∀ cl C s0 H0 fp,QE (lcE X scope N cl C s0 H0 fp Z.EX) Z true c elt)
  (gx:Goes X Z.EX) (top:TopX X) (hR:R.Nodup) (hr:∀ j∈R,j < X.N.length) (hp:i∉pn:=by decide)
  (hsw:swapsWith (.ListComp elt [⟨tg,iter,ifs,0⟩] scope pos) (some (.Name y py)) spos.line X.env=pure true:=by rfl)
  (hc:X.calm=true:=by rfl) (hk:scope.kind=.function:=by rfl) (hsc:lcChk X.N X.env.scope scope N k R=true:=by rfl) (hs:∀ x,foldedSetIterable iter X.env x=pure x:=by intro _;rfl)
  (hf:X.fn y=true\/X.env.scope.names.lookup y=some .local:=by first | exact .inl rfl | exact .inr rfl) :
  QS X Z pn (sAsg i (cLook (cLC o k R it tt u c))) (.Assign [.Name y py] (.ListComp elt [⟨tg,iter,ifs,0⟩] scope pos) spos) :=
 q_asgX (q:=true) hp fun pins s σ H D I hw=>ps_setLCE N k R hN hy hx (qi_S hi) hg ht he gx top hsw hc hk hsc hs hf pins s σ H D I (lc_read I.len hR hr (look_imp hw))
theorem at_lst {E:En} {i:Nat} (h:isLst E[i]?=true):∃ o ds,E[i]?=some (some (o,.lst ds)):=by
 unfold isLst at h
 split at h
 ·exact ⟨_,_,‹_›⟩
 ·cases h
theorem q_extP {i:Nat} {x:Str} {apos cpos xp:Pos} (h:QE X Z q c e) (hN:X.N[i]?=some x:=by rfl) (hv:Vis X.env.scope x:=by first | exact Or.inl rfl | exact Or.inr (Or.inl rfl) | exact Or.inr (Or.inr rfl)) (hd:(x == ("__debug__":Str))=false:=by decide)
  (hcd:(x == ("__classdict__":Str))=false:=by decide) (hbase:attributeBase (.Name x xp) "extend" X.env (eval (.Name x xp) X.env)=eval (.Name x xp) X.env:=by rfl)
  (hfew:((backTo cpos (starEach [e] X.env)).all (fun x=>!x.1) && (backToKw cpos (keywordEach [] X.env)).all (fun x=>x.1.isSome)
   && decide ([e].length + ([]:List Keyword).length + (if ([]:List Keyword).isEmpty then 0 else 1) < 30))=true:=by rfl)
  (hline:(apos.endLine == cpos.line)=true:=by rfl) (hs:starEach [e] X.env=(false,eval e X.env) :: starEach [] X.env:=by rfl) (hplain:(backTo cpos (starEach [] X.env)).any (·.1)=false:=by rfl) (hK:X.K=Z.K:=by rfl)
  (hsw:swapsWith (.Call (.Attribute (.Name x xp) "extend" apos) [e] [] cpos) none pos.line X.env=pure false:=by rfl) :
  QS X Z pn (sExtP i c) (.Expr (.Call (.Attribute (.Name x xp) "extend" apos) [e] [] cpos) pos) :=
 ps_imp (ps_expr (pe_bmK Z.K PySem.F.plainAttrs_list PySem.F.slot_list_extend PySem.F.type_list_extend mt_extend (pv i hN hv hd hcd) (pa_cons h pa_nil hs) hbase hfew hline hs hplain hK) hsw) fun D' σ H h_z=>ex7 h_z fun E L r m w hc k=>by
 unfold sExtP at hc
 split at hc
 rotate_left
 ·cases hc
 rename_i hl
 obtain ⟨o0,ds0,h0⟩:=at_lst hl
 obtain ⟨x0,a1,a2,a3,a4⟩:=m.get h0
 refine ⟨x0.v,a4,lst_ty (w.ok x0 (getD_mem a1)) a3,(sbind m w hc k fun E1 s h1 x L1 H1 e1 e2 m1 w1 st _=>?_)⟩
 split at h1
 rotate_left
 ·cases h1
 rename_i ds ys hE hys
 split at h1
 rotate_left
 ·cases h1
 rename_i hno
 cases Option.some.inj h1
 obtain ⟨y,b1,b2,b3,b4⟩:=m1.get hE
 have hv:y.v=x0.v:=by rw [a4] at b4;exact (Option.some.inj (Option.some.inj b4)).symm
 obtain ⟨l,xs,bs,c1,c2,c3,c4,c5⟩:=dp_lst (w1.ok y (List.mem_cons_of_mem _ (getD_mem b1))) b3 b2
 obtain ⟨l2,zs,bs2,g1,g2,g3,g4,g5⟩:=dp_lst w1.head (e2.trans hys) (e1.trans hno.1)
 have ex0:=hv▸c1
 rw [ex0]
 have oT:owned [some x]=x.own:=by simp
 have nd:=w1.nd
 rw [owned_some,List.nodup_append,g4,List.nodup_cons] at nd
 have yn:(l :: bs).Nodup:=by
  obtain ⟨A,B,e,_⟩:=at_split b1
  have:=nd.2.1
  rw [e,owned_app,owned_some,List.nodup_append] at this
  rw [← c4]
  exact (List.nodup_append.mp this.2.1).1
 refine ⟨l,l2,xs,zs,rfl,by rw [g1],c2,g2,?_,?_⟩
 ·have:=c5.len
  have:=g5.len
  have hb:big=sizeLine:=rfl
  have:=hno.2
  omega
 obtain ⟨w3,s3⟩:=put_lst (o':=.dp) (ds':=ds++ys) (xs':=xs++zs) w1 b1 c2 c3 (c4▸List.mem_cons_self) c1 (RepA.app g5 c5) (.inr ⟨rfl,b2,List.nodup_append.mpr ⟨(List.nodup_cons.mp yn).2,nd.1.2,fun a ha b hb e=>nd.2.2 b (List.mem_cons_of_mem _ hb) b (mem_owned.mpr ⟨y,getD_mem b1,by rw [c4,← e];exact List.mem_cons_of_mem _ ha⟩) rfl⟩,fun a ha=>(List.mem_append.mp ha).imp id fun z=>by rw [oT,g4];exact List.mem_cons_of_mem _ z⟩)
 refine k σ _ _ Pn.refl ?_ w3 (st.trans s3)
 have:=m1.set (x:=⟨.dp,.lst (ds++ys),y.v,l :: (bs++bs2)⟩) i
 rw [set_same b4] at this
 exact this
end
end Q
noncomputable section
namespace Q
open PySem PySem.Spec PyProof.Rows L2 L3
section
variable {X:Cx} {Z:Fx0} {pn:List Nat} {q:Bool} {c:Ex} {e ep:Expr} {i:Nat} {p:List Nat} {pos:Pos}
theorem q_eachQ {r} {q':List Nat} {tg er} (hp:PassesOwn (model X.prog X.w) X.A X.env X.xe) (hcm:X.calm=true) (hP:PE X ep (tP Z.K i p)) (hg:PG X tg (gName r)) (hR:PE X er (tP Z.K r q')) (hc:QE X Z q c e) (hK:X.K=Z.K:=by rfl) (hm:MtR X "list.append" rAppend) {apos cpos spos fpos}
  (hir:r≠i:=by decide) (hpn:r∉pn:=by decide)
  (hbase:attributeBase er "append" X.env (eval er X.env)=eval er X.env:=by rfl)
  (hfew:((backTo cpos (starEach [e] X.env)).all (fun x=>!x.1) && (backToKw cpos (keywordEach [] X.env)).all (fun x=>x.1.isSome)
   && decide ([e].length + ([]:List Keyword).length + (if ([]:List Keyword).isEmpty then 0 else 1) < 30))=true:=by rfl)
  (hline:(apos.endLine == cpos.line)=true:=by rfl) (hs:starEach [e] X.env=(false,eval e X.env) :: starEach [] X.env:=by rfl) (hplain:(backTo cpos (starEach [] X.env)).any (·.1)=false:=by rfl)
  (hsw:swapsWith (.Call (.Attribute er "append" apos) [e] [] cpos) none spos.line X.env=pure false:=by rfl) (hfs:∀ x,foldedSetIterable ep X.env x=pure x:=by intro _;rfl) :
  QS X Z pn (sEachQ i r p q' c) (.For tg ep [.Expr (.Call (.Attribute er "append" apos) [e] [] cpos) spos] [] fpos) :=
 ps_imp (ps_for hp hcm (pi_list hP) hg (pss_one (ps_expr (pe_bmK Z.K PySem.F.plainAttrs_list PySem.F.slot_list_append PySem.F.type_list_append hm hR (pa_cons hc pa_nil hs) hbase hfew hline hs hplain hK) hsw)) hfs) fun De σ H h_z=>ex7 h_z fun E L rr m w hcc k=>by
 unfold sEachQ at hcc
 split at hcc
 rotate_left
 ·cases hcc
 rename_i d hE
 split at hcc
 rotate_left
 ·cases hcc
 rename_i ds hat
 split at hcc
 rotate_left
 ·cases hcc
 rename_i hrE
 split at hcc
 rotate_left
 ·cases hcc
 rename_i Ee de hea
 cases Option.some.inj hcc
 obtain ⟨y,a1,a2,a3,a4⟩:=m.get hE
 obtain ⟨w0,s0⟩:=take_out w a1
 obtain ⟨y1,b1,b2,b3,b4,b5⟩:=w0.hole a2 (a3▸hat)
 obtain ⟨l,xs0,bs,c1,c2,_,_,c5⟩:=dp_lst (b4.ok y1 List.mem_cons_self) b2 b1
 refine ⟨y.d,y.v,y1.v,a4,b3,l,c1,⟨xs0,.inl (.inl c2)⟩,?_⟩
 refine ⟨fun k0 n σ1 H1=>∃ (E1:En) (L1:Ls) (z:Sl) (ds1:List Q.D),k0<=ds.length/\n=ds.length - k0/\Mt E1 σ1 L1/\World Z.K H1 (some z :: L1)/\z.o=.dp/\z.d=.lst ds1/\z.v=y1.v/\Step H (some y1 :: L.set i none) H1 (some z :: L1)/\eachQ r q' c (ds.length - k0) k0 (.lst ds1) E1=some (Ee,de)/\ds1.length=ds.length/\σ1[i]?=some (some y.v)/\Pn pn σ σ1/\r < σ1.length,
  ⟨_,E.set i none,L.set i none,y1,ds,Nat.zero_le _,rfl,mt_none i m,b4,b1,b2,rfl,Step.refl,hea,rfl,a4,Pn.refl,by rw [← m.len.1];exact hrE⟩,?_⟩
 rintro k0 n σ1 H1 ⟨E1,L1,z,ds1,hk,rfl,m1,w1,z1,z2,z3,st1,hea1,hl1,hs1,hpn1,hrS⟩
 obtain ⟨l',xs,bs',d1,d2,_,_,d5⟩:=dp_lst (w1.ok z List.mem_cons_self) z2 z1
 have hll:l'=l:=by rw [z3,c1] at d1;exact (V.ref.inj d1).symm
 subst hll
 have hxl:xs.length=ds.length:=by rw [← d5.len,hl1]
 by_cases hlt:k0 < ds.length
 ·refine .inr ⟨⟨xs,xs[k0]'(by lia),.inl (.inl d2),List.getElem?_eq_getElem _⟩,fun σ2 H2=>∃ m',m' < ds.length - k0/\_,fun σ' H' h=>h,fun x H' hy=>?_⟩
  obtain ⟨rfl,hyx⟩:=hy
  have hx:xs[k0]?=some x:=hyx xs (.inl (.inl d2))
  obtain ⟨n,hn⟩:∃ n,ds.length - k0=n + 1:=⟨ds.length - k0 - 1,by lia⟩
  rw [hn] at hea1
  unfold eachQ at hea1
  split at hea1
  rotate_left
  ·cases hea1
  rename_i ds2 hat2
  split at hea1
  rotate_left
  ·cases hea1
  rename_i hlen
  obtain ⟨y2,f1,f2,f3,f4,f5⟩:=w1.hole z1 (z2▸hat2)
  rw [z2] at f3
  obtain ⟨la,xs2,x2,dx,g1,g2,g3,⟨g4,_⟩,g5⟩:=f3
  have e1:la=l':=by rw [d1] at g1;exact (V.ref.inj g1).symm
  subst e1
  have e2:xs2=xs:=by rw [d2] at g2;cases g2;rfl
  subst e2
  have e3:x2=x:=by rw [hx] at g3;exact (Option.some.inj g3).symm
  subst e3
  obtain ⟨lb,ys,bb,q1,q2,_,_,_⟩:=dp_lst (f4.ok y2 List.mem_cons_self) f2 f1
  obtain ⟨wu,su⟩:=World.out1 r w1.tail
  obtain ⟨wv,sv⟩:=hold (T:=[some y2]) f4 su wu
  have sg:(σ1.set r (some x2))[r]?=some (some x2):=List.getElem?_set_self hrS
  refine ⟨dx,x2,y2.v,sg,g5,by rw [q1];exact ty_lst q2,?_⟩
  split at hea1
  rotate_left
  ·cases hea1
  rename_i E2 s2 hcE
  split at hea1
  rotate_left
  ·cases hea1
  rename_i hpu
  refine ⟨E1.set r none,L1.set r none,_,mt_un r m1,wu,hcE,(fun _ _ z=>by cases z),fun E' s' zz x L2 H2 e1 e2 m2 w2 st2 _=>?_⟩
  injection zz with zz1 zz2
  subst zz1 zz2
  obtain ⟨w3,s3⟩:=hold (T:=[some y2]) wv st2 w2
  obtain ⟨l3,xs3,h1,h2,h3,zn,n1,n2,n3,n4,n5⟩:=World.app w3 f1 f2 (e2▸hpu)
  obtain ⟨z',o1,o2,o3,o4,o5⟩:=f5 _ _ zn n4 (sv.trans (s3.trans n5)) n1 n3
  refine ⟨l3,xs3,x.v,h1,rfl,h2,by rw [h3];exact hlen,ds.length - (k0 + 1),by lia,E2,L2,z',ds1.set k0 (Q.D.put (.lst (ds2++[s2.2])) q' dx),by lia,rfl,m2,o4,o1,?_,o3.trans z3,st1.trans o5,?_,by rw [List.length_set];exact hl1,?_,hpn1.set hpn,by rw [List.length_set];exact hrS⟩
  ·rw [o2,n2,z2,e2]
   show (match ds1[k0]? with | some d=>Q.D.lst (ds1.set k0 (Q.D.put _ q' d)) | none=>_)=_
   rw [g4]
  ·have e4:ds.length - (k0 + 1)=n:=by lia
   rw [e4]
   have e5:Q.D.put (.lst (ds2++[s2.2])) (k0 :: q') (.lst ds1)=.lst (ds1.set k0 (Q.D.put (.lst (ds2++[s2.2])) q' dx)):=by
    show (match ds1[k0]? with | some d=>Q.D.lst (ds1.set k0 (Q.D.put _ q' d)) | none=>_)=_
    rw [g4]
   rwa [← e5]
  ·rw [List.getElem?_set_ne hir];exact hs1
 ·have hk2:k0=ds.length:=by lia
  refine .inl ⟨⟨xs,.inl (.inl d2),by lia⟩,?_⟩
  rw [hk2,Nat.sub_self] at hea1
  unfold eachQ at hea1
  cases Option.some.inj hea1
  obtain ⟨y',g1,g2,g3,g4,g5⟩:=b5 _ _ z w1 st1 z1 z3
  have mm:=mt_set (i:=i) (x:=y') (s:=(.dp,Q.D.put (.lst ds1) p d)) m1 g1 (by rw [g2,z2,a3])
  rw [g3,set_same hs1] at mm
  exact k σ1 _ _ hpn1 mm g4.set (s0.trans (g5.trans Step.set))
end
end Q
namespace Q
open PySem
theorem lt_big n (h:300<=n):10 ^ 70 < 2 ^ n:=Nat.lt_of_lt_of_le (show 10 ^ 70 < 2 ^ 240 by decide) (Nat.pow_le_pow_right (by decide) (by lia))
theorem mul_l {o1 o2} {a b} (h1:-18446744073709551616 < a) (h2:a < 18446744073709551616):fMul (o1,.int a) (o2,.int b)=some (.dp,.int (a * b)):=by
 have:mulOk a b=true:=by
  have:short a=true:=by unfold short;rw [decide_eq_true (show -_ < a by lia),decide_eq_true (show a < 2 ^ 64 by lia)];rfl
  unfold mulOk;rw [this];rfl
 show (if mulOk a b=true then _ else _)=_
 rw [if_pos this]
theorem add_i {o1 o2:Own} {a b:Int}:fAdd (o1,.int a) (o2,.int b)=some (.dp,.int (a + b)):=rfl
theorem sub_i {a b:Int}:fSub (.int a) (.int b)=some (.int (a - b)):=rfl
theorem div_i {a b} (h:0 < b) (h2:b < 10 ^ 70):fDiv (.int a) (.int b)=some (.int (a / b)):=by
 have hb:b.natAbs.log2 < 9000:=by
  exact (Nat.log2_lt (by lia)).mpr (Nat.lt_trans (show b.natAbs < 10 ^ 70 by lia) (lt_big 9000 (by simp)))
 show (if 0 < b/\b.natAbs.log2 < 9000 then some _ else none).map _=_
 rw [if_pos ⟨h,hb⟩];rfl
theorem mod_i {a b} (h:0 < b):fMod (.int a) (.int b)=some (.int (a % b)):=by
 show (if 0 < b then some _ else none).map _=_
 rw [if_pos h];rfl
theorem eq_ii {a b}:fEq (.int a) (.int b)=some (.bl (a == b)):=rfl
theorem lt_ii {a b}:fLt (.int a) (.int b)=some (.bl (decide (a < b))):=rfl
theorem gt_ii {a b:Int}:fGt (.int a) (.int b)=some (.bl (decide (b < a))):=rfl
theorem le_ii {a b}:fLe (.int a) (.int b)=some (.bl (decide (a<=b))):=rfl
theorem ix_l {xs} {i} {d} (h0:0<=i) (h:xs[i.toNat]?=some d):fIxQ (.lst xs) (.int i)=some d:=by
 show ((ixN xs.length i).bind fun j=>xs[j]?)=some d
 have hl:=(List.getElem?_eq_some_iff.mp h).1
 unfold ixN
 rwa [if_pos h0,if_pos (by lia)]
theorem ix_t {xs} {i} {d} (h0:0<=i) (h:xs[i.toNat]?=some d):fIxQ (.tup xs) (.int i)=some d:=by
 show ((ixN xs.length i).bind fun j=>xs[j]?)=some d
 have hl:=(List.getElem?_eq_some_iff.mp h).1
 unfold ixN
 rwa [if_pos h0,if_pos (by lia)]
theorem len_l {xs:List D}:fLen (.lst xs)=some (.int xs.length):=rfl
theorem len_t {xs:List D}:fLen (.tup xs)=some (.int xs.length):=rfl
end Q
namespace Q
open PySem
theorem add_ll {o1 o2} {a b} (h1:o1≠.dp) (h2:o2≠.dp) (hl:a.length + b.length < 10000):fAdd (o1,.lst a) (o2,.lst b)=some (.rt,.lst (a++b)):=by
 show (if a.length + b.length<=big/\loose _/\loose _ then _ else _)=_
 rw [if_pos ⟨by unfold big;lia,by cases o1<;>simp_all [loose],by cases o2<;>simp_all [loose]⟩]
theorem tup_l {o} {xs} (h:o≠.dp):fTuple (o,.lst xs)=some (.no,.tup xs):=by
 show (if loose _ then _ else _)=_
 rw [if_pos (by cases o<;>simp_all [loose])]
end Q
namespace Q
open PySem
noncomputable abbrev XP:=Str->Prop
theorem nd {α} {a b:α} (h:a=b):a=b:=h
@[irreducible] noncomputable def Eo {α:Type} (m:Option (Res α)) (P:En->α->Prop) (X:XP):Prop:=match m with
 | some (.ok E a)=>P E a
 | some (.exc _ c)=>X c
 | none=>False
@[irreducible] noncomputable def Vo {α:Type} (m:Option α) (P:α->Prop):Prop:=match m with
 | some a=>P a
 | none=>False
@[irreducible] noncomputable def Oo (f:Fn) (xs:List Sd) (P:Sd->Prop) (X:XP):Prop:=match f xs with
 | some (.ok _ y)=>P y
 | some (.exc _ c)=>X c
 | none=>False
@[irreducible] noncomputable def Po (r:Option Fl) (N C:En->Prop) (R:Sd->Prop) (X:XP):Prop:=match r with
 | some (.nx E)=>N E
 | some (.ct E)=>C E
 | some (.rt _ x)=>R x
 | some (.xc _ c)=>X c
 | _=>False
noncomputable abbrev noX:XP:=fun _=>False
section
variable {α β:Type} {P:En->α->Prop} {X:XP} {N C:En->Prop} {R:Sd->Prop} {E:En}
theorem eo_ok {a}:Eo (some (.ok E a)) P X=P E a:=nd (by with_unfolding_all rfl)
theorem eo_exc {c:Str}:Eo (some (.exc E c):Option _) P X=X c:=nd (by with_unfolding_all rfl)
theorem eo_none:Eo none P X=False:=nd (by with_unfolding_all rfl)
theorem eo_bnd {m} {f:En->β->Option _}:Eo (bnd m f) P X=Eo m (fun E a=>Eo (f E a) P X) X:=by
 cases m with
 | none=>with_unfolding_all rfl
 | some r=>cases r<;>with_unfolding_all rfl
theorem vo_some {a} {P:α->Prop}:Vo (some a) P=P a:=nd (by with_unfolding_all rfl)
theorem vo_map {x} {f:β->α} {P}:Vo (x.map f) P=Vo x (fun a=>P (f a)):=by cases x<;>with_unfolding_all rfl
theorem eo_val {x}:Eo (val E x) P X=Vo x (P E):=by cases x<;>with_unfolding_all rfl
theorem po_nx {E}:Po (some (.nx E)) N C R X=N E:=nd (by with_unfolding_all rfl)
theorem po_ofE {m} {f:En->α->Option Fl}:Po (ofE m f) N C R X=Eo m (fun E a=>Po (f E a) N C R X) X:=by
 cases m with
 | none=>with_unfolding_all rfl
 | some r=>cases r<;>with_unfolding_all rfl
theorem po_seq {a b}:Po (sSeq a b E) N C R X=Po (a E) (fun E=>Po (b E) N C R X) C R X:=by
 unfold sSeq Po
 cases a E with
 | none=>with_unfolding_all rfl
 | some r=>cases r<;>with_unfolding_all rfl
theorem Eo.mono {m} {P'} (h:Eo m P X) (k:∀ E a,P E a->P' E a):Eo m P' X:=by
 cases m with
 | none=>with_unfolding_all exact h
 | some r=>cases r with
  | ok E a=>with_unfolding_all exact k E a h
  | exc E c=>with_unfolding_all exact h
theorem Oo.mono {f} {xs} {P P'} (h:Oo f xs P X) (k:∀ y,P y->P' y):Oo f xs P' X:=by
 unfold Oo at h ⊢
 cases hf:f xs with
 | none=>simp_all
 | some r=>rw [hf] at h;cases r with
  | ok E a=>with_unfolding_all exact k a h
  | exc E c=>simp_all
theorem Oo.out {f} {xs} {P} (h:Oo f xs P noX):∃ E y,f xs=some (.ok E y)/\P y:=by
 unfold Oo at h
 cases hf:f xs with
 | none=>simp_all
 | some r=>rw [hf] at h;cases r with
  | ok E a=>with_unfolding_all exact ⟨E,a,rfl,h⟩
  | exc E c=>with_unfolding_all exact (h).elim
theorem Oo.eq {f} {xs} {P} (h:Oo f xs P noX):∃ y,P y/\∀ P' (X'),Oo f xs P' X'=P' y:=by
 obtain ⟨E,y,e,p⟩:=h.out
 with_unfolding_all exact ⟨y,p,fun P' X'=>by unfold Oo;rw [e]⟩
theorem oo_fn {n} {b} {xs} {P} (h:Po (b (xs.map some++List.replicate (n - xs.length) none)) (fun _=>P (.dp,.non)) (fun _=>False) P X):Oo (fn n b) xs P X:=by
 unfold Oo fn
 unfold Po at h
 cases hb:b _ with
 | none=>simp_all
 | some r=>rw [hb] at h;cases r<;>with_unfolding_all exact h
theorem eo_call {f} {cs} {P}:Eo (cCall f cs E) P X=Eo (cArgs cs E) (fun E xs=>Oo f (letAll xs) (P E) X) X:=by
 unfold cCall
 rw [eo_bnd]
 congr 1
 funext E xs
 unfold Oo
 cases f _ with
 | none=>with_unfolding_all rfl
 | some r=>cases r<;>with_unfolding_all rfl
theorem eo_callB {f:Fn} {cs:List Ex} {P:En->Sd->Prop}:Eo (cCallB f cs E) P X=Eo (cArgs cs E) (fun E xs=>Oo f (letAll xs) (fun y=>y.2.pure=true/\P E (.dp,y.2)) X) X:=by
 unfold cCallB
 rw [eo_bnd]
 congr 1
 funext E xs
 unfold Oo
 cases f _ with
 | none=>with_unfolding_all rfl
 | some r =>
  cases r with
  | exc=>with_unfolding_all rfl
  | ok E1 y =>
   dsimp only
   by_cases hp:y.2.pure=true
   ·rw [if_pos hp];with_unfolding_all exact propext ⟨fun h=>⟨hp,h⟩,fun h=>h.2⟩
   ·rw [if_neg hp];with_unfolding_all exact propext ⟨fun h=>(h).elim,fun h=>hp h.1⟩
noncomputable def andK (d:D) {α:Type} (a b:Option α):Option α:=match d with
 | .bl k=>if k=true then a else b
 | _=>none
theorem cAnd_is (a b:Ex):cAnd a b E=bnd (a E) fun E x=>andK x.2 (b E) (some (.ok E (.dp,.bl false))):=by
 unfold cAnd andK
 congr 1
 funext E x
 cases x.2 with
 | bl k=>cases k<;>with_unfolding_all rfl
 | _=>with_unfolding_all rfl
theorem po_forL {tg} {b} (I:En->List D->Prop) (hs:∀ E d ds,I E (d :: ds)->Vo (tg.put d E) fun E1=>Po (b E1) (fun E2=>I E2 ds) (fun E2=>I E2 ds) R X) (h1:∀ E,I E []->N E):∀ ds E,I E ds->Po (forL tg b ds E) N C R X
 | [],E,h=>by with_unfolding_all exact h1 E h
 | d :: ds,E,h=>by
  have h2:=hs E d ds h
  unfold forL
  cases hp:tg.put d E with
  | none=>rw [hp] at h2;with_unfolding_all exact (h2).elim
  | some E1 =>
   rw [hp] at h2
   have h2:Po (b E1) (fun E2=>I E2 ds) (fun E2=>I E2 ds) R X:=by with_unfolding_all exact h2
   dsimp only
   cases hb:b E1 with
   | none=>rw [hb] at h2;with_unfolding_all exact (h2).elim
   | some r =>
    rw [hb] at h2
    cases r with
    | nx E2=>with_unfolding_all exact po_forL I hs h1 ds E2 h2
    | ct E2=>with_unfolding_all exact po_forL I hs h1 ds E2 h2
    | rt E2 x=>with_unfolding_all exact h2
    | xc E2 c=>with_unfolding_all exact h2
    | bk E2=>with_unfolding_all exact (h2).elim
theorem po_for {it} {tg} {b} I (h0:Eo (it E) I X) (hs:∀ E d ds,I E (d :: ds)->Vo (tg.put d E) fun E1=>Po (b E1) (fun E2=>I E2 ds) (fun E2=>I E2 ds) R X) (h1:∀ E,I E []->N E):Po (sFor it tg b E) N C R X:=by
 show Po (ofE _ fun E ds=>forL tg b ds E) N C R X
 rw [po_ofE]
 with_unfolding_all exact h0.mono fun E ds h=>po_forL I hs h1 ds E h
theorem eo_lcL {tg} {t} {c} {P} (J:En->List D->List Sd->Prop) (hs:∀ B d ds acc,J B (d :: ds) acc->Vo (tg.put d B) fun B1=>Eo (t B1) (fun B2 k=>if k=true then Eo (c B2) (fun B3 y=>J B3 ds (acc++[y])) X else J B2 ds acc) X) (h1:∀ B acc,J B [] acc->P B acc):∀ ds B acc,J B ds acc->Eo (lcL tg t c ds B acc) P X
 | [],B,acc,h=>by with_unfolding_all exact h1 B acc h
 | d :: ds,B,acc,h=>by
  have h2:=hs B d ds acc h
  unfold lcL
  cases hp:tg.put d B with
  | none=>rw [hp] at h2;with_unfolding_all exact (h2).elim
  | some B1 =>
   rw [hp] at h2
   have h2:Eo (t B1) (fun B2 k=>if k=true then Eo (c B2) (fun B3 y=>J B3 ds (acc++[y])) X else J B2 ds acc) X:=by with_unfolding_all exact h2
   rw [eo_bnd]
   refine h2.mono fun B2 k h3=>?_
   cases k with
   | false=>with_unfolding_all exact eo_lcL J hs h1 ds B2 acc h3
   | true =>
    show Eo (bnd _ _) P X
    rw [eo_bnd]
    with_unfolding_all exact Eo.mono h3 fun B3 y h4=>eo_lcL J hs h1 ds B3 _ h4
theorem eo_lc {o} {k} {r} {it} {tg} {t} {c} {P} (J:En->En->List D->List Sd->Prop) (h0:Eo (it E) (fun E1 ds=>J E1 (lcIn k r E1) ds []) X)
  (hs:∀ E1 B d ds acc,J E1 B (d :: ds) acc->Vo (tg.put d B) fun B1=>Eo (t B1) (fun B2 k=>if k=true then Eo (c B2) (fun B3 y=>J E1 B3 ds (acc++[y])) X else J E1 B2 ds acc) X) (h1:∀ E1 B acc,J E1 B [] acc->Eo (mkL o (lcOut k r B E1) acc) P X):Eo (cLC o k r it tg t c E) P X:=by
 unfold cLC
 rw [eo_bnd]
 refine h0.mono fun E1 ds hJ=>?_
 have:=eo_lcL _ (hs E1) (h1 E1) ds _ _ hJ
 cases hl:lcL tg t c ds _ [] with
 | none=>rw [hl] at this;with_unfolding_all exact (this).elim
 | some q=>rw [hl] at this;cases q<;>with_unfolding_all exact this
end
theorem mulT_i {o1} {a} {y}:fMulT (o1,.int a) y=fMul (o1,.int a) y:=by
 unfold fMulT;with_unfolding_all rfl
noncomputable def sl (q:Option (Option Sd)):Option Sd:=match q with
 | some (some x)=>some x
 | _=>none
theorem sl_some {x}:sl (some (some x))=some x:=nd (by with_unfolding_all rfl)
noncomputable def andP (d:D) (a b:Prop):Prop:=match d with
 | .bl k=>if k=true then a else b
 | _=>False
theorem andP_bl {k} {a b}:andP (.bl k) a b=if k=true then a else b:=nd (by with_unfolding_all rfl)
noncomputable def Wo {α:Type} (m:Option α) (E:En) (P:En->α->Prop):Prop:=Vo m (P E)
theorem wo_some {α} {a} {E} {P:En->α->Prop}:Wo (some a) E P=P E a:=vo_some
theorem wo_map {α β} {x} {f:β->α} {E} {P}:Wo (x.map f) E P=Wo x E (fun E a=>P E (f a)):=vo_map
noncomputable def Oe (f:Fn) (xs:List Sd) (E:En) (P:En->Sd->Prop) (X:XP):Prop:=Oo f xs (P E) X
noncomputable def intP (d:D) (P:Int->Prop):Prop:=match d with
 | .int i=>P i
 | _=>False
noncomputable def Ie (d:D) (E:En) (P:En->Int->Prop):Prop:=intP d (P E)
theorem ie_i {i} {E} {P}:Ie (.int i) E P=P E i:=nd (by with_unfolding_all rfl)
section
variable {P:En->Sd->Prop} {T:En->Bool->Prop} {X:XP} {N C:En->Prop} {R:Sd->Prop} {E:En} {e:Option Sd} {a b c:Ex} {t u:Ts} {i:Nat}
theorem w_seq {a b}:Po (sSeq a b (e :: E)) N C R X=Po (a (e :: E)) (fun E=>Po (b E) N C R X) C R X:=po_seq
theorem w_asg:Po (sAsg i c (e :: E)) N C R X=Eo (c (e :: E)) (fun E x=>N (E.set i (some x))) X:=by unfold sAsg;rw [po_ofE];with_unfolding_all rfl
theorem w_ret:Po (sRet c (e :: E)) N C R X=Eo (c (e :: E)) (fun _ x=>R x) X:=by unfold sRet;rw [po_ofE];with_unfolding_all rfl
theorem w_pass:Po (sPass (e :: E)) N C R X=N (e :: E):=nd (by with_unfolding_all rfl)
theorem w_if {a b}:Po (sIf t a b (e :: E)) N C R X=Eo (t (e :: E)) (fun E k=>if k=true then Po (a E) N C R X else Po (b E) N C R X) X:=by
 unfold sIf;rw [po_ofE];congr 1;funext E k;cases k<;>with_unfolding_all rfl
theorem w_vV:Eo (vV i (e :: E)) P X=Wo (sl (e :: E)[i]?) (e :: E) P:=by
 unfold vV Wo
 cases (e :: E)[i]? with
 | none=>with_unfolding_all rfl
 | some q=>cases q<;>with_unfolding_all rfl
theorem w_cV:Eo (cV i (e :: E)) P X=Wo (sl (e :: E)[i]?) (e :: E) (fun E x=>P (E.set i (some (.no,x.2))) (.no,x.2)):=by
 unfold cV Wo
 cases (e :: E)[i]? with
 | none=>with_unfolding_all rfl
 | some q=>cases q<;>with_unfolding_all rfl
theorem w_cMv:Eo (cMv i (e :: E)) P X=Wo (sl (e :: E)[i]?) (e :: E) (fun E x=>P (E.set i none) x):=by
 unfold cMv Wo
 cases (e :: E)[i]? with
 | none=>with_unfolding_all rfl
 | some q=>cases q<;>with_unfolding_all rfl
theorem w_cC {d}:Eo (cC d (e :: E)) P X=P (e :: E) (.dp,d):=nd (by with_unfolding_all rfl)
theorem w_vE:Eo (vE c (e :: E)) P X=Eo (c (e :: E)) (fun E x=>P E (.no,x.2)) X:=by unfold vE;rw [eo_bnd];with_unfolding_all rfl
theorem w_cH:Eo (cH c (e :: E)) P X=Eo (c (e :: E)) (fun E x=>if x.1=.no then P E (.no,x.2) else if x.2.pure=true then P E (.dp,x.2) else False) X:=by
 unfold cH
 rw [eo_bnd]
 congr 1
 funext E x
 by_cases h:x.1=.no
 ·rw [if_pos h,if_pos h];with_unfolding_all rfl
 ·rw [if_neg h,if_neg h]
  by_cases h2:x.2.pure=true
  ·rw [if_pos h2,if_pos h2];with_unfolding_all rfl
  ·rw [if_neg h2,if_neg h2];with_unfolding_all rfl
theorem w_f1 {f}:Eo (cF1 f a (e :: E)) P X=Eo (a (e :: E)) (fun E x=>Wo (f x) E P) X:=by
 unfold cF1;rw [eo_bnd];congr 1;funext E x;exact eo_val
theorem w_f2 {f}:Eo (cF2 f a b (e :: E)) P X=Eo (a (e :: E)) (fun E x=>Eo (b E) (fun E y=>Wo (f x y) E P) X) X:=by
 unfold cF2;rw [eo_bnd];congr 1;funext E x;rw [eo_bnd];congr 1;funext E y;exact eo_val
theorem w_ix:Eo (vIxQ a b (e :: E)) P X=Eo (a (e :: E)) (fun E x=>Eo (b E) (fun E y=>Wo (fIxQ x.2 y.2) E (fun E d=>P E (sub x.1,d))) X) X:=by
 unfold vIxQ;rw [eo_bnd];congr 1;funext E x;rw [eo_bnd];congr 1;funext E y;rw [eo_val];exact vo_map
theorem w_tE:Eo (tE c (e :: E)) T X=Eo (c (e :: E)) (fun E x=>Wo (truth x.2) E T) X:=by
 unfold tE;rw [eo_bnd];congr 1;funext E x;exact eo_val
theorem w_tEQ:Eo (tEQ c (e :: E)) T X=Eo (c (e :: E)) (fun E x=>Wo (truthQ x.2) E T) X:=by
 unfold tEQ;rw [eo_bnd];congr 1;funext E x;exact eo_val
theorem w_tNot:Eo (tNot t (e :: E)) T X=Eo (t (e :: E)) (fun E k=>T E (!k)) X:=by unfold tNot;rw [eo_bnd];with_unfolding_all rfl
theorem w_tOr:Eo (tOr t u (e :: E)) T X=Eo (t (e :: E)) (fun E k=>if k=true then T E true else Eo (u E) T X) X:=by
 unfold tOr;rw [eo_bnd];congr 1;funext E k;cases k<;>with_unfolding_all rfl
theorem w_tYes:Eo (tYes (e :: E)) T X=T (e :: E) true:=nd (by with_unfolding_all rfl)
theorem w_cIf:Eo (cIf t a b (e :: E)) P X=Eo (t (e :: E)) (fun E k=>if k=true then Eo (a E) P X else Eo (b E) P X) X:=by
 unfold cIf;rw [eo_bnd];congr 1;funext E k;cases k<;>with_unfolding_all rfl
theorem w_cAnd:Eo (cAnd a b (e :: E)) P X=Eo (a (e :: E)) (fun E x=>andP x.2 (Eo (b E) P X) (P E (.dp,.bl false))) X:=by
 rw [cAnd_is,eo_bnd];congr 1;funext E x
 cases x.2 with
 | bl k=>cases k<;>with_unfolding_all rfl
 | _=>with_unfolding_all rfl
theorem w_cNotQ:Eo (cNotQ c (e :: E)) P X=Eo (c (e :: E)) (fun E x=>Wo (truthQ x.2) E (fun E k=>P E (.dp,.bl (!k)))) X:=by
 unfold cNotQ;rw [eo_bnd];congr 1;funext E x;rw [eo_val];exact vo_map
theorem w_call {f} {cs}:Eo (cCall f cs (e :: E)) P X=Eo (cArgs cs (e :: E)) (fun E xs=>Oe f (letAll xs) E P X) X:=by with_unfolding_all exact eo_call
theorem w_callB {f:Fn} {cs:List Ex}:Eo (cCallB f cs (e :: E)) P X=Eo (cArgs cs (e :: E)) (fun E xs=>Oe f (letAll xs) E (fun E y=>y.2.pure=true/\P E (.dp,y.2)) X) X:=by with_unfolding_all exact eo_callB
theorem w_partN {P}:Eo (cPart none (e :: E)) P X=P (e :: E) none:=nd (by with_unfolding_all rfl)
theorem w_partS {P}:Eo (cPart (some c) (e :: E)) P X=Eo (c (e :: E)) (fun E x=>Ie x.2 E (fun E i=>P E (some i))) X:=by
 show Eo (bnd _ _) P X=_
 rw [eo_bnd];congr 1;funext E x
 cases x.2<;>with_unfolding_all rfl
theorem w_sl {lo hi}:Eo (cSl a lo hi (e :: E)) P X=Eo (a (e :: E)) (fun E x=>Eo (cPart lo E) (fun E l=>Eo (cPart hi E) (fun E h=>Wo (fSl x l h) E P) X) X) X:=by
 unfold cSl;rw [eo_bnd];congr 1;funext E x;rw [eo_bnd];congr 1;funext E l;rw [eo_bnd];congr 1;funext E h;exact eo_val
theorem w_idx:Eo (cIdx a b (e :: E)) P X=Eo (a (e :: E)) (fun E x=>if isSq x.2=true then Eo (b E) (fun E y=>Wo (fIndex x.2 y.2) E (fun E d=>P E (.dp,d))) X else False) X:=by
 unfold cIdx;rw [eo_bnd];congr 1;funext E x
 cases isSq x.2 with
 | false=>with_unfolding_all rfl
 | true =>
  show Eo (bnd _ _) P X=_
  rw [eo_bnd]
  congr 1;funext E y;rw [eo_val];exact vo_map
theorem w_itS {P}:Eo (itS c (e :: E)) P X=Eo (c (e :: E)) (fun E x=>Wo (seqOf x.2) E P) X:=by
 unfold itS
 rw [eo_bnd]
 congr 1
 funext E x
 exact eo_val
end
theorem args_nil {e} {E:En} {P} {X}:Eo (cArgs [] (e :: E)) P X=P (e :: E) []:=nd (by with_unfolding_all rfl)
theorem args_cons {e} {E:En} {c} {cs} {P} {X}:Eo (cArgs (c :: cs) (e :: E)) P X=Eo (c (e :: E)) (fun E x=>Eo (cArgs cs E) (fun E xs=>P E (x :: xs)) X) X:=by
 show Eo (bnd _ fun E x=>bnd _ fun E xs=>some _) P X=_
 rw [eo_bnd]
 congr 1
 funext E x
 rw [eo_bnd]
 with_unfolding_all rfl
theorem eo_tup {e} {E:En} {cs} {P} {X}:Eo (cTup .no cs (e :: E)) P X=Eo (cArgs cs (e :: E)) (fun E xs=>P E (.no,.tup (xs.map (·.2)))) X:=by
 unfold cTup
 rw [eo_bnd]
 with_unfolding_all rfl
theorem eo_lst {e} {E:En} {cs} {P} {X}:Eo (cLst .rt cs (e :: E)) P X=Eo (cArgs cs (e :: E)) (fun E xs=>P E (.rt,.lst (xs.map (·.2)))) X:=by
 unfold cLst
 rw [eo_bnd]
 with_unfolding_all rfl
theorem itR1_is {c} {E} {P} {X} (h:Eo (c E) (fun E x=>∃ n,x.2=.int n/\n<=1000/\-1000<=n/\P E (rangeD 0 n)) X):Eo (itR1 c E) P X:=by
 unfold itR1
 rw [eo_bnd]
 refine h.mono ?_
 rintro E ⟨o,d⟩ ⟨n,rfl,h1,h2,h3⟩
 have:small62 n=true:=by unfold small62;rw [decide_eq_true (by lia),decide_eq_true (by lia)];with_unfolding_all rfl
 show Eo (if small62 n=true/\n.toNat<=big then _ else _) P X
 rw [if_pos ⟨this,by unfold big;lia⟩]
 with_unfolding_all exact h3
theorem app_is {i:Nat} {c} {E:En} {o} {xs} {N C} {R} {X} (h0:E[i]?=some (some (o,.lst xs)))
  (h:Eo (c E) (fun E1 x=>∃ o ys,E1[i]?=some (some (o,.lst ys))/\o≠.no/\ys.length < 10000/\N (E1.set i (some (if o=.dp/\tight x then .dp else .rt,.lst (ys++[x.2]))))) X):Po (sMut1 gApp i c E) N C R X:=by
 unfold sMut1
 rw [h0,if_pos (show isLst _=true from rfl),po_ofE]
 refine h.mono ?_
 rintro E1 x ⟨o,ys,h1,h2,h3,h4⟩
 rw [h1]
 dsimp only
 have hg:gApp ys x.2=some (ys++[x.2]):=by unfold gApp;rw [if_pos (by unfold big;lia)]
 rw [if_neg h2,hg]
 with_unfolding_all exact h4
theorem app_rt {i:Nat} {c} {E:En} {xs} {N C} {R} {X} (h0:E[i]?=some (some (.rt,.lst xs)))
  (h:Eo (c E) (fun E1 x=>∃ ys,E1[i]?=some (some (.rt,.lst ys))/\ys.length < 10000/\N (E1.set i (some (.rt,.lst (ys++[x.2]))))) X):Po (sMut1 gApp i c E) N C R X :=
 app_is h0 (h.mono fun E1 x ⟨ys,h1,h2,h3⟩=>⟨.rt,ys,h1,by decide,h2,by rw [];with_unfolding_all exact h3⟩)
theorem rng_ok {n} (h1:-1000<=n) (h2:n<=1000):(small62 n=true/\n.toNat<=big)=True:=by
 have:small62 n=true:=by unfold small62;rw [decide_eq_true (by lia),decide_eq_true (by lia)];with_unfolding_all rfl
 with_unfolding_all exact eq_true ⟨this,by unfold big;lia⟩
theorem rng2_ok {m n:Int} (h1:-1000<=n) (h2:n<=1000) (h3:-1000<=m) (h4:m<=1000):(small62 m=true/\small62 n=true/\(n - m).toNat<=big)=True:=by
 have a1:small62 n=true:=by unfold small62;rw [decide_eq_true (by lia),decide_eq_true (by lia)];with_unfolding_all rfl
 have a2:small62 m=true:=by unfold small62;rw [decide_eq_true (by lia),decide_eq_true (by lia)];with_unfolding_all rfl
 with_unfolding_all exact eq_true ⟨a2,a1,by unfold big;lia⟩
theorem eo_pite {α} {p} [Decidable p] {a} {P:En->α->Prop} {X}:Eo (if p then a else none) P X=(p/\Eo a P X):=by
 by_cases h:p
 ·simp_all
 ·rw [if_neg h];with_unfolding_all exact propext ⟨fun z=>z.elim,fun z=>h z.1⟩
theorem w_R1 {c} {e} {E:En} {P} {X}:Eo (itR1 c (e :: E)) P X=Eo (c (e :: E)) (fun E x=>Ie x.2 E fun E n=>(small62 n=true/\n.toNat<=big)/\P E (rangeD 0 n)) X:=by
 unfold itR1;rw [eo_bnd];congr 1;funext E x
 cases x.2 with
 | int n=>with_unfolding_all exact eo_pite
 | _=>with_unfolding_all rfl
theorem w_LR1 {c} {e} {E:En} {P} {X}:Eo (cLR1 c (e :: E)) P X=Eo (c (e :: E)) (fun E x=>Ie x.2 E fun E n=>(small62 n=true/\n.toNat<=big)/\P E (.rt,.lst (rangeD 0 n))) X:=by
 unfold cLR1;rw [eo_bnd];congr 1;funext E x
 cases x.2 with
 | int n=>with_unfolding_all exact eo_pite
 | _=>with_unfolding_all rfl
theorem w_R2 {c c':Ex} {e:Option Sd} {E:En} {P:En->List D->Prop} {X:XP}:Eo (itR2 c c' (e :: E)) P X=Eo (c (e :: E)) (fun E x=>Eo (c' E) (fun E y=>Ie x.2 E fun E m=>Ie y.2 E fun E n=>(small62 m=true/\small62 n=true/\(n - m).toNat<=big)/\P E (rangeD m n)) X) X:=by
 unfold itR2;rw [eo_bnd];congr 1;funext E x;rw [eo_bnd];congr 1;funext E y
 cases x.2 with
 | int m=>cases y.2 with
  | int n=>with_unfolding_all exact eo_pite
  | _=>with_unfolding_all rfl
 | _=>with_unfolding_all rfl
theorem lst_dp0 {e:Option Sd} {E:En} {P:En->Sd->Prop} {X:XP}:Eo (cLst .dp [] (e :: E)) P X=P (e :: E) (.dp,.lst []):=nd (by with_unfolding_all rfl)
theorem mkL_dp {E:En} {ys:List Sd} {P:En->Sd->Prop} {X:XP} (h:ys.all tight=true):Eo (mkL .dp E ys) P X=P E (.dp,.lst (ys.map (·.2))):=by
 unfold mkL;rw [if_pos h];with_unfolding_all rfl
theorem sl_ll {o:Own} {xs:List D} {lo hi:Option Int} (h:o≠.dp):fSl (o,.lst xs) lo hi=some (.rt,.lst (cutD xs lo hi)):=by
 show (if loose _ then _ else _)=_
 rw [if_pos (by cases o<;>simp_all [loose])]
theorem sub_no:sub .no=.no:=nd (by with_unfolding_all rfl)
theorem sub_rt:sub .rt=.no:=nd (by with_unfolding_all rfl)
theorem sub_dp:sub .dp=.dp:=nd (by with_unfolding_all rfl)
theorem Oo.use {ι} {f} {xs} {g:ι->Sd} {S:ι->Prop} {E} {P} {X} (h:Oo f xs (fun y=>∃ i,y=g i/\S i) X) (k:∀ i,S i->P E (g i)):Oe f xs E P X:=h.mono fun y ⟨i,e,s⟩=>e▸k i s
theorem Oo.via {f} {xs} {S} {E} {P} {X} (h:Oo f xs S X) (k:∀ y,S y->P E y):Oe f xs E P X:=h.mono k
theorem mkL_rt {E} {ys} {P} {X}:Eo (mkL .rt E ys) P X=P E (.rt,.lst (ys.map (·.2))):=nd (by with_unfolding_all rfl)
theorem pop_is {i:Nat} {c:Ex} {E:En} {o:Own} {xs:List D} {P:En->Sd->Prop} {X:XP} (h0:E[i]?=some (some (o,.lst xs)))
  (h:Eo (c E) (fun E1 x=>∃ (o:Own) (ys:List D) (k:Int) (d:D),E1[i]?=some (some (o,.lst ys))/\o≠.no/\x.2=.int k/\0<=k/\k<=1000/\ys[k.toNat]?=some d/\d.pure=true/\P (E1.set i (some (o,.lst (ys.eraseIdx k.toNat)))) (.dp,d)) X):Eo (cPop i c E) P X:=by
 unfold cPop
 rw [h0,if_pos (show isLst _=true from rfl),eo_bnd]
 refine h.mono ?_
 rintro E1 ⟨o',d'⟩ ⟨o,ys,k,d,h1,h2,e,k0,k1,h3,h4,h5⟩
 subst e
 have hl:=(List.getElem?_eq_some_iff.mp h3).1
 have hx:ixN ys.length k=some k.toNat:=by unfold ixN;rw [if_pos k0,if_pos (by lia)]
 have hs:small62 k=true:=by unfold small62;rw [decide_eq_true (by lia),decide_eq_true (by lia)];with_unfolding_all rfl
 rw [h1]
 dsimp only
 rw [if_neg h2,hx]
 dsimp only
 rw [h3]
 dsimp only
 rw [h4,hs,if_pos (by decide),eo_ok]
 exact h5
theorem w_zip {c d:Ex} {e:Option Sd} {E:En} {P:En->List D->Prop} {X:XP}:Eo (itZip c d (e :: E)) P X=Eo (c (e :: E)) (fun E x=>Eo (d E) (fun E y=>Wo ((lstOf x.2).bind fun xs=>(lstOf y.2).bind fun ys=>if xs.length<=big then some (zipD xs ys) else none) E P) X) X:=by
 unfold itZip;rw [eo_bnd];congr 1;funext E x;rw [eo_bnd];congr 1;funext E y;exact eo_val
theorem w_chain {f g} {a b c} {e} {E:En} {P} {X}:Eo (cChain f g a b c (e :: E)) P X=Eo (a (e :: E)) (fun E x=>Eo (b E) (fun E y=>Wo (f x.2 y.2) E fun E d=>andP d (Eo (c E) (fun E z=>Wo (g y.2 z.2) E fun E d=>P E (.dp,d)) X) (P E (.dp,.bl false))) X) X:=by
 unfold cChain
 rw [eo_bnd]
 congr 1
 funext E x
 rw [eo_bnd]
 congr 1
 funext E y
 cases f x.2 y.2 with
 | none=>with_unfolding_all rfl
 | some d =>
  rw [wo_some]
  cases d with
  | bl k =>
   rw [andP_bl]
   cases k with
   | false=>with_unfolding_all rfl
   | true =>
    dsimp only
    rw [eo_bnd]
    congr 1
    funext E z
    rw [eo_val]
    exact vo_map
  | _=>with_unfolding_all rfl
theorem w_rz {c:Str} {e:Option Sd} {E:En} {N C:En->Prop} {R:Sd->Prop} {X:XP}:Po (sRz c (e :: E)) N C R X=X c:=nd (by with_unfolding_all rfl)
noncomputable def Ox (f:Fn) (xs:List Sd) (E:En) (P:En->Sd->Prop) (Y:En->Str->Prop):Prop:=Oo f xs (P E) (Y E)
theorem Oo.ox {f:Fn} {xs:List Sd} {S:Sd->Prop} {W:XP} {E:En} {P:En->Sd->Prop} {Y:En->Str->Prop} (h:Oo f xs S W) (k:∀ y,S y->P E y) (l:∀ c,W c->Y E c):Ox f xs E P Y:=by
 unfold Ox Oo at *
 cases hf:f xs with
 | none=>simp_all
 | some r=>rw [hf] at h;cases r with
  | ok E a=>with_unfolding_all exact k a h
  | exc E c=>with_unfolding_all exact l c h
theorem po_end {i:Nat} {m:Option Fl} {N C:En->Prop} {R:Sd->Prop} {X:XP}:Po (tryEnd i m) N C R X=Po m (fun E=>N (E.set i none)) (fun E=>C (E.set i none)) R noX:=by
 cases m with
 | none=>with_unfolding_all rfl
 | some r=>cases r<;>with_unfolding_all rfl
theorem w_tryE {cs:List Str} {i:Nat} {f:Fn} {as:List Ex} {h:Sm} {e:Option Sd} {E:En} {N C:En->Prop} {R:Sd->Prop} {X:XP}:Po (sTry cs i (sExpr (cCallT f as)) h (e :: E)) N C R X =
  Eo (cArgs as (e :: E)) (fun E xs=>Ox f (letAll xs) E (fun E _=>N E) (fun E c=>c∈cs/\Po (h (E.set i (some (.no,.obj c [])))) (fun E=>N (E.set i none)) (fun E=>C (E.set i none)) R noX)) noX:=by
 unfold sTry sExpr cCallT
 cases cArgs as _ with
 | none=>with_unfolding_all rfl
 | some r =>
  cases r with
  | exc E1 c=>with_unfolding_all rfl
  | ok E1 xs =>
   rw [eo_ok]
   unfold Ox Oo
   dsimp only
   cases f _ with
   | none=>with_unfolding_all rfl
   | some r =>
    cases r with
    | ok E2 y=>with_unfolding_all rfl
    | exc E2 c =>
     dsimp only [ofE]
     by_cases hc:c∈cs
     ·rw [if_pos hc,po_end]
      simp_all
     ·rw [if_neg hc]
      with_unfolding_all exact propext ⟨fun z=>(z).elim,fun z=>absurd z.1 hc⟩
theorem isx_is {t:List _} {c:Str} {k:Bool} {fs:List _} (h:t.lookup c=some k):fIsX t (.obj c fs)=some (.bl k):=by unfold fIsX;dsimp only;rw [h];rfl
end Q
namespace Q
open PySem
section
variable {a b c kc vc:Ex} {e:Option Sd} {E:En} {X:XP} {N C:En->Prop} {R:Sd->Prop} {P:En->Sd->Prop}
theorem w_join {z}:Eo (cJoin z c (e :: E)) P X=Eo (c (e :: E)) (fun E x=>Wo (fJoin z x.2) E (fun E d=>P E (.dp,d))) X:=by
 unfold cJoin;rw [eo_bnd];congr 1;funext E x;rw [eo_val];exact vo_map
end
end Q
namespace Q
open PySem
section
variable {a b c kc vc:Ex} {e:Option Sd} {E:En} {X:XP} {N C:En->Prop} {R:Sd->Prop} {P:En->Sd->Prop}
theorem w_idxS:Eo (cIdxS a b (e :: E)) P X=Eo (a (e :: E)) (fun E x=>isStrD x.2=true/\Eo (b E) (fun E y=>Wo (fIdxS x.2 y.2) E (fun E d=>P E (.dp,d))) X) X:=by
 unfold cIdxS
 rw [eo_bnd];congr 1;funext E x
 rw [eo_pite];congr 1
 rw [eo_bnd];congr 1;funext E y;rw [eo_val];exact vo_map
end
end Q
namespace Q
open PySem
section
variable {a b c:Ex} {cs:List Ex} {e:Option Sd} {E:En} {X:XP} {N C:En->Prop} {R:Sd->Prop} {P:En->Sd->Prop} {i r:Nat} {p:List Nat} {d:D} {ds:List D}
theorem w_own:Eo (cOwn c (e :: E)) P X=Eo (c (e :: E)) (fun E x=>ownT x=true/\P E (.dp,x.2)) X:=by
 unfold cOwn
 rw [eo_bnd];congr 1;funext E x
 rw [eo_pite,eo_ok]
end
end Q
noncomputable section
noncomputable section
namespace C
open PySem Q
noncomputable def m_read_by:Fn:=fn 8
  (sSeq (sIf (tOr (tE (cF2 (f2First fIsNon) (vV 1) (vE (cC .non)))) (tE (cF2 (pu2 fNotInQ) (vV 2) (vIxQ (vV 0) (vE (cC (.int 0))))))) (sRet (cC .non)) sPass)
  (sSeq (sAsg 4 (cH (vIxQ (vV 1) (vE (cC (.int 1))))))
  (sSeq (sAsg 5 (cH (vIxQ (vIxQ (vIxQ (vIxQ (vV 0) (vE (cC (.int 1)))) (vIxQ (vV 1) (vE (cC (.int 0))))) (vE (cC (.int 2)))) (vE (cIdx (vIxQ (vV 0) (vE (cC (.int 0)))) (vV 2))))))
  (sSeq (sAsg 6 (cH (vIxQ (vV 5) (vE (cIf (tE (cF2 (pu2 fInQ) (vV 3) (vV 4))) (cIdx (vV 4) (vV 3)) (cF1 (pu1 fLen) (vV 4)))))))
  (sSeq (sIf (tE (cF2 (f2First fIsNon) (vV 6) (vE (cC .non)))) (sRet (cC .non)) sPass)
  (sSeq (sAsg 7 (cF2 fAdd (vV 4) (vE (cTup .no [(cV 3)]))))
  (sRet (cTup .no [(cH (vIxQ (vV 6) (vE (cC (.int 0))))),(cF1 fTuple (vE (cLC .rt 1 [7] (itS (cH (vIxQ (vV 6) (vE (cC (.int 1)))))) (.n 0) tYes (cH (vIxQ (vV 1) (vV 0))))))]))))))))
end C
local macro_rules
 | `(tactic| simp! only [$ts,*])=>`(tactic| simp (config:={ maxSteps:=1000000,failIfUnchanged:=false,implicitDefEqProofs:=true }) (disch:=lia) only [↓Q.w_seq,↓Q.w_asg,↓Q.w_ret,↓Q.w_pass,↓Q.w_if,↓Q.w_vV,↓Q.w_cV,↓Q.w_cMv,↓Q.w_cC,↓Q.w_vE,↓Q.w_cH,↓Q.w_f1,↓Q.w_f2,↓Q.w_ix,↓Q.w_tE,↓Q.w_tEQ,↓Q.w_tNot,↓Q.w_tOr,↓Q.w_tYes,↓Q.w_cIf,↓Q.w_cAnd,↓Q.w_cNotQ,↓Q.w_call,↓Q.w_callB,↓Q.w_partN,↓Q.w_partS,↓Q.w_sl,↓Q.w_idx,↓Q.w_itS,↓Q.w_zip,↓Q.w_chain,↓Q.w_rz,↓Q.w_tryE,↓Q.w_R1,↓Q.w_R2,↓Q.w_LR1,Q.rng_ok,Q.rng2_ok,true_and,Q.lst_dp0,↓Q.ie_i,Q.isSq,Q.sl_some,↓Q.andP_bl,↓Q.vo_some,↓Q.vo_map,↓Q.wo_some,↓Q.wo_map,↓Q.args_nil,↓Q.args_cons,↓Q.eo_tup,↓Q.eo_lst,Q.letAll,Q.pu2,Q.pu1,Q.f2First,Q.fIsNon,Q.fNotNon,Q.isNon,List.map_cons,List.map_nil,List.cons_append,List.nil_append,List.length_cons,List.length_nil,List.length_map,Nat.reduceAdd,Nat.reduceSub,List.replicate,List.set_cons_zero,List.set_cons_succ,List.getElem?_cons_zero,List.getElem?_cons_succ,Q.len_l,Q.len_t,Q.lt_ii,Q.gt_ii,Q.le_ii,Q.add_i,Q.sub_i,Q.div_i,Q.mod_i,Q.mulT_i,Q.mul_l,Option.map_some,Q.truth,Q.truthQ,Q.D.pure,↓reduceIte,if_true,if_false,ite_true,ite_false,Q.sub_no,Q.sub_rt,Q.sub_dp,Bool.false_eq_true,reduceCtorEq,Bool.not_true,Bool.not_false,Q.Tg.put,Q.setAll,Q.seqOf,Q.lstOf,$ts,*])
namespace C
open Q PySem
noncomputable abbrev most:Int:=1000 * 10 ^ 64
noncomputable abbrev iL (ns:List Int):D:=.lst (ns.map D.int)
end C
namespace C
open Q PySem
noncomputable def Each (G:D->Sd->Prop):List D->List Sd->Prop
 | [],[]=>True
 | d :: ds,y :: ys=>G d y/\Each G ds ys
 | _,_=>False
theorem Each.snoc {G} {d} {y} (h:G d y):∀ {ds} {ys},Each G ds ys->Each G (ds++[d]) (ys++[y])
 | [],[],_=>⟨h,trivial⟩
 | _ :: _,_ :: _,r=>⟨r.1,Each.snoc h r.2⟩
theorem eo_each {X} {E} {o} {r:List Nat} {it} {c} {P} (rest:En) G (h0:Eo (it E) (fun E1 ds=>r.map (at' E1)=rest/\(∀ d∈ds,Eo (c (some (.no,d) :: rest)) (fun B y=>(∃ q,B=q :: rest)/\G d y) X)/\∀ ys,Each G ds ys->Eo (mkL o (back r rest (clr r E1)) ys) P X) X):Eo (cLC o 1 r it (.n 0) tYes c E) P X:=by
 refine eo_lc (fun E1 B ds2 acc=>∃ ds ds1 q,ds=ds1++ds2/\B=q :: rest/\Each G ds1 acc/\(∀ d∈ds,Eo (c (some (.no,d) :: rest)) (fun B y=>(∃ q,B=q :: rest)/\G d y) X)/\∀ ys,Each G ds ys->Eo (mkL o (back r rest (clr r E1)) ys) P X) ?_ ?_ ?_
 ·refine h0.mono fun E1 ds ⟨h1,h2,h3⟩=>⟨ds,[],none,rfl,by rw [← h1];rfl,trivial,h2,h3⟩
 ·rintro E1 B d ds2 acc ⟨ds,ds1,q,e,rfl,hE,h2,h3⟩
  have hp:(Tg.n 0).put d (q :: rest)=some (some _ :: rest):=rfl
  rw [hp,vo_some,show tYes _=some _ from rfl,eo_ok]
  refine (h2 d (by rw [e];simp)).mono ?_
  rintro B y ⟨⟨q',rfl⟩,hG⟩
  exact ⟨ds,ds1++[d],q',by rw [e];simp,rfl,hE.snoc hG,h2,h3⟩
 ·rintro E1 B acc ⟨ds,ds1,q,e,rfl,hE,h2,h3⟩
  rw [List.append_nil] at e
  subst e
  exact h3 acc hE
theorem range_nil {n}:rangeD n n=[]:=by unfold rangeD;rw [Int.sub_self];rfl
theorem range_cons {k n} (h:k < n):rangeD k n=.int k :: rangeD (k + 1) n:=by
 unfold rangeD
 have:(n - k).toNat=(n - (k + 1)).toNat + 1:=by
  obtain ⟨m,hm⟩:=Int.eq_ofNat_of_zero_le (show 0<=n - (k + 1) by lia)
  rw [hm,show n - k=(m + 1:Nat) by lia]
  rfl
 rw [this,List.range_succ_eq_map,List.map_cons,List.map_map]
 congr 1
 ·simp
 ·apply List.map_congr_left
  intro i _
  grind
theorem range_out {k n} {d} {ds} (hk:k<=n) (h:d :: ds=rangeD k n):k < n/\d=.int k/\ds=rangeD (k + 1) n:=by
 by_cases hl:k < n
 ·rw [range_cons hl] at h
  injection h with h1 h2
  exact ⟨hl,h1,h2⟩
 ·have:k=n:=by lia
  subst this
  rw [range_nil] at h
  grind
theorem range_end {k n} (hk:k<=n) (h:[]=rangeD k n):k=n:=by
 by_cases hl:k < n
 ·rw [range_cons hl] at h;cases h
 ·lia
theorem mem_rng {k n} {d} (h:d∈rangeD k n):∃ i,k<=i/\i < n/\d=.int i:=by
 obtain ⟨j,hj,rfl⟩:=List.mem_map.mp h
 have:=List.mem_range.mp hj
 exact ⟨k + j,by lia,by lia,rfl⟩
theorem len_rng {k n} (h:k<=n):((rangeD k n).length:Int)=n - k:=by
 unfold rangeD;rw [List.length_map,List.length_range];lia
theorem add_ss {o1 o2} {a b} (h:a.cps.size + b.cps.size<=10000):fAdd (o1,.str a) (o2,.str b)=some (.dp,.str (a++b)):=by
 show (if a.cps.size + b.cps.size<=big then _ else _)=_
 rw [if_pos (by unfold big;lia)]
theorem size_app (a b:Str):(a++b).cps.size=a.cps.size + b.cps.size:=by
 exact Array.size_append
theorem strs_is:∀ ss,strsD (ss.map D.str)=some ss
 | []=>rfl
 | s :: ss=>by rw [List.map_cons,strsD,strs_is ss];rfl
theorem srt_strs {o:Own} {ss:List Str} (h:ss.length < 64):fSorted (o,.lst (ss.map D.str))=some (.rt,.lst ((sortS ss).map D.str)):=by
 unfold fSorted
 dsimp only
 rw [strs_is]
 dsimp only
 rw [if_pos h]
theorem insS_len (a):∀ r,(insS a r).length=r.length + 1
 | []=>rfl
 | b :: r=>by unfold insS;split<;>simp [insS_len a r]
theorem sortS_len:∀ r,(sortS r).length=r.length
 | []=>rfl
 | a :: r=>by rw [sortS,insS_len,sortS_len r];rfl
noncomputable abbrev sL (ss:List Str):D:=.lst (ss.map D.str)
end C
namespace C
open Q PySem
theorem ixI ks (S:Int->Prop) (hS:∀ k∈ks,S k) i (h0:0<=i) (h1:i < ks.length):∃ v,fIxQ (iL ks) (.int i)=some (.int v)/\S v/\ks[i.toNat]?=some v:=by
 have hl:i.toNat < ks.length:=by lia
 refine ⟨ks[i.toNat],ix_l h0 (by rw [List.getElem?_map,List.getElem?_eq_getElem hl];rfl),hS _ (List.getElem_mem hl),List.getElem?_eq_getElem hl⟩
end C
namespace C
open Q PySem
theorem flats_of {n}:∀ {ks},(∀ k∈ks,k.flat n=true)->D.flats n ks=true
 | [],_=>by cases n<;>simp [D.flats]
 | k :: ks,h=>by rw [D.flats,h k List.mem_cons_self,flats_of fun e he=>h e (List.mem_cons_of_mem _ he)];rfl
mutual
theorem peq_refl:∀ {n} (d),d.flat n=true->peq d d=true
 | n,.non,_=>by simp [peq]
 | n,.bl b,_=>by simp [peq]
 | n,.int b,_=>by simp [peq]
 | n,.str b,_=>by simp [peq]
 | 0,.lst xs,h=>by simp [D.flat] at h
 | n + 1,.tup xs,h=>peqs_refl xs (by simpa [D.flat] using h)
 | n + 1,.lst xs,h=>peqs_refl xs (by simpa [D.flat] using h)
 | n,.dct _,h=>by cases n<;>simp [D.flat] at h
 | n,.obj _ _,h=>by cases n<;>simp [D.flat] at h
theorem peqs_refl:∀ {n} ds,D.flats n ds=true->peqs ds ds=true
 | _,[],_=>by simp [peqs]
 | n,d :: ds,h=>by
  rw [D.flats,Bool.and_eq_true] at h
  rw [peqs,peq_refl d h.1,peqs_refl ds h.2];rfl
end
theorem eq_self {d} (h:d.flat 40=true):fEq d d=some (.bl true):=by unfold fEq;rw [h,peq_refl d h];rfl
theorem ne_self {d:D} (h:d.flat 40=true):fNe d d=some (.bl false):=by unfold fNe;rw [h,peq_refl d h];rfl
theorem p0 (a b:D):fIxQ (.tup [a,b]) (.int 0)=some a:=rfl
theorem p1 (a b:D):fIxQ (.tup [a,b]) (.int 1)=some b:=rfl
theorem t0 (a b c:D):fIxQ (.tup [a,b,c]) (.int 0)=some a:=rfl
theorem t1 (a b c):fIxQ (.tup [a,b,c]) (.int 1)=some b:=rfl
theorem t2 (a b c):fIxQ (.tup [a,b,c]) (.int 2)=some c:=rfl
theorem each_map {G} {h} (hG:∀ d y,G d y->y.2=h d):∀ {ds} {ys},Each G ds ys->ys.map (·.2)=ds.map h
 | [],[],_=>rfl
 | d :: ds,y :: ys,r=>by rw [List.map_cons,List.map_cons,hG d y r.1,each_map hG r.2]
noncomputable abbrev mach (ss:List Str) (rs:List D):D:=.tup [sL ss,.lst rs]
end C
namespace C
open Q PySem
theorem list_l {o} {xs} (h:o≠.dp):fList (o,.lst xs)=some (.rt,.lst xs):=by
 show (if loose _ then _ else _)=_
 rw [if_pos (by cases o<;>simp_all [loose])]
theorem nin_s {z} {ss}:fNotInQ (.str z) (sL ss)=some (.bl (!ss.any fun w=>w == z)):=by
 show fNotIn _ _=_
 unfold fNotIn
 have:fIn (.str z) (sL ss)=some (.bl (ss.any fun w=>w == z)):=by
  show (if (D.str z).flat 30 && D.flats 30 _ then some _ else none)=_
  rw [flats_of (fun k hk=>by obtain ⟨w,_,rfl⟩:=List.mem_map.mp hk;rfl),List.any_map]
  rfl
 rw [this];rfl
end C
namespace C
open Q PySem
theorem in_i {p} {ks}:fInQ (.int p) (iL ks)=some (.bl (ks.any fun w=>w == p)):=by
 show (if (D.int p).flat 30 && D.flats 30 _ then some _ else none)=_
 rw [flats_of (fun k hk=>by obtain ⟨w,_,rfl⟩:=List.mem_map.mp hk;rfl),List.any_map]
 rfl
theorem in_it {p} {ks:List Int}:fInQ (.int p) (.tup (ks.map D.int))=some (.bl (ks.any fun w=>w == p)):=by
 show (if (D.int p).flat 30 && D.flats 30 _ then some _ else none)=_
 rw [flats_of (fun k hk=>by obtain ⟨w,_,rfl⟩:=List.mem_map.mp hk;rfl),List.any_map]
 rfl
theorem any_mem {p} {ks:List Int}:(ks.any fun w=>w == p)=decide (p∈ks):=by
 rw [Bool.eq_iff_iff]
 simp
end C
namespace C
open Q PySem
noncomputable def bnd1 (own k:Int):Int:=own + (if k=own then 1 else 0)
noncomputable def Cs (kps:List Int) (b:Int) (c:D):Prop:=c=.non\/∃ (to:Int) (fs:List Int),c=.tup [.int to,.tup (fs.map D.int)]/\0<=to/\to < kps.length/\(∀ f∈fs,0<=f/\f < b)/\fs.Nodup/\(fs.length:Int)=kps.getD to.toNat 0
theorem erase_perm {α:Type}:∀ {l:List α} {i} (h),(l[i] :: l.eraseIdx i).Perm l
 | a :: l,0,h=>List.Perm.refl _
 | a :: l,i + 1,h=>by
  have:=erase_perm (by simpa using h)
  exact (List.Perm.swap ..).trans (this.cons a)
theorem erase_map {α β:Type} (f:α->β):∀ (l:List α) (i),(l.map f).eraseIdx i=(l.eraseIdx i).map f
 | [],_=>rfl
 | a :: l,0=>rfl
 | a :: l,i + 1=>by rw [List.map_cons,List.eraseIdx_cons_succ,List.eraseIdx_cons_succ,List.map_cons,erase_map f l i]
noncomputable def Pr (kps:List Int) (n:Nat) (own:Int) (d:D):Prop:=∃ (gd:Bool) (st:List D),d=.tup [.int own,.bl gd,.lst st]/\st.length=n/\∀ c∈st,∃ cs:List D,c=.lst cs/\(cs.length:Int)=own + 1/\∀ k:Nat,k < cs.length->∃ z,cs[k]?=some z/\Cs kps (bnd1 own k) z
noncomputable def Prs (kps:List Int) (n:Nat) (rs:List D):Prop:=rs.length=kps.length/\∀ i:Nat,i < kps.length->∃ r,rs[i]?=some r/\Pr kps n (kps.getD i 0) r
end C
namespace C
open Q PySem
noncomputable def Ps (r:D):Prop:=∃ (own:Int) (gd:Bool) (st:List D),r=.tup [.int own,.bl gd,.lst st]/\∀ c∈st,∃ cs:List D,c=.lst cs/\∀ z∈cs,z=.non\/∃ (to:Int) (fs:List Int),z=.tup [.int to,.tup (fs.map D.int)]
theorem Prs.ps {kps} {n} {rs} (h:Prs kps n rs):∀ r∈rs,Ps r:=fun r hr=>by
 obtain ⟨i,hi,e⟩:=List.getElem_of_mem hr
 obtain ⟨r',e',gd,st,h1,h2,h3⟩:=h.2 i (h.1▸hi)
 rw [List.getElem?_eq_getElem hi,e] at e'
 cases e'
 refine ⟨_,gd,st,h1,fun c hc=>?_⟩
 obtain ⟨cs,g1,g2,g3⟩:=h3 c hc
 refine ⟨cs,g1,fun z hz=>?_⟩
 obtain ⟨k,hk,ek⟩:=List.getElem_of_mem hz
 obtain ⟨z',e2,hc'⟩:=g3 k hk
 rw [List.getElem?_eq_getElem hk,ek] at e2
 cases e2
 rcases hc' with rfl | ⟨to,fs,rfl,_⟩
 ·exact .inl rfl
 ·exact .inr ⟨to,fs,rfl⟩
theorem ps_flat {r} (h:Ps r):r.flat 38=true:=by
 obtain ⟨own,gd,st,rfl,h⟩:=h
 refine flats_of fun d hd=>?_
 simp at hd
 rcases hd with rfl | rfl | rfl
 ·rfl
 ·rfl
 ·refine flats_of fun c hc=>?_
  obtain ⟨cs,rfl,h2⟩:=h c hc
  refine flats_of fun z hz=>?_
  rcases h2 z hz with rfl | ⟨to,fs,rfl⟩
  ·rfl
  ·refine flats_of fun d hd=>?_
   simp at hd
   rcases hd with rfl | rfl
   ·rfl
   ·exact flats_of fun k hk=>by obtain ⟨w,_,rfl⟩:=List.mem_map.mp hk;rfl
theorem plain_flat {ss} {rs} (h:∀ r∈rs,Ps r):(mach ss rs).flat 40=true:=by
 refine flats_of fun d hd=>?_
 simp at hd
 rcases hd with rfl | rfl
 ·exact flats_of fun k hk=>by obtain ⟨w,_,rfl⟩:=List.mem_map.mp hk;rfl
 ·exact flats_of fun r hr=>ps_flat (h r hr)
theorem fi_some {α:Type} {p}:∀ {l:List α},l.any p=true->l.findIdx? p=some (l.findIdx p)
 | [],h=>by cases h
 | a :: l,h=>by
  rw [List.findIdx?_cons,List.findIdx_cons]
  cases hp:p a with
  | true=>simp
  | false =>
   rw [List.any_cons,hp] at h
   rw [fi_some h]
   simp
theorem fi_lt {α:Type} {p} {l:List α} (h:l.any p=true):l.findIdx p < l.length:=by
 obtain ⟨x,hx,hp⟩:=List.any_eq_true.mp h
 exact List.findIdx_lt_length_of_exists ⟨x,hx,hp⟩
theorem fi_no {α:Type} {p} {l:List α} (h:l.any p=false):l.findIdx p=l.length:=by
 rw [List.findIdx_eq_length]
 intro x hx
 cases hp:p x with
 | false=>rfl
 | true=>rw [List.any_eq_true.mpr ⟨x,hx,hp⟩] at h;cases h
theorem idx_s {z} {ss} (h:(ss.any fun w=>w == z)=true):fIndex (sL ss) (.str z)=some (.int (ss.findIdx fun w=>w == z:Nat)):=by
 show (if (D.str z).flat 30 && D.flats 30 _ then ((ss.map D.str).findIdx? fun w=>peq w _).map fun (j:Nat)=>D.int j else none)=_
 rw [flats_of (fun k hk=>by obtain ⟨w,_,rfl⟩:=List.mem_map.mp hk;rfl),List.findIdx?_map]
 have:ss.findIdx? ((fun w=>peq w (.str z))∘D.str)=ss.findIdx? fun w=>w == z:=rfl
 rw [this,fi_some h]
 rfl
theorem idx_i {p} {ks:List Int} (h:(ks.any fun w=>w == p)=true):fIndex (.tup (ks.map D.int)) (.int p)=some (.int (ks.findIdx fun w=>w == p:Nat)):=by
 show (if (D.int p).flat 30 && D.flats 30 _ then ((ks.map D.int).findIdx? fun w=>peq w _).map fun (j:Nat)=>D.int j else none)=_
 rw [flats_of (fun k hk=>by obtain ⟨w,_,rfl⟩:=List.mem_map.mp hk;rfl),List.findIdx?_map]
 have:ks.findIdx? ((fun w=>peq w (.int p))∘D.int)=ks.findIdx? fun w=>w == p:=rfl
 rw [this,fi_some h]
 rfl
theorem add_tt {a b} (hl:a.length + b.length<=10000):fAdd (.no,.tup a) (.no,.tup b)=some (.no,.tup (a++b)):=by
 show (if a.length + b.length<=big/\loose _/\loose _ then _ else _)=_
 rw [if_pos ⟨by unfold big;lia,rfl,rfl⟩]
noncomputable abbrev iT (ks:List Int):D:=.tup (ks.map D.int)
noncomputable def nameAt (ks:List Int) (p:Int) (f:Int):Int:=(ks++[p]).getD f.toNat 0
noncomputable def caseD (ks:List Int) (p:Int) (c:D):D:=match c with
 | .tup [to,.tup fs]=>.tup [to,.tup (fs.map fun f=>match f with | .int i=>.int (nameAt ks p i) | _=>.non)]
 | _=>.non
theorem caseD_is {ks fs} {p to}:caseD ks p (.tup [.int to,iT fs])=.tup [.int to,iT (fs.map (nameAt ks p))]:=by
 unfold caseD iT
 simp [Function.comp]
noncomputable def caseAt (ss:List Str) (st:List D) (ks:List Int) (z:Str) (p:Int):D:=match st[ss.findIdx fun w=>w == z]? with
 | some (.lst cs)=>cs.getD (ks.findIdx fun w=>w == p) .non
 | _=>.non
noncomputable def readD (ss:List Str) (st:List D) (ks:List Int) (z:Str) (p:Int):D:=if (ss.any fun w=>w == z)=true then caseD ks p (caseAt ss st ks z p) else .non
noncomputable def Cas (kps:List Int) (n:Nat) (own:Int) (st:List D):Prop:=st.length=n/\∀ c∈st,∃ cs:List D,c=.lst cs/\(cs.length:Int)=own + 1/\∀ k:Nat,k < cs.length->∃ z,cs[k]?=some z/\Cs kps (bnd1 own k) z
theorem fi_le {ks:List Int} {p}:(ks.findIdx fun w=>w == p)<=ks.length:=List.findIdx_le_length
theorem cas_at {kps} {ss} {st} {ks} {z} p (h:Cas kps ss.length ks.length st) (hz:(ss.any fun w=>w == z)=true):∃ cs,st[ss.findIdx fun w=>w == z]?=some (.lst cs)/\(cs.length:Int)=ks.length + 1/\cs[ks.findIdx fun w=>w == p]?=some (caseAt ss st ks z p)/\Cs kps (bnd1 ks.length (ks.findIdx fun w=>w == p:Nat)) (caseAt ss st ks z p):=by
 have hj:(ss.findIdx fun w=>w == z) < st.length:=by rw [h.1];exact fi_lt hz
 obtain ⟨cs,e,hl,hc⟩:=h.2 st[ss.findIdx fun w=>w == z] (List.getElem_mem hj)
 have hg:st[ss.findIdx fun w=>w == z]?=some (.lst cs):=by rw [List.getElem?_eq_getElem hj,e]
 have hle:=fi_le (ks:=ks) (p:=p)
 obtain ⟨c,e2,hC⟩:=hc (ks.findIdx fun w=>w == p) (by lia)
 have hca:caseAt ss st ks z p=c:=by unfold caseAt;rw [hg];dsimp only;rw [List.getD_eq_getElem?_getD,e2];rfl
 exact ⟨cs,hg,hl,by rw [hca];exact e2,by rw [hca];exact hC⟩
theorem nameAt_ix {ks} {p f} (h0:0<=f) (h1:f<=ks.length):fIxQ (.tup (ks.map D.int++[.int p])) (.int f)=some (.int (nameAt ks p f)):=by
 refine ix_t h0 ?_
 rw [show ks.map D.int++[D.int p]=(ks++[p]).map D.int by simp,List.getElem?_map]
 unfold nameAt
 rw [List.getD_eq_getElem?_getD,List.getElem?_eq_getElem (by simp;lia)]
 rfl
theorem bnd1_le {own} {k}:bnd1 own k<=own + 1:=by unfold bnd1;split<;>lia
theorem ix_if {a0 a1 a2 a5 a6 a7} {o3 o4} {ks} {p} {P} {X}:Eo (cIf (tE (cF2 (pu2 fInQ) (vV 3) (vV 4))) (cIdx (vV 4) (vV 3)) (cF1 (pu1 fLen) (vV 4)) [a0,a1,a2,some (o3,.int p),some (o4,iT ks),a5,a6,a7]) P X=P [a0,a1,a2,some (o3,.int p),some (o4,iT ks),a5,a6,a7] (.dp,.int (ks.findIdx fun w=>w == p:Nat)):=by
 cases hp:(ks.any fun w=>w == p) with
 | true=>simp! only [in_it,hp,idx_i hp]
 | false=>simp! only [in_it,hp,fi_no hp]
theorem read_ok {kps} {ss} {rs st} {kp gd} {room:Int} {ks:List Int} {z:Str} {p:Int} (h0:0<=room) (hr:rs[room.toNat]?=some (.tup [kp,gd,.lst st])) (hc:Cas kps ss.length ks.length st) (hl:ks.length<=1000) :
  Oo m_read_by [(.no,mach ss rs),(.no,.tup [.int room,iT ks]),(.no,.str z),(.no,.int p)] (fun y=>y.2=readD ss st ks z p) noX:=by
 have hi:fIxQ (.lst rs) (.int room)=some (.tup [kp,gd,.lst st]):=ix_l h0 hr
 have hif:=fun a5 a6 a7 P=>@ix_if (some (.no,mach ss rs)) (some (.no,.tup [.int room,iT ks])) (some (.no,.str z)) a5 a6 a7 .no .no ks p P noX
 unfold readD m_read_by
 generalize cIf _ _ _=I at hif ⊢
 refine oo_fn ?_
 cases hz:(ss.any fun w=>w == z) with
 | false=>simp! only [p0,nin_s,hz]
 | true =>
  obtain ⟨cs,g1,g2,g3,g4⟩:=cas_at p hc hz
  have hx:fIxQ (.lst st) (.int (ss.findIdx fun w=>w == z:Nat))=some (.lst cs):=ix_l (by lia) (by rw [Int.toNat_natCast];exact g1)
  have hy:fIxQ (.lst cs) (.int (ks.findIdx fun w=>w == p:Nat))=some (caseAt ss st ks z p):=ix_l (by lia) (by rw [Int.toNat_natCast];exact g3)
  have hadd:=add_tt (a:=ks.map D.int) (b:=[.int p]) (by simp;lia)
  have hidx:=idx_s hz
  have hb:=bnd1_le (own:=ks.length) (k:=(ks.findIdx fun w=>w == p:Nat))
  generalize caseAt ss st ks z p=c at g4 hy
  rw [if_pos rfl]
  rcases g4 with rfl | ⟨to,fs,rfl,t0',t1',hfs,_⟩
  ·simp! only [p0,p1,nin_s,hz,hi,t2,hidx,hx,hif,hy]
   rfl
  ·simp! only [p0,p1,nin_s,hz,hi,t2,hidx,hx,hif,hy,hadd]
   refine eo_each [some (.no,.tup (ks.map D.int++[.int p]))] (fun f y=>y.2=match f with | .int i=>.int (nameAt ks p i) | _=>.non) ?_
   simp! only [p1]
   refine ⟨rfl,fun f hf=>?_,fun ys hy=>?_⟩
   ·obtain ⟨i,hi',rfl⟩:=List.mem_map.mp hf
    have:=hfs i hi'
    simp! only [nameAt_ix (ks:=ks) (p:=p) (f:=i) this.1 (by lia)]
    exact ⟨⟨_,rfl⟩,trivial⟩
   ·rw [mkL_rt,each_map (h:=fun f=>match f with | .int i=>.int (nameAt ks p i) | _=>.non) (fun d y h=>h) hy,List.map_map,show (_∘D.int)=D.int∘nameAt ks p from rfl,← List.map_map]
    simp only [back,clr,at',List.set_cons_zero,List.set_cons_succ]
    simp! only [tup_l (o:=.no) (xs:=(fs.map (nameAt ks p)).map D.int) (by decide)]
    exact caseD_is.symm
end C
namespace C
open Q PySem
theorem neg1:fNeg (.int 1)=some (.int (-1)):=rfl
theorem max_i {a b:Int}:fMax (.int a) (.int b)=some (.int (if b > a then b else a)):=rfl
end C
noncomputable section
namespace C
open Q PySem
noncomputable def Ok2 (kps:List Int) (s:D):Prop:=s=.non\/∃ (room:Int) (ks:List Int),s=.tup [.int room,iT ks]/\0<=room/\room < kps.length/\(ks.length:Int)=kps.getD room.toNat 0
noncomputable def Rd (kps:List Int) (ss:List Str) (rs:List D) (s:D) (w:Str×Int) (s':D):Prop:=(s=.non/\s'=.non)\/∃ (room:Int) (ks:List Int) (st:List D) (kp gd:D),s=.tup [.int room,iT ks]/\0<=room/\rs[room.toNat]?=some (.tup [kp,gd,.lst st])/\Cas kps ss.length ks.length st/\ks.length<=6/\s'=readD ss st ks w.1 w.2
theorem rd_of {kps} {ss} {rs} {s} w (hP:Prs kps ss.length rs) (hk:∀ p∈kps,0<=p/\p<=3) (h:Ok2 kps s):∃ s',Rd kps ss rs s w s'/\Ok2 kps s'/\((ss.any fun z=>z == w.1)=false->s'=.non):=by
 rcases h with rfl | ⟨room,ks,rfl,r0,r1,hl⟩
 ·exact ⟨.non,.inl ⟨rfl,rfl⟩,.inl rfl,fun _=>rfl⟩
 ·obtain ⟨r,er,gd,st,rfl,hsl,hst⟩:=hP.2 room.toNat (by lia)
  have hk3:=hk (kps.getD room.toNat 0) (by rw [List.getD_eq_getElem?_getD,List.getElem?_eq_getElem (by lia)];exact List.getElem_mem _)
  have hcas:Cas kps ss.length ks.length st:=⟨hsl,by rw [hl];exact hst⟩
  refine ⟨readD ss st ks w.1 w.2,.inr ⟨room,ks,st,_,_,rfl,r0,er,hcas,by lia,rfl⟩,?_,fun hz=>?_⟩
  ·unfold readD
   cases hz:(ss.any fun z=>z == w.1) with
   | false=>exact .inl rfl
   | true =>
    obtain ⟨cs,g1,g2,g3,g4⟩:=cas_at w.2 hcas hz
    rcases g4 with e | ⟨to,fs,e,t0,t1,_,_,hfl⟩
    ·rw [e];exact .inl rfl
    ·rw [e,caseD_is];exact .inr ⟨to,_,rfl,t0,t1,by rw [List.length_map];exact hfl⟩
  ·unfold readD;rw [hz];rfl
theorem readN_ok {kps} {ss} {rs} {s s'} {w} (h:Rd kps ss rs s w s'):Oo m_read_by [(.no,mach ss rs),(.no,s),(.no,.str w.1),(.no,.int w.2)] (fun y=>y.2=s') noX:=by
 rcases h with ⟨rfl,rfl⟩ | ⟨room,ks,st,kp,gd,rfl,r0,er,hc,hl,rfl⟩
 ·refine oo_fn ?_
  simp! only []
 ·exact read_ok r0 er hc (by lia)
noncomputable abbrev Lw:=List (Str×Int)
noncomputable def Ch2 (kps:List Int) (ss:List Str) (rs:List D):D->Lw->D->Prop
 | s,[],s'=>s=s'
 | s,x :: r,s'=>∃ m,Rd kps ss rs s x m/\Ch2 kps ss rs m r s'
noncomputable def goodD (rs:List D) (s:D):Bool:=match s with
 | .tup [.int room,_]=>(match rs[room.toNat]? with
  | some (.tup [_,.bl b,_])=>b
  | _=>false)
 | _=>false
theorem good_ix {kps:List Int} {n:Nat} {rs:List D} {room:Int} {kd:D} (hP:Prs kps n rs) (r0:0<=room) (r1:room < kps.length):∃ kp st,fIxQ (.lst rs) (.int room)=some (.tup [kp,.bl (goodD rs (.tup [.int room,kd])),st]):=by
 obtain ⟨r,er,gd,st,rfl,hsl,hst⟩:=hP.2 room.toNat (by lia)
 have hg:goodD rs (.tup [.int room,kd])=gd:=by unfold goodD;dsimp only;rw [er]
 exact ⟨.int (kps.getD room.toNat 0),.lst st,ix_l r0 (by rw [hg];exact er)⟩
end C
noncomputable section
namespace C
open Q PySem
noncomputable section
end
end C
namespace C
open Q PySem
noncomputable abbrev rwD (ws:List (Str×Int)):List D:=ws.map fun w=>.tup [.str w.1,.int w.2]
end C
namespace C
open Q PySem
noncomputable section
end
end C
noncomputable section
namespace B
open Q PySem C
noncomputable abbrev Sn:=Option (Int×List Int)
noncomputable def stn:Sn->D
 | none=>.non
 | some p=>.tup [.int p.1,iT p.2]
noncomputable def nms:Sn->List Int
 | none=>[]
 | some p=>p.2
noncomputable def rmO:Sn->Int
 | none=>-1
 | some p=>p.1
end B
namespace B
open Q PySem C
theorem eqi {a b} {k} (h:(a == b)=k):fEq (.int a) (.int b)=some (.bl k):=by rw [← h];rfl
theorem pures_ints:∀ (ks:List Int),D.pures (ks.map D.int)=true
 | []=>rfl
 | k :: ks=>by
  rw [List.map_cons]
  unfold D.pures
  rw [pures_ints ks]
  rfl
theorem rng_iL k:rangeD 0 k=(((List.range k.toNat).map fun (i:Nat)=>(i:Int)).map D.int):=by
 unfold rangeD
 rw [List.map_map,Int.sub_zero]
 refine List.map_congr_left fun i _=>?_
 show D.int _=D.int i
 rw [Int.zero_add]
end B
namespace B
open Q PySem C
noncomputable def mapS (f:Int->Int):Sn->Sn:=Option.map fun p=>(p.1,p.2.map f)
theorem rmO_map (f:Int->Int) (s:Sn):rmO (mapS f s)=rmO s:=by cases s<;>rfl
section
variable {f:Int->Int}
theorem beq_map {x n:Int} (h:f x=f n->x=n):(f x == f n)=(x == n):=by
 rw [Bool.eq_iff_iff]
 simp only [beq_iff_eq]
 exact ⟨h,fun e=>by rw [e]⟩
theorem idx_mapf {n:Int}:∀ {t:List Int},(∀ x∈t,f x=f n->x=n)->((t.map f).findIdx fun w=>w == f n)=t.findIdx fun w=>w == n
 | [],_=>rfl
 | x :: t,h=>by
  rw [List.map_cons,List.findIdx_cons,List.findIdx_cons,beq_map (h x List.mem_cons_self),idx_mapf fun y hy=>h y (List.mem_cons_of_mem _ hy)]
theorem nameAt_map {ks:List Int} {c i:Int} (h:i.toNat < ks.length + 1):C.nameAt (ks.map f) (f c) i=f (C.nameAt ks c i):=by
 unfold C.nameAt
 rw [show ks.map f++[f c]=(ks++[c]).map f by simp,List.getD_eq_getElem?_getD,List.getD_eq_getElem?_getD,List.getElem?_map,List.getElem?_eq_getElem (by simpa using h)]
 rfl
theorem nameAt_mem {ks:List Int} {c i:Int} (h:i.toNat < ks.length + 1):C.nameAt ks c i∈ks\/C.nameAt ks c i=c:=by
 unfold C.nameAt
 rw [List.getD_eq_getElem?_getD,List.getElem?_eq_getElem (by simpa using h)]
 have:(ks++[c])[i.toNat]'(by simpa using h)∈ks++[c]:=List.getElem_mem _
 rcases List.mem_append.mp this with q | q
 ·exact .inl q
 ·exact .inr (by simpa using q)
theorem caseAt_map {ss:List Str} {st:List D} {ks:List Int} {z:Str} {c:Int} (h:∀ x∈ks,f x=f c->x=c):caseAt ss st (ks.map f) z (f c)=caseAt ss st ks z c:=by
 unfold caseAt
 rw [idx_mapf h]
noncomputable def SnOk (kps:List Int) (s:Sn):Prop:=∀ room ks,s=some (room,ks)->0<=room/\room < kps.length/\(ks.length:Int)=kps.getD room.toNat 0
theorem rd_map {kps:List Int} {ss:List Str} {rs:List D} {S:Sn} {z:Str} {c:Int} (hP:Prs kps ss.length rs) (hk:∀ p∈kps,0<=p/\p<=3) (hS:SnOk kps S) (hinj:∀ x∈nms S,f x=f c->x=c) :
  ∃ s':Sn,Rd kps ss rs (stn S) (z,c) (stn s')/\Rd kps ss rs (stn (mapS f S)) (z,f c) (stn (mapS f s'))/\(∀ n∈nms s',n∈nms S\/n=c)/\(nms s').length<=100/\SnOk kps s':=by
 cases S with
 | none=>exact ⟨none,.inl ⟨rfl,rfl⟩,.inl ⟨rfl,rfl⟩,fun _ h=>(nomatch h),Nat.zero_le _,fun _ _ h=>(nomatch h)⟩
 | some P =>
  obtain ⟨room,ks⟩:=P
  obtain ⟨r0,r1,hl⟩:=hS room ks rfl
  obtain ⟨r,er,gd,st,rfl,hsl,hst⟩:=hP.2 room.toNat (by lia)
  have hk3:=hk (kps.getD room.toNat 0) (by rw [List.getD_eq_getElem?_getD,List.getElem?_eq_getElem (by lia)];exact List.getElem_mem _)
  have hcas:Cas kps ss.length ks.length st:=⟨hsl,by rw [hl];exact hst⟩
  have hcas':Cas kps ss.length (ks.map f).length st:=by rw [List.length_map];exact hcas
  have inj:∀ x∈ks,f x=f c->x=c:=hinj
  have done:∀ s':Sn,readD ss st ks z c=stn s'->readD ss st (ks.map f) z (f c)=stn (mapS f s')->(∀ n∈nms s',n∈ks\/n=c)->(nms s').length<=100->SnOk kps s'->∃ s':Sn,Rd kps ss rs (stn (some (room,ks))) (z,c) (stn s')/\Rd kps ss rs (stn (mapS f (some (room,ks)))) (z,f c) (stn (mapS f s'))/\(∀ n∈nms s',n∈nms (some (room,ks))\/n=c)/\(nms s').length<=100/\SnOk kps s':=fun s' h1 h2 h3 h4 h5 =>
   ⟨s',.inr ⟨room,ks,st,_,_,rfl,r0,er,hcas,by lia,h1.symm⟩,.inr ⟨room,ks.map f,st,_,_,rfl,r0,er,hcas',by rw [List.length_map];lia,h2.symm⟩,h3,h4,h5⟩
  cases hz:(ss.any fun w=>w == z) with
  | false =>
   refine done none ?_ ?_ (fun _ h=>(nomatch h)) (Nat.zero_le _) (fun _ _ h=>(nomatch h))
   ·unfold readD;rw [hz];rfl
   ·unfold readD;rw [hz];rfl
  | true =>
   obtain ⟨cs,g1,g2,g3,g4⟩:=cas_at c hcas hz
   have e1:readD ss st ks z c=caseD ks c (caseAt ss st ks z c):=by unfold readD;rw [hz,if_pos rfl]
   have e2:readD ss st (ks.map f) z (f c)=caseD (ks.map f) (f c) (caseAt ss st ks z c):=by unfold readD;rw [hz,if_pos rfl,caseAt_map inj]
   rcases g4 with e | ⟨to,fs,e,t0,t1,hfs,_,hfl⟩
   ·refine done none ?_ ?_ (fun _ h=>(nomatch h)) (Nat.zero_le _) (fun _ _ h=>(nomatch h))
    ·rw [e1,e];rfl
    ·rw [e2,e];rfl
   ·have hb:=bnd1_le (own:=ks.length) (k:=(ks.findIdx fun w=>w == c:Nat))
    have hlt:∀ i∈fs,i.toNat < ks.length + 1:=fun i hi=>by have:=hfs i hi;lia
    refine done (some (to,fs.map (C.nameAt ks c))) ?_ ?_ (fun n hn=>?_) ?_ (fun room' ks' h=>?_)
    ·rw [e1,e,caseD_is];rfl
    ·rw [e2,e,caseD_is]
     show D.tup [.int to,iT (fs.map (C.nameAt (ks.map f) (f c)))]=D.tup [.int to,iT ((fs.map (C.nameAt ks c)).map f)]
     rw [List.map_map]
     congr 4
     exact List.map_congr_left fun i hi=>nameAt_map (hlt i hi)
    ·obtain ⟨i,hi,rfl⟩:=List.mem_map.mp hn
     exact nameAt_mem (hlt i hi)
    ·show (fs.map (C.nameAt ks c)).length<=100
     rw [List.length_map]
     have:=hk (kps.getD to.toNat 0) (by rw [List.getD_eq_getElem?_getD,List.getElem?_eq_getElem (by lia)];exact List.getElem_mem _)
     lia
    ·injection h with h
     injection h with h3 h4
     subst h3 h4
     exact ⟨t0,t1,by rw [List.length_map];exact hfl⟩
end
end B
noncomputable section
namespace B
open PySem Q
noncomputable def m__law_cell_at:Fn:=fn 2
  (sSeq (sIf (tE (cF2 (pu2 fLt) (vV 1) (vE (cF1 (pu1 fLen) (vV 0))))) (sRet (cH (vIxQ (vV 0) (vV 1)))) sPass)
  (sRet (cC (.int 0))))
noncomputable def m__law_whole:Fn:=fn 1
  (sRet (cAnd (vE (cF1 (pu1 (fIsi "int")) (vV 0))) (cNotQ (vE (cF1 (pu1 (fIsi "bool")) (vV 0))))))
end B
namespace B
open Q PySem C
noncomputable def cellAt (ns:List Int) (k:Nat):Int:=ns.getD k 0
theorem cell_ok ns (k:Nat) (hn:ns.length<=10000):Oo m__law_cell_at [(.no,iL ns),(.no,.int k)] (fun y=>∃ o',y=(o',.int (cellAt ns k))/\True) noX:=by
 refine oo_fn ?_
 simp! only []
 by_cases h:(k:Int) < ns.length
 ·have hx:fIxQ (iL ns) (.int k)=some (.int (cellAt ns k)):=by
   refine ix_l (by lia) ?_
   unfold cellAt
   rw [Int.toNat_natCast,List.getElem?_map,List.getElem?_eq_getElem (by lia),List.getD_eq_getElem?_getD,List.getElem?_eq_getElem (by lia)]
   rfl
  have hd:=decide_eq_true h
  rw [if_pos hd]
  simp! only [hx]
  exact ⟨_,rfl,trivial⟩
 ·have hd:¬ decide ((k:Int) < ns.length)=true:=by rw [decide_eq_false h];decide
  rw [if_neg hd]
  refine ⟨.dp,?_,trivial⟩
  rw [show cellAt ns k=0 by unfold cellAt;rw [List.getD_eq_getElem?_getD,List.getElem?_eq_none (by lia)];rfl]
theorem whole_int i:Oo m__law_whole [(.no,.int i)] (fun y=>∃ o',y=(o',.bl true)/\True) noX:=by
 refine oo_fn ?_
 simp! only [show fIsi "int" (.int i)=some (.bl true) from rfl,show fIsi "bool" (.int i)=some _ from rfl]
 exact ⟨_,rfl,trivial⟩
end B
namespace B
open Q PySem C
theorem rng_nodup n:((List.range n).map fun (j:Nat)=>(j:Int)).Nodup:=List.Pairwise.map _ (fun a b h e=>h (by lia)) List.nodup_range
end B
namespace B
open Q PySem C
theorem neg1:fNeg (.int 1)=some (.int (-1)):=rfl
end B
namespace B
open Q PySem C
theorem sum_ones:∀ {ps:List Str},(∀ p∈ps,p.length=1)->(ps.map (·.length)).sum=ps.length
 | [],_=>rfl
 | p :: ps,h=>by rw [List.map_cons,List.sum_cons,h p List.mem_cons_self,sum_ones fun q hq=>h q (List.mem_cons_of_mem _ hq),List.length_cons];lia
theorem sl_s {o} {z} {lo hi} (h:z.cps.size<=100):fSl (o,.str z) lo hi=some (.dp,.str (Txt.slice z lo hi)):=by
 have hl:=Txt.slice_le z lo hi
 have h:z.length<=100:=h
 show (if (Txt.slice z lo hi).length<=big then _ else none)=_
 rw [if_pos (by unfold big;lia)]
end B
noncomputable section
namespace A
open PySem Q
noncomputable def m__law_mixed:Fn:=fn 3
  (sSeq (sIf (tE (cF2 (pu2 fEq) (vE (cF2 (pu2 fMod) (vV 0) (vE (cC (.int 2))))) (vE (cC (.int 0))))) (sRet (cF2 (pu2 fDiv) (vV 0) (vE (cF2 (pu2 fShl) (vE (cC (.int 2))) (vE (cF2 fMulT (vE (cC (.int 8))) (vV 1))))))) sPass)
  (sSeq (sAsg 2 (cF2 (pu2 fMod) (vE (cF2 fMulT (vE (cF2 fAdd (vE (cF2 fAdd (vE (cF2 (pu2 fMod) (vV 0) (vE (cC (.int 2147483647))))) (vE (cF2 fMulT (vE (cC (.int 69621))) (vV 1))))) (vE (cC (.int 7919))))) (vE (cC (.int 48271))))) (vE (cC (.int 2147483647)))))
  (sSeq (sAsg 2 (cF2 (pu2 fMod) (vE (cF2 fMulT (vV 2) (vV 2))) (vE (cC (.int 2147483629)))))
  (sRet (cF2 (pu2 fMod) (vE (cF2 fAdd (vE (cF2 fMulT (vV 2) (vV 2))) (vE (cF2 fMulT (vE (cC (.int 16807))) (vV 1))))) (vE (cC (.int 2147483587))))))))
noncomputable def m__law_words:Fn:=fn 9
  (sSeq (sAsg 2 (cC (.str "abcdefghijklmnopqrstuvwxyz")))
  (sSeq (sAsg 3 (cJoin "" (vE (cLC .rt 1 [2,0] (itR1 (vE (cC (.int 8)))) (.n 0) tYes (cH (vIxQ (vV 1) (vE (cF2 (pu2 fMod) (vE (cCall m__law_mixed [(cV 2),(cV 0)])) (vE (cC (.int 26)))))))))))
  (sSeq (sIf (tE (cF2 (pu2 fEq) (vE (cF2 (pu2 fMod) (vV 0) (vE (cC (.int 3))))) (vE (cC (.int 1))))) (sRet (cLC .rt 1 [3,0] (itR1 (vV 1)) (.n 0) tYes (cSl (vV 1) none (some (vE (cF2 fAdd (vE (cC (.int 1))) (vE (cF2 (pu2 fMod) (vE (cF2 fAdd (vV 0) (vE (cF2 (pu2 fDiv) (vV 2) (vE (cC (.int 3))))))) (vE (cC (.int 8))))))))))) sPass)
  (sSeq (sAsg 4 (cF2 fAdd (vE (cC (.int 1))) (vE (cF2 (pu2 fMod) (vE (cF2 (pu2 fDiv) (vV 0) (vE (cC (.int 3))))) (vE (cC (.int 8)))))))
  (sSeq (sAsg 5 (cF2 (pu2 fMod) (vE (cF2 (pu2 fDiv) (vV 0) (vE (cC (.int 24))))) (vV 4)))
  (sSeq (sAsg 6 (cLst .rt []))
  (sSeq (sFor (itR1 (vV 1)) (.n 7) (sSeq (sAsg 8 (cF2 (pu2 fMod) (vE (cF2 fAdd (vE (cIdxS (vV 2) (vIxQ (vV 3) (vV 5)))) (vE (cF2 fMulT (vV 7) (vE (cF2 fAdd (vE (cC (.int 1))) (vE (cF2 (pu2 fMod) (vE (cF2 (pu2 fDiv) (vV 0) (vE (cC (.int 192))))) (vE (cC (.int 5))))))))))) (vE (cC (.int 26)))))
  (sMut1 gApp 6 (cF2 fAdd (vE (cF2 fAdd (vE (cSl (vV 3) none (some (vV 5)))) (vIxQ (vV 2) (vV 8)))) (vE (cSl (vV 3) (some (vE (cF2 fAdd (vV 5) (vE (cC (.int 1)))))) (some (vV 4))))))))
  (sRet (cMv 6)))))))))
end A
namespace A
open Q PySem C B
theorem pow_lg {n} (h:n<=8000):((2:Int) * 2 ^ n).natAbs.log2 < 9000:=by
 have e:((2:Int) * 2 ^ n).natAbs=2 ^ (n + 1):=by
  rw [Int.natAbs_mul,Nat.mul_comm];rfl
 rw [e,Nat.log2_two_pow]
 lia
theorem shl_i {n} (h0:0<=n) (h1:n<=8000):fShl (.int 2) (.int n)=some (.int (2 * 2 ^ n.toNat)):=by
 show (if 0<=n/\n<=1000000/\(2:Int).natAbs < 2 ^ 64 then some _ else none).map D.int=_
 rw [if_pos ⟨h0,by lia,by decide⟩]
 rfl
theorem div_p {c n:Int} (h1:n<=8000):fDiv (.int c) (.int (2 * 2 ^ n.toNat))=some (.int (c / (2 * 2 ^ n.toNat))):=by
 show (if 0 < 2 * 2 ^ n.toNat/\((2:Int) * 2 ^ n.toNat).natAbs.log2 < 9000 then some _ else none).map D.int=_
 rw [if_pos ⟨Int.mul_pos (by decide) (Int.pow_pos (by decide)),pow_lg (by lia)⟩]
 rfl
theorem mixed_ok (c k) (h0:0<=k) (h1:k<=100):Oo m__law_mixed [(.no,.int c),(.no,.int k)] (fun y=>∃ v,y=(.dp,.int v)/\True) noX:=by
 refine oo_fn ?_
 by_cases h:c % 2=0
 ·have hd:(c % 2 == 0)=true:=by simp [h]
  simp! only [eqi hd,shl_i (n:=8 * k) (by lia) (by lia),div_p (c:=c) (n:=8 * k) (by lia)]
  exact ⟨_,rfl,trivial⟩
 ·have hd:(c % 2 == 0)=false:=beq_false_of_ne h
  have m0:=Int.emod_nonneg c (show (2147483647:Int)≠0 by decide)
  have m1:=Int.emod_lt_of_pos c (show (0:Int) < 2147483647 by decide)
  generalize hu:c % 2147483647=u at m0 m1
  simp! only [eqi hd,hu,(mul_l (o1:=.no) (o2:=.no) (a:=u + 69621 * k + 7919) (b:=48271) (by lia) (by lia))]
  grind
end A
namespace A
open Q PySem C B
noncomputable abbrev AZ:Str:="abcdefghijklmnopqrstuvwxyz"
theorem az_found:∀ ch∈AZ.cps.toList,∃ i:Nat,fIdxS (.str AZ) (.str ⟨#[ch]⟩)=some (.int i):=by
 have h:∀ ch∈AZ.cps.toList,(Builtin.Str.occurrences AZ ⟨#[ch]⟩ 0 AZ.length 1).isEmpty=false:=by decide +kernel
 intro ch hc
 have:=h ch hc
 unfold fIdxS
 dsimp only
 cases e:Builtin.Str.occurrences AZ _ 0 AZ.length 1 with
 | nil=>rw [e] at this;cases this
 | cons i r=>exact ⟨i,rfl⟩
theorem ix_strM z i (h0:0<=i) (h1:i < z.cps.size):∃ c∈z.cps.toList,fIxQ (.str z) (.int i)=some (.str ⟨#[c]⟩):=by
 have:i.toNat < z.cps.toList.length:=by rw [Array.length_toList];lia
 refine ⟨z.cps.toList[i.toNat],List.getElem_mem _,?_⟩
 show ((Q.ixN z.cps.size i).bind fun j=>(z.cps.toList[j]?).map fun c=>D.str ⟨#[c]⟩)=_
 unfold Q.ixN
 rw [if_pos h0,if_pos h1]
 show ((z.cps.toList[i.toNat]?).map fun c=>D.str ⟨#[c]⟩)=_
 rw [List.getElem?_eq_getElem this]
 rfl
theorem list_app (a b:Str):(a++b).cps.toList=a.cps.toList++b.cps.toList:=by
 exact Array.toList_append
theorem join_one {L:List Nat}:∀ {ps},(∀ p∈ps,∃ c∈L,p=⟨#[c]⟩)->(Str.join "" ps).cps.toList.length=ps.length/\∀ c∈(Str.join "" ps).cps.toList,c∈L
 | [],_=>⟨rfl,fun c h=>absurd h (by simp [Str.join,Str.empty])⟩
 | [x],h=>by
  obtain ⟨c,hc,rfl⟩:=h x List.mem_cons_self
  refine ⟨rfl,fun d hd=>?_⟩
  have:d=c:=by simpa [Str.join] using hd
  rw [this];exact hc
 | x :: y :: r,h=>by
  obtain ⟨c,hc,rfl⟩:=h x List.mem_cons_self
  obtain ⟨i1,i2⟩:=join_one fun p hp=>h p (List.mem_cons_of_mem _ hp)
  have e:(Str.join "" ((⟨#[c]⟩:Str) :: y :: r)).cps.toList=c :: (Str.join "" (y :: r)).cps.toList:=by
   show (_++""++Str.join "" _).cps.toList=_
   rw [list_app]
   rfl
  rw [e]
  refine ⟨by rw [List.length_cons,i1];rfl,fun d hd=>?_⟩
  rcases List.mem_cons.mp hd with rfl | hd
  ·exact hc
  ·exact i2 d hd
theorem each_one {L:List Nat} {G} (hG:∀ d y,G d y->∃ c∈L,y.2=.str ⟨#[c]⟩):∀ {ds} {ys},Each G ds ys->∃ ps:List Str,ys.map (·.2)=ps.map D.str/\ps.length=ds.length/\∀ p∈ps,∃ c∈L,p=⟨#[c]⟩
 | [],[],_=>⟨[],rfl,rfl,fun _ h=>nomatch h⟩
 | d :: ds,y :: ys,r=>by
  obtain ⟨i,hi,e⟩:=hG d y r.1
  obtain ⟨ps,h1,h2,h3⟩:=each_one hG r.2
  exact ⟨⟨#[i]⟩ :: ps,by simp [e,h1],by simp [h2],fun p hp=>(List.mem_cons.mp hp).elim (fun z=>z▸⟨i,hi,rfl⟩) (h3 p)⟩
theorem join_az {ps:List Str} (h:∀ p∈ps,∃ c∈AZ.cps.toList,p=⟨#[c]⟩) (h1:ps.length<=100):∃ z,fJoin "" (.lst (ps.map D.str))=some (.str z)/\z.cps.size=ps.length/\∀ c∈z.cps.toList,c∈AZ.cps.toList:=by
 have hz:("":Str).length=0:=rfl
 obtain ⟨j1,j2⟩:=join_one h
 refine ⟨Txt.join "" ps,?_,?_,?_⟩
 ·unfold fJoin
  dsimp only
  rw [strs_is]
  dsimp only
  rw [if_pos (by rw [(sum_ones fun p hp=>by obtain ⟨c,_,rfl⟩:=h p hp;rfl),hz];lia)]
 ·unfold Txt.join
  rw [StrLaws.glued_eq_join,← j1,Array.length_toList]
 ·unfold Txt.join
  rwa [StrLaws.glued_eq_join]
end A
noncomputable section
namespace F
open Q PySem C
theorem nin_il {p} {ks}:fNotInQ (.int p) (iL ks)=some (.bl (!decide (p∈ks))):=by
 have h:=in_i (p:=p) (ks:=ks)
 rw [any_mem] at h
 have h:fIn _ (iL ks)=some _:=h
 show (fIn _ _).bind _=_
 rw [h]
 rfl
theorem idx_il {p} {ks} (h:(ks.any fun w=>w == p)=true):fIndex (iL ks) (.int p)=some (.int (ks.findIdx fun w=>w == p:Nat)):=by
 show (if (D.int p).flat 30 && D.flats 30 _ then ((ks.map D.int).findIdx? fun w=>peq w _).map fun (j:Nat)=>D.int j else none)=_
 rw [flats_of (fun k hk=>by obtain ⟨w,_,rfl⟩:=List.mem_map.mp hk;rfl),List.findIdx?_map]
 have:ks.findIdx? ((fun w=>peq w (.int p))∘D.int)=ks.findIdx? fun w=>w == p:=rfl
 rw [this,fi_some h]
 rfl
end F
noncomputable section
noncomputable section
noncomputable section
noncomputable section
noncomputable section
noncomputable section
noncomputable section
noncomputable section
noncomputable section
noncomputable section
noncomputable section
noncomputable section
noncomputable section
noncomputable section
noncomputable section
noncomputable section
namespace J
open Q PySem C B F
noncomputable def intOf:D->Int
 | .int i=>i
 | _=>0
noncomputable def snOf:D->Sn
 | .tup [.int r,.tup ks]=>some (r,ks.map intOf)
 | _=>none
noncomputable def rdF (ss:List Str) (rs:List D) (S:Sn) (z:Str) (c:Int):Sn:=match S with
 | none=>none
 | some (room,ks)=>(match rs[room.toNat]? with
  | some (.tup [_,_,.lst st])=>snOf (readD ss st ks z c)
  | _=>none)
theorem stn_sn {kps} {d} (h:Ok2 kps d):stn (snOf d)=d/\SnOk kps (snOf d):=by
 rcases h with rfl | ⟨room,ks,rfl,r0,r1,hl⟩
 ·exact ⟨rfl,fun _ _ e=>nomatch e⟩
 ·have e:snOf (.tup [.int room,iT ks])=some (room,ks):=by
   show some _=_
   rw [List.map_map]
   congr 2
   exact List.map_id ks
  rw [e]
  refine ⟨rfl,fun a b e=>?_⟩
  cases e
  exact ⟨r0,r1,hl⟩
theorem ok2_of {kps} {S} (h:SnOk kps S):Ok2 kps (stn S):=by
 cases S with
 | none=>exact .inl rfl
 | some x=>obtain ⟨a,b,c⟩:=h x.1 x.2 rfl;exact .inr ⟨x.1,x.2,rfl,a,b,c⟩
theorem rdF_ok {kps} {ss} {rs} {S} z c (hP:Prs kps ss.length rs) (hk:∀ p∈kps,0<=p/\p<=3) (hS:SnOk kps S):Rd kps ss rs (stn S) (z,c) (stn (rdF ss rs S z c))/\SnOk kps (rdF ss rs S z c):=by
 obtain ⟨s',h1,h2,_⟩:=rd_of (z,c) hP hk (ok2_of hS)
 obtain ⟨g1,g2⟩:=stn_sn h2
 have e:rdF ss rs S z c=snOf s':=by
  rcases id h1 with ⟨h3,rfl⟩ | ⟨room,ks,st,kp,gd,h3,_,hr,_,_,h4⟩
  ·cases S with
   | none=>rfl
   | some x=>cases h3
  ·cases S with
   | none=>cases h3
   | some x =>
    injection h3 with h3
    injection h3 with e1 h3
    injection h3 with e2 _
    injection e1 with e1
    injection e2 with e2
    show (match rs[x.1.toNat]? with
     | some (.tup [_,_,.lst st])=>snOf _
     | _=>none)=_
    rw [e1,hr,((List.map_inj_right fun a b h=>by injection h).mp e2),h4]
 rw [e,g1]
 exact ⟨h1,g2⟩
noncomputable def gdF (rs:List D) (p:Int):Bool:=if p=-1 then false else (match rs[p.toNat]? with
 | some (.tup [_,.bl g,_])=>g
 | _=>false)
theorem sn_len {kps} {S} (hk:∀ p∈kps,0<=p/\p<=3) (h:SnOk kps S):(nms S).length<=3:=by
 cases S with
 | none=>exact Nat.zero_le _
 | some x =>
  obtain ⟨a,b,c⟩:=h x.1 x.2 rfl
  have hm:kps.getD x.1.toNat 0∈kps:=by rw [List.getD_eq_getElem?_getD,List.getElem?_eq_getElem (by lia)];exact List.getElem_mem _
  have:=(hk _ hm).2
  show x.2.length<=3
  lia
end J
noncomputable section
noncomputable section
noncomputable section
namespace Kp
open Q PySem C
theorem bk (E:En):back [] [] (clr [] E)=E:=rfl
end Kp
noncomputable section
namespace U
open Q PySem C B J
theorem stn_inj {a b:Sn} (h:stn a=stn b):a=b:=by
 cases a with
 | none=>cases b with
  | none=>rfl
  | some y=>cases h
 | some x=>cases b with
  | none=>cases h
  | some y =>
   have h:(D.tup [.int x.1,iT x.2])=.tup [.int y.1,iT y.2]:=h
   injection h with h
   injection h with e1 h
   injection h with e2 _
   injection e1 with e1
   injection e2 with e2
   have e2:x.2=y.2:=(List.map_inj_right fun a b h=>by injection h).mp e2
   exact congrArg some (Prod.ext e1 e2)
theorem rd_fn {kps:List Int} {ss:List Str} {rs:List D} {s a b:D} {w:Str×Int} (h:Rd kps ss rs s w a) (h':Rd kps ss rs s w b):a=b:=by
 rcases h with ⟨rfl,rfl⟩ | ⟨room,ks,st,kp,gd,rfl,_,hr,_,_,e⟩
 ·rcases h' with ⟨_,rfl⟩ | ⟨room,ks,st,kp,gd,h,_⟩
  ·rfl
  ·cases h
 ·rcases h' with ⟨h,_⟩ | ⟨room',ks',st',kp',gd',h,_,hr',_,_,e'⟩
  ·cases h
  ·injection h with h
   injection h with e1 h
   injection h with e2 _
   injection e1 with e1
   injection e2 with e2
   have e2:ks=ks':=(List.map_inj_right fun a b h=>by injection h).mp e2
   subst e1 e2
   rw [hr] at hr'
   injection hr' with hr'
   injection hr' with hr'
   injection hr' with _ hr'
   injection hr' with _ hr'
   injection hr' with hr' _
   injection hr' with hr'
   rw [e,e',hr']
section
variable {kps kps':List Int} {ss:List Str} {rs rs':List D} {f:Int->Int}
theorem rdF_map {S:Sn} {z:Str} {c:Int} (hP:Prs kps ss.length rs) (hk:∀ p∈kps,0<=p/\p<=3) (hS:SnOk kps S) (hinj:∀ x∈nms S,f x=f c->x=c):rdF ss rs (mapS f S) z (f c)=mapS f (rdF ss rs S z c)/\∀ n∈nms (rdF ss rs S z c),n∈nms S\/n=c:=by
 obtain ⟨s',h1,h2,h3,_⟩:=rd_map (z:=z) hP hk hS hinj
 have hm:SnOk kps (mapS f S):=by
  cases S with
  | none=>exact fun _ _ e=>nomatch e
  | some x =>
   intro room ks e
   cases e
   obtain ⟨a,b,c⟩:=hS x.1 x.2 rfl
   exact ⟨a,b,by rw [List.length_map];exact c⟩
 have e1:=stn_inj (rd_fn (rdF_ok z c hP hk hS).1 h1)
 have e2:=stn_inj (rd_fn (rdF_ok z (f c) hP hk hm).1 h2)
 rw [e1,e2]
 exact ⟨rfl,h3⟩
end
end U
noncomputable section
noncomputable section
namespace U
open Q PySem C B J
section
variable {kps kps':List Int} {ss:List Str} {rs rs':List D}
structure Two (kps kps':List Int) (S T:Sn):Prop where
 a:SnOk kps S
 b:SnOk kps' T
 na:(nms S).Nodup
 nb:(nms T).Nodup
noncomputable def run (ss:List Str) (rs:List D) (S:Sn) (w:List (Str×Int)):Sn:=w.foldl (fun S x=>rdF ss rs S x.1 x.2) S
noncomputable abbrev S0:Sn:=some (0,[])
theorem two_0 (h0:kps[0]?=some 0) (h0':kps'[0]?=some 0):Two kps kps' S0 S0:=by
 have mk:∀ {l},l[0]?=some 0->SnOk l S0:=fun {l} h room ks e=>by
  cases e
  have hl:=(List.getElem?_eq_some_iff.mp h).1
  exact ⟨by decide,by lia,by show 0=l.getD 0 0;rw [List.getD_eq_getElem?_getD,h];rfl⟩
 exact ⟨mk h0,mk h0',List.nodup_nil,List.nodup_nil⟩
theorem run_map {h} (hP:Prs kps ss.length rs) (hk:∀ p∈kps,0<=p/\p<=3):∀ w {S},SnOk kps S->(∀ x,x∈nms S\/x∈w.map (·.2)->∀ y,y∈nms S\/y∈w.map (·.2)->h x=h y->x=y)->run ss rs (mapS h S) (w.map fun x=>(x.1,h x.2))=mapS h (run ss rs S w)
 | [],S,_,_=>rfl
 | x :: w,S,hS,hi=>by
  have hc:∀ {y},y=x.2->y∈nms S\/y∈((x :: w).map _):=fun e=>.inr (by rw [e];exact List.mem_cons_self)
  obtain ⟨r1,r2⟩:=rdF_map hP hk hS fun y hy e=>hi y (.inl hy) x.2 (hc rfl) e
  show run ss rs (rdF ss rs _ x.1 _) _=mapS h _
  rw [r1]
  have up:∀ y,y∈nms _\/y∈w.map _->y∈nms S\/y∈(x :: w).map _:=fun y hy=>by
   rcases hy with hy | hy
   ·rcases r2 y hy with q | q
    ·exact .inl q
    ·exact hc q
   ·exact .inr (List.mem_cons_of_mem _ hy)
  exact run_map hP hk w (rdF_ok x.1 x.2 hP hk hS).2 fun y hy y' hy' e=>hi y (up y hy) y' (up y' hy') e
end
end U
noncomputable section
noncomputable section
noncomputable section
noncomputable section
noncomputable section
namespace U
open Q PySem C B J
section
variable {kps kps':List Int} {ss:List Str} {rs rs':List D}
theorem run_ch (hP:Prs kps ss.length rs) (hk:∀ p∈kps,0<=p/\p<=3):∀ (w:List (Str×Int)) {S},SnOk kps S->Ch2 kps ss rs (stn S) w (stn (run ss rs S w))/\SnOk kps (run ss rs S w)
 | [],S,h=>⟨rfl,h⟩
 | x :: w,S,h=>by
  obtain ⟨r1,r2⟩:=rdF_ok x.1 x.2 hP hk h
  obtain ⟨i1,i2⟩:=run_ch hP hk w r2
  exact ⟨⟨_,r1,i1⟩,i2⟩
theorem good_is {S} (h:SnOk kps S):goodD rs (stn S)=gdF rs (rmO S):=by
 cases S with
 | none=>rfl
 | some x =>
  have:=(h x.1 x.2 rfl).1
  show _=gdF rs x.1
  unfold gdF
  rw [if_neg (by lia)]
  rfl
noncomputable def letB (ss:List Str) (rs:List D) (w:List (Str×Int)):Bool:=gdF rs (rmO (run ss rs S0 w))
theorem let_map {h:Int->Int} {w} (h0:kps[0]?=some 0) (hP:Prs kps ss.length rs) (hk:∀ p∈kps,0<=p/\p<=3) (hi:∀ x∈w.map (·.2),∀ y∈w.map (·.2),h x=h y->x=y):letB ss rs (w.map fun x=>(x.1,h x.2))=letB ss rs w:=by
 have:=run_map hP hk w ((two_0 (kps':=kps) h0 h0).a) fun x hx y hy e=>hi x (hx.resolve_left fun z=>nomatch z) y (hy.resolve_left fun z=>nomatch z) e
 unfold letB
 show gdF rs (rmO (run ss rs (mapS h S0) _))=_
 rw [this,rmO_map]
end
theorem ints_is:∀ l,intsD (l.map D.int)=some l
 | []=>rfl
 | a :: l=>by
  rw [List.map_cons,intsD,ints_is l]
  rfl
end U
noncomputable section
namespace J
open Q PySem C B U
section
variable {kps kps':List Int} {ss:List Str} {rs rs':List D} {w:Str}
theorem rdF_out {z} (hz:(ss.any fun w=>w == z)=false) S c:rdF ss rs S z c=none:=by
 unfold rdF
 split
 ·rfl
 ·split
  ·unfold readD
   rw [hz]
   rfl
  ·rfl
end
end J
noncomputable section
noncomputable section
namespace V
open Q PySem C
noncomputable def m_names_in:Fn:=fn 1
  (sRet (cF1 (pu1 fLenSetI) (vE (cLC .rt 2 [] (itS (cV 0)) (.t [0,1]) tYes (cV 1)))))
theorem lenset_I {l} (h:l.length < 4000):fLenSetI (.lst (l.map D.int))=some (.int (ddI l).length):=by
 unfold fLenSetI
 dsimp only
 rw [U.ints_is]
 exact if_pos h
theorem dd_snoc a x:ddI (a++[x])=if x∈ddI a then ddI a else ddI a++[x]:=by
 unfold ddI
 rw [List.foldl_append,List.foldl_cons,List.foldl_nil]
 by_cases h:x∈a.foldl (fun l k=>if l.any (· == k) then l else l++[k]) []
 ·rw [if_pos h,if_pos (by simpa using h)]
 ·rw [if_neg h,if_neg (by simpa using h)]
theorem dd_mem:∀ b a (x),x∈ddI a\/x∈b->x∈ddI (a++b)
 | [],a,x,h=>by grind
 | y :: b,a,x,h=>by
  rw [show a++y :: b=(a++[y])++b by simp]
  refine dd_mem b _ x ?_
  rw [dd_snoc]
  rcases h with h | h
  ·grind
  ·grind
noncomputable def idx (S:List Int) (n:Int):Int:=(S.idxOf n:Nat)
theorem idx_app {S} {x n} (h:n∈S):idx (S++[x]) n=idx S n:=by
 unfold idx
 rw [List.idxOf_append,if_pos h]
theorem idx_inj {S} {x y} (hx:x∈S) (hy:y∈S) (h:idx S x=idx S y):x=y:=by
 have h:S.idxOf x=S.idxOf y:=by unfold idx at h;lia
 rw [← (List.getElem_idxOf (List.idxOf_lt_length_of_mem hx)),← (List.getElem_idxOf (List.idxOf_lt_length_of_mem hy))]
 simp only [h]
noncomputable abbrev ns2 (ws:List (Str×Int)):List Int:=ws.map (·.2)
noncomputable def shW (ws:List (Str×Int)):List (Str×Int):=ws.map fun w=>(w.1,idx (ddI (ns2 ws)) w.2)
theorem shW_len ws:(shW ws).length=ws.length:=by unfold shW;rw [List.length_map]
theorem dd_len b:∀ a,(ddI (a++b)).length<=(ddI a).length + b.length:=by
 induction b with
 | nil=>intro a;rw [List.append_nil];exact Nat.le_refl _
 | cons y b ih =>
  intro a
  rw [show a++y :: b=(a++[y])++b by simp]
  have e:(ddI (a++[y])).length<=(ddI a).length + 1:=by
   rw [dd_snoc]
   split
   ·lia
   ·simp
  grind
theorem shW_snoc f w:rwD (shW (f++[w]))=rwD (shW f)++[.tup [.str w.1,.int (idx (ddI (ns2 f++[w.2])) w.2)]]:=by
 have hn:ns2 (f++[w])=ns2 f++[w.2]:=by simp
 unfold shW
 rw [hn,List.map_append]
 unfold rwD
 rw [List.map_append]
 congr 1
 refine congrArg (List.map _) (List.map_congr_left fun a ha=>?_)
 have hm:a.2∈ddI (ns2 f):=dd_mem (ns2 f) [] a.2 (.inr (List.mem_map.mpr ⟨a,ha,rfl⟩))
 rw [dd_snoc]
 split
 ·rfl
 ·rw [idx_app hm]
end V
noncomputable section
namespace V
open Q PySem C
noncomputable abbrev Sh:=List (Str×Int)
noncomputable abbrev tD (s:Sh):D:=.tup (rwD s)
noncomputable def nk (s:Sh):Nat:=(ddI (ns2 s)).length
theorem rw_inj:∀ {a b:Sh},rwD a=rwD b->a=b:=by
 intro a
 induction a with
 | nil=>intro b h;cases b with | nil=>rfl | cons=>cases h
 | cons x a ih =>
  intro b h
  cases b with
  | nil=>cases h
  | cons y b=>grind
theorem tD_inj {a b} (h:tD a=tD b):a=b:=rw_inj (D.tup.inj h)
theorem names_okG {s} {d} (hd:d=tD s\/d=.lst (rwD s)) (hl:s.length<=1000):Oo m_names_in [(.no,d)] (fun y=>∃ o,y=(o,.int (nk s))/\True) noX:=by
 rcases hd with rfl | rfl
 all_goals
  refine oo_fn ?_
  simp! only []
  refine eo_lc (fun E1 B ds acc=>∃ (q0 q1:Option Sd) (s1 s2:Sh),B=[q0,q1]/\ds=rwD s2/\s=s1++s2/\acc.map (·.2)=(ns2 s1).map D.int) ?_ ?_ ?_
  ·simp! only []
   exact ⟨_,_,[],s,rfl,rfl,rfl,rfl⟩
  ·rintro E1 B d ds acc ⟨q0,q1,s1,s2,rfl,hds,hs,ha⟩
   cases s2 with
   | nil=>cases hds
   | cons w s2 =>
    injection hds with e1 e2
    subst e1 e2
    simp! only []
    exact ⟨_,_,s1++[w],s2,rfl,rfl,by rw [hs];simp,by rw [List.map_append,ha];simp⟩
  ·rintro E1 B acc ⟨q0,q1,s1,s2,rfl,hds,hs,ha⟩
   have:s2=[]:=by cases s2 with | nil=>rfl | cons=>cases hds
   subst this
   rw [List.append_nil] at hs
   subst hs
   rw [mkL_rt,ha]
   simp! only [lenset_I (l:=ns2 s) (by rw [List.length_map];lia)]
   exact ⟨_,rfl,trivial⟩
end V
noncomputable section
namespace V
open Q PySem C Tl
theorem rng_nat (n:Nat):rangeD 0 n=(List.range n).map fun (k:Nat)=>D.int k:=by
 exact List.map_congr_left fun k _=>by rw [Int.zero_add]
theorem key_rw {n}:∀ s:Sh,keyDs (n + 1) (rwD s)=true:=by
 intro s
 induction s with
 | nil=>rfl
 | cons x s ih =>
  show (keyD _ _ && keyDs _ _)=true
  rw [ih]
  simp [keyDs,keyD]
theorem key_tD s:isKeyT (tD s)=true:=by
 show (keyD 6 _ && true)=true
 unfold keyD
 rw [key_rw]
 rfl
end V
noncomputable section
namespace V
open Q PySem C Tl
theorem nk_le x:nk x<=x.length:=by
 have:=dd_len (ns2 x) []
 rw [List.nil_append,List.length_map] at this
 have e:(ddI []).length=0:=rfl
 unfold nk
 lia
end V
noncomputable section
namespace V
open Q PySem C Tl
noncomputable abbrev lD (s:Sh):D:=.lst (rwD s)
theorem peq_sh (a b):peq (tD a) (tD b)=decide (a=b):=by
 have ka:keyD 6 (tD a)=true:=by have:=key_tD a;unfold isKeyT at this;rw [Bool.and_eq_true] at this;exact this.1
 have kb:keyD 6 (tD b)=true:=by have:=key_tD b;unfold isKeyT at this;rw [Bool.and_eq_true] at this;exact this.1
 rw [key_peq ka kb]
 exact decide_eq_decide.mpr ⟨tD_inj,fun e=>by rw [e]⟩
theorem any_sh x:∀ K:List Sh,((K.map tD).any fun z=>peq z (tD x))=decide (x∈K):=by
 intro K
 induction K with
 | nil=>simp
 | cons k K ih =>
  rw [List.map_cons,List.any_cons,ih,peq_sh]
  grind
theorem flat_rw {n} (s:Sh):D.flats (n + 1) (rwD s)=true:=flats_of fun d hd=>by
 obtain ⟨w,_,rfl⟩:=List.mem_map.mp hd
 cases n<;>rfl
theorem any_ls x (K:List Sh):((K.map lD).any fun z=>peq z (lD x))=decide (x∈K):=by
 rw [← any_sh,List.any_map,List.any_map]
 rfl
theorem in_ls {x} {K:List Sh}:fInQ (lD x) (.lst (K.map lD))=some (.bl (decide (x∈K))):=by
 have f1:(lD x).flat 30=true:=flat_rw x
 have f2:D.flats 30 (K.map lD)=true:=flats_of fun d hd=>by obtain ⟨s,_,rfl⟩:=List.mem_map.mp hd;exact flat_rw s
 show (if (lD x).flat 30 && D.flats 30 _ then some _ else none)=_
 rw [f1,f2,any_ls]
 rfl
end V
noncomputable section
noncomputable section
namespace V
open Q PySem C Tl
theorem dd_in {a} {x} (h:x∈a):x∈ddI a:=dd_mem a [] x (.inr h)
theorem sh_snoc (f:Sh) (x:Str×Int):shW (f++[x])=shW f++[(x.1,idx (ddI (ns2 f++[x.2])) x.2)]:=rw_inj (by rw [shW_snoc,rwD,rwD,List.map_append];rfl)
theorem idx_lt {S} {x} (h:x∈S):idx S x < S.length:=by
 have:=List.idxOf_lt_length_of_mem h
 unfold idx
 lia
theorem idx_new {S} {x} (h:x∉S):idx (S++[x]) x=S.length:=by
 unfold idx
 rw [List.idxOf_append,if_neg h]
 simp
theorem rev_ind {P:Sh->Prop} (h0:P []) (h1:∀ f x,P f->P (f++[x])) w:P w:=by
 have:∀ r:Sh,P r.reverse:=by
  intro r
  induction r with
  | nil=>exact h0
  | cons x r ih=>rw [List.reverse_cons];exact h1 _ x ih
 have e:=this w.reverse
 rwa [List.reverse_reverse] at e
theorem dd_sh (w:Sh):ddI (ns2 (shW w))=(List.range (ddI (ns2 w)).length).map fun (k:Nat)=>(k:Int):=by
 refine rev_ind (P:=fun w=>ddI (ns2 _)=(List.range (ddI _).length).map fun (k:Nat)=>(k:Int)) rfl (fun f x ih=>?_) w
 ·have e1:ns2 (shW (f++[x]))=ns2 (shW f)++[idx (ddI (ns2 f++[x.2])) x.2]:=by rw [sh_snoc,ns2,List.map_append];rfl
  have e2:ns2 (f++[x])=ns2 f++[x.2]:=by rw [ns2,List.map_append];rfl
  rw [e1,e2,dd_snoc,ih]
  by_cases h:x.2∈ddI (ns2 f)
  ·have e3:ddI (ns2 f++[x.2])=ddI (ns2 f):=by rw [dd_snoc,if_pos h]
   rw [e3,if_pos]
   exact List.mem_map.mpr ⟨(ddI _).idxOf x.2,List.mem_range.mpr (List.idxOf_lt_length_of_mem h),rfl⟩
  ·have e3:ddI (ns2 f++[x.2])=ddI (ns2 f)++[x.2]:=by rw [dd_snoc,if_neg h]
   rw [e3,idx_new h,if_neg,List.length_append,List.length_singleton,List.range_succ,List.map_append]
   ·rfl
   ·intro z
    obtain ⟨k,hk,e⟩:=List.mem_map.mp z
    have:=List.mem_range.mp hk
    lia
theorem nk_sh (w:Sh):nk (shW w)=(ddI (ns2 w)).length:=by unfold nk;rw [dd_sh,List.length_map,List.length_range]
end V
noncomputable section
noncomputable section
namespace V
open Q PySem C Tl
noncomputable abbrev Lo (a b:Sh):Prop:=ltDs (rwD a) (rwD b)=some true
theorem lo_app {a b} (h:Lo a b) (hl:a.length=b.length) (c d):Lo (a++c) (b++d):=by
 induction a generalizing b with
 | nil =>
  cases b with
  | nil=>unfold Lo ltDs at h;cases h
  | cons=>cases hl
 | cons x a ih =>
  cases b with
  | nil=>cases hl
  | cons y b =>
   show ltDs (.tup [.str x.1,.int x.2] :: rwD _) (.tup [.str y.1,.int y.2] :: rwD _)=some true
   have h:ltDs (.tup [.str x.1,.int x.2] :: rwD a) (.tup [.str y.1,.int y.2] :: rwD b)=some true:=h
   unfold ltDs at h ⊢
   by_cases e:(D.tup [.str x.1,.int x.2])=.tup [.str y.1,.int y.2]
   ·rw [if_pos e] at h ⊢
    exact ih h (by simpa using hl)
   ·rw [if_neg e] at h ⊢
    exact h
theorem lo_last a {p q:Str×Int} (h:ltD (.tup [.str p.1,.int p.2]) (.tup [.str q.1,.int q.2])=some true):Lo (a++[p]) (a++[q]):=by
 induction a with
 | nil =>
  show ltDs [.tup [.str p.1,.int p.2]] [.tup [.str q.1,.int q.2]]=some true
  unfold ltDs
  rwa [if_neg fun e=>by rw [e] at h;exact lt_irr _ h]
 | cons x a ih =>
  show ltDs (.tup [.str x.1,.int x.2] :: rwD _) (.tup [.str x.1,.int x.2] :: rwD _)=some true
  unfold ltDs
  rwa [if_pos rfl]
theorem lt_sign {z w} (i j) (h:z.cps.toList < w.cps.toList):ltD (.tup [.str z,.int i]) (.tup [.str w,.int j])=some true:=by
 unfold ltD ltDs
 rw [if_neg fun e=>by injection e with e;rw [e] at h;exact List.lt_irrefl _ h]
 unfold ltD
 rw [decide_eq_true h]
theorem lt_name z {i j} (h:i < j):ltD (.tup [.str z,.int i]) (.tup [.str z,.int j])=some true:=by
 unfold ltD ltDs
 rw [if_pos rfl]
 unfold ltDs
 rw [if_neg fun e=>by lia]
 unfold ltD
 rw [decide_eq_true h]
theorem idx_rng {n} {k} (h:k < n):idx ((List.range n).map fun (k:Nat)=>k) k=k:=by
 unfold idx
 have:∀ n k f,k < n->((List.range' f n).map fun (k:Nat)=>(k:Int)).idxOf ((f + k:Nat):Int)=k:=by
  intro n
  induction n with
  | zero=>grind
  | succ n ih =>
   intro k f h
   rw [List.range'_succ,List.map_cons,List.idxOf_cons]
   cases k with
   | zero=>simp
   | succ k =>
    rw [beq_false_of_ne (show _≠_ by lia)]
    have:=ih k (f + 1) (by lia)
    rw [show f + 1 + k=f + (k + 1) by lia] at this
    exact congrArg (· + 1) this
 have h2:=this n k 0 h
 rw [Nat.zero_add] at h2
 rw [List.range_eq_range',h2]
theorem sh_on (w:Sh) z {k} (hk:k<=nk (shW w)) (ih:shW (shW w)=shW w):shW (shW w++[(z,(k:Int))])=shW w++[(z,(k:Int))]:=by
 rw [sh_snoc,ih]
 have e:ddI (ns2 (shW w))=(List.range (nk (shW w))).map fun (k:Nat)=>(k:Int):=by rw [dd_sh,nk_sh]
 rw [dd_snoc,e]
 by_cases h:k < nk (shW w)
 ·rw [if_pos (List.mem_map.mpr ⟨k,List.mem_range.mpr h,rfl⟩),idx_rng h]
 ·have hk:k=nk (shW w):=by lia
  have hn:(k:Int)∉(List.range (nk (shW w))).map fun (k:Nat)=>(k:Int):=fun z=>by
   grind
  rw [if_neg hn,idx_new hn,List.length_map,List.length_range,hk]
theorem sh_sh (w:Sh):shW (shW w)=shW w:=by
 refine rev_ind (P:=fun w=>shW (shW w)=shW w) rfl (fun f x ih=>?_) w
 rw [sh_snoc]
 have hm:x.2∈ddI (ns2 f++[x.2]):=dd_in (by simp)
 have hi:=idx_lt hm
 have hl:=dd_len [x.2] (ns2 f)
 have h0:0<=idx (ddI (ns2 f++[x.2])) x.2:=by unfold idx;lia
 rw [List.length_singleton] at hl
 obtain ⟨k,hk⟩:=Int.eq_ofNat_of_zero_le h0
 rw [hk] at hi ⊢
 exact sh_on f x.1 (by rw [nk_sh];lia) ih
end V
noncomputable section
namespace V
open Q PySem C B J U Tl
noncomputable def onP (p:Sh->Bool) (x:Sh) (z:Str):List Sh:=((List.range (nk x + 1)).map fun (k:Nat)=>x++[(z,(k:Int))]).filter p
noncomputable def walkP (p:Sh->Bool) (ss:List Str):Nat->List Sh
 | 0=>[[]]
 | n + 1=>(walkP p ss n).flatMap fun x=>ss.flatMap (onP p x)
section
variable {p:Sh->Bool} {ss:List Str}
theorem onP_mem {x y:Sh} {z:Str}:y∈onP p x z↔(∃ k:Nat,k<=nk x/\y=x++[(z,(k:Int))])/\p y=true:=by
 unfold onP
 rw [List.mem_filter,List.mem_map]
 refine and_congr_left fun _=>⟨fun ⟨k,h,e⟩=>⟨k,by have:=List.mem_range.mp h;lia,e.symm⟩,fun ⟨k,h,e⟩=>⟨k,List.mem_range.mpr (by lia),e.symm⟩⟩
theorem onP_len (x:Sh) (z:Str):(onP p x z).length<=nk x + 1:=by
 have:=List.length_filter_le p ((List.range (nk x + 1)).map fun (k:Nat)=>x++[(z,(k:Int))])
 rw [List.length_map,List.length_range] at this
 exact this
theorem walkP_len:∀ {n} {x},x∈walkP p ss n->x.length=n
 | 0,x,h=>by rw [List.mem_singleton.mp h];rfl
 | n + 1,x,h=>by
  obtain ⟨y,hy,hx⟩:=List.mem_flatMap.mp h
  obtain ⟨z,_,hx⟩:=List.mem_flatMap.mp hx
  obtain ⟨⟨k,_,rfl⟩,_⟩:=onP_mem.mp hx
  rw [List.length_append,walkP_len hy]
  rfl
theorem walkP_rise (hs:ss.Pairwise fun a b=>a.cps.toList < b.cps.toList):∀ n,(walkP p ss n).Pairwise Lo
 | 0=>List.pairwise_singleton _ _
 | n + 1=>by
  unfold walkP
  rw [List.pairwise_flatMap]
  refine ⟨fun x _=>?_,(walkP_rise hs n).imp_of_mem fun {a b} ha hb hab y hy w hw=>?_⟩
  ·rw [List.pairwise_flatMap]
   refine ⟨fun z _=>List.Pairwise.filter _ ?_,hs.imp fun {a b} hab y hy w hw=>?_⟩
   ·rw [List.pairwise_map]
    exact List.pairwise_lt_range.imp fun h=>lo_last x (lt_name z (by lia))
   ·obtain ⟨⟨i,_,rfl⟩,_⟩:=onP_mem.mp hy
    obtain ⟨⟨j,_,rfl⟩,_⟩:=onP_mem.mp hw
    exact lo_last x (lt_sign _ _ hab)
  ·obtain ⟨z,_,hy⟩:=List.mem_flatMap.mp hy
   obtain ⟨⟨i,_,rfl⟩,_⟩:=onP_mem.mp hy
   obtain ⟨z2,_,hw⟩:=List.mem_flatMap.mp hw
   obtain ⟨⟨j,_,rfl⟩,_⟩:=onP_mem.mp hw
   exact lo_app hab (by rw [walkP_len ha,walkP_len hb]) _ _
theorem fm_le {α β:Type} {f:α->List β} {m}:∀ {l:List α},(∀ a∈l,(f a).length<=m)->(l.flatMap f).length<=m * l.length
 | [],_=>Nat.zero_le _
 | a :: l,h=>by
  have:=fm_le (l:=l) fun b hb=>h b (List.mem_cons_of_mem _ hb)
  have:=h a List.mem_cons_self
  rw [List.flatMap_cons,List.length_append,List.length_cons,Nat.mul_succ]
  lia
theorem walkP_short (hs:ss.length<=3):∀ n,n<=4->(walkP p ss n).length<=2000/\(n<=3->(walkP p ss n).length<=162):=by
 have step:∀ n m,(walkP p ss n).length<=m->(walkP p ss (n + 1)).length<=3 * (n + 1) * m:=fun n m h=>by
  have:∀ x∈walkP p ss n,(ss.flatMap (onP p x)).length<=3 * (n + 1):=fun x hx=>by
   have h1:=fm_le (f:=onP p x) (m:=n + 1) (l:=ss) fun z _=>by
    have:=onP_len (p:=p) x z
    have:=nk_le x
    rw [walkP_len hx] at this
    lia
   have:=Nat.mul_le_mul_left (n + 1) hs
   lia
  exact Nat.le_trans (fm_le this) (Nat.mul_le_mul_left _ h)
 have h0:(walkP p ss 0).length<=1:=Nat.le_refl _
 have h1:=step 0 _ h0
 have h2:=step 1 _ h1
 have h3:=step 2 _ h2
 have h4:=step 3 _ h3
 intro n hn
 rcases (show n=0\/n=1\/n=2\/n=3\/n=4 by lia) with rfl | rfl | rfl | rfl | rfl<;>lia
theorem sh_init {y:Sh} {q:Str×Int} (h:shW (y++[q])=y++[q]):shW y=y/\0<=q.2/\q.2<=nk y:=by
 rw [sh_snoc] at h
 obtain ⟨h1,h2⟩:=List.append_inj' h rfl
 have h2:(q.1,idx (ddI (ns2 y++[q.2])) q.2)=q:=by simpa using h2
 have h3:idx (ddI (ns2 y++[q.2])) q.2=q.2:=congrArg Prod.snd h2
 have hi:=idx_lt (show q.2∈ddI (ns2 y++[q.2]) from dd_in (by simp))
 have hl:=dd_len [q.2] (ns2 y)
 rw [List.length_singleton] at hl
 have h0:0<=idx (ddI (ns2 y++[q.2])) q.2:=by unfold idx;lia
 rw [h3] at hi h0
 unfold nk
 exact ⟨h1,h0,by lia⟩
theorem walkP_mem (hp:∀ y q,p (y++[q])=true->p y=true) (h0:p []=true):∀ {n} {x},x∈walkP p ss n↔x.length=n/\shW x=x/\(∀ q∈x,q.1∈ss)/\p x=true
 | 0,x=>by
  constructor
  ·intro h
   rw [List.mem_singleton.mp h]
   exact ⟨rfl,rfl,(fun _ h=>nomatch h),h0⟩
  ·rintro ⟨h,_⟩
   rw [List.length_eq_zero_iff.mp h]
   exact List.mem_singleton.mpr rfl
 | n + 1,x=>by
  constructor
  ·intro h
   obtain ⟨y,hy,hx⟩:=List.mem_flatMap.mp h
   obtain ⟨z,hz,hx⟩:=List.mem_flatMap.mp hx
   obtain ⟨⟨k,hk,rfl⟩,hpx⟩:=onP_mem.mp hx
   obtain ⟨a,b,c,d⟩:=(walkP_mem hp h0).mp hy
   refine ⟨by rw [List.length_append,a];rfl,?_,fun q hq=>?_,hpx⟩
   ·have:=sh_on y z (k:=k) (by rw [b];exact hk) (sh_sh y)
    rwa [b] at this
   ·rcases List.mem_append.mp hq with hq | hq
    ·exact c q hq
    ·rw [List.mem_singleton.mp hq];exact hz
  ·rintro ⟨a,b,c,d⟩
   have hx:x≠[]:=fun e=>by rw [e] at a;cases a
   obtain ⟨y,q,rfl⟩:∃ y q,x=y++[q]:=⟨_,_,(List.dropLast_concat_getLast hx).symm⟩
   obtain ⟨e1,e2,e3⟩:=sh_init b
   obtain ⟨k,hk⟩:=Int.eq_ofNat_of_zero_le e2
   refine List.mem_flatMap.mpr ⟨y,(walkP_mem hp h0).mpr ⟨by rw [List.length_append,List.length_singleton] at a;lia,e1,fun r hr=>c r (List.mem_append_left _ hr),hp y q d⟩,List.mem_flatMap.mpr ⟨q.1,c q (by simp),onP_mem.mpr ⟨⟨k,by lia,?_⟩,d⟩⟩⟩
   rw [← hk]
end
section
variable {kps:List Int} {ss:List Str} {rs:List D}
noncomputable def st (ss:List Str) (rs:List D) (x:Sh):Sn:=U.run ss rs S0 x
noncomputable def onB (ss:List Str) (rs:List D) (x:Sh):Bool:=(st ss rs x).isSome
theorem st_snoc (x:Sh) (q:Str×Int):st ss rs (x++[q])=rdF ss rs (st ss rs x) q.1 q.2:=by unfold st U.run;rw [List.foldl_append];rfl
theorem onB_pre (y:Sh) (q:Str×Int) (h:onB ss rs (y++[q])=true):onB ss rs y=true:=by
 unfold onB at *
 rw [st_snoc] at h
 cases he:st ss rs y with
 | none=>rw [he] at h;cases h
 | some x=>rfl
theorem sh_ren (w:Sh):shW w=w.map fun q=>(q.1,idx (ddI (ns2 w)) q.2):=rfl
theorem let_sh {w:Sh} (h0:kps[0]?=some 0) (hP:Prs kps ss.length rs) (hk:∀ p∈kps,0<=p/\p<=3):letB ss rs (shW w)=letB ss rs w:=by
 rw [sh_ren]
 exact let_map (h:=idx (ddI (ns2 w))) h0 hP hk fun x hx y hy e=>idx_inj (dd_in hx) (dd_in hy) e
noncomputable def lets (ss:List Str) (rs:List D) (n:Nat):List Sh:=(walkP (onB ss rs) ss n).filter (letB ss rs)
theorem let_on {x:Sh} (h:letB ss rs x=true):onB ss rs x=true:=by
 unfold letB at h
 unfold onB st
 cases he:U.run ss rs S0 x with
 | none=>rw [he] at h;cases h
 | some s=>rfl
theorem lets_mem {w:Sh} {n:Nat} (h0:kps[0]?=some 0) (hP:Prs kps ss.length rs) (hk:∀ p∈kps,0<=p/\p<=3) (hl:w.length=n) (hs:∀ q∈w,q.1∈ss):decide (shW w∈lets ss rs n)=letB ss rs w:=by
 have e:=let_sh (w:=w) h0 hP hk
 unfold lets
 cases h:letB ss rs w with
 | false =>
  refine decide_eq_false fun z=>?_
  rw [List.mem_filter,e,h] at z
  exact nomatch z.2
 | true =>
  rw [h] at e
  refine decide_eq_true (List.mem_filter.mpr ⟨(walkP_mem onB_pre rfl).mpr ⟨by rw [shW_len,hl],sh_sh w,fun q hq=>?_,let_on e⟩,e⟩)
  rw [sh_ren] at hq
  obtain ⟨r,hr,rfl⟩:=List.mem_map.mp hq
  exact hs r hr
end
end V
noncomputable section
namespace W3
open Q PySem C
noncomputable abbrev AZ:Str:="abcdefghijklmnopqrstuvwxyz"
noncomputable def Sg (z:Str):Prop:=1<=z.cps.size/\z.cps.size<=8/\∀ c∈z.cps.toList,c∈AZ.cps.toList
theorem nodup_map {n:Nat} {f:Nat->Str} (h:∀ i j,i < j->j < n->f i≠f j):((List.range n).map f).Nodup:=by
 unfold List.Nodup
 rw [List.pairwise_map]
 exact List.pairwise_lt_range.imp_of_mem fun _ hj hlt=>h _ _ hlt (List.mem_range.mp hj)
theorem sl_to {z:Str} {j:Int} (h0:0<=j) (h1:j<=z.cps.size):(Txt.slice z none (some j)).cps.toList=z.cps.toList.take j.toNat:=by
 have:=StrLaws.sliceText_to (x:=z) (j:=j) ⟨h0,by rw [Array.length_toList];exact h1⟩
 rw [show Txt.slice z none (some j)=StrLaws.sliceText z none (some j) from rfl,this]
 simp
theorem sl_mid {z:Str} {i j:Int} (h0:0<=i) (hij:i<=j) (h1:j<=z.cps.size):(Txt.slice z (some i) (some j)).cps.toList=(z.cps.toList.drop i.toNat).take (j - i).toNat:=by
 have:=StrLaws.sliceText_plain (x:=z) (i:=i) (j:=j) ⟨h0,hij,by rw [Array.length_toList];exact h1⟩
 rw [show Txt.slice z (some i) (some j)=StrLaws.sliceText z (some i) (some j) from rfl,this]
noncomputable def chr (t:Int):Nat:=AZ.cps.toList.getD t.toNat 0
theorem ix_az {t:Int} (h0:0<=t) (h1:t < 26):fIxQ (.str AZ) (.int t)=some (.str ⟨#[chr t]⟩)/\chr t∈AZ.cps.toList:=by
 have hl:AZ.cps.toList.length=26:=by decide +kernel
 have hs:AZ.cps.size=26:=by decide +kernel
 have e:AZ.cps.toList[t.toNat]?=some (chr t):=by
  unfold chr
  rw [List.getD_eq_getElem?_getD,List.getElem?_eq_getElem (by lia)]
  rfl
 refine ⟨?_,List.mem_of_getElem? e⟩
 show ((Q.ixN AZ.cps.size t).bind fun j=>(AZ.cps.toList[j]?).map fun c=>D.str ⟨#[c]⟩)=_
 unfold Q.ixN
 rw [if_pos h0,if_pos (by lia)]
 show ((AZ.cps.toList[t.toNat]?).map fun c=>D.str ⟨#[c]⟩)=_
 rw [e]
 rfl
theorem chr_inj {t u:Int} (h0:0<=t) (h1:t < 26) (g0:0<=u) (g1:u < 26) (e:chr t=chr u):t=u:=by
 have h:∀ i:Fin 26,∀ j:Fin 26,AZ.cps.toList.getD i 0=AZ.cps.toList.getD j 0->i=j:=by decide +kernel
 have:=h ⟨t.toNat,by lia⟩ ⟨u.toNat,by lia⟩ e
 have:=congrArg Fin.val this
 have:t.toNat=u.toNat:=this
 lia
noncomputable def wdA (z:Str) (c:Int) (k:Nat):Str:=Txt.slice z none (some (1 + ((k:Int) + c / 3) % 8))
theorem wdA_ok {z:Str} {c:Int} (hz:z.cps.size=8) (hl:∀ x∈z.cps.toList,x∈AZ.cps.toList) (k:Nat):Sg (wdA z c k)/\((wdA z c k).cps.size:Int)=1 + ((k:Int) + c / 3) % 8:=by
 have t0:=Int.emod_nonneg ((k:Int) + c / 3) (show (8:Int)≠0 by decide)
 have t1:=Int.emod_lt_of_pos ((k:Int) + c / 3) (show (0:Int) < 8 by decide)
 have e:=sl_to (z:=z) (j:=1 + ((k:Int) + c / 3) % 8) (by lia) (by lia)
 have hs:((wdA z c k).cps.size:Int)=1 + ((k:Int) + c / 3) % 8:=by
  unfold wdA
  rw [← Array.length_toList,e,List.length_take,Array.length_toList]
  lia
 refine ⟨⟨by lia,by lia,fun x hx=>hl x ?_⟩,hs⟩
 unfold wdA at hx
 rw [e] at hx
 exact List.mem_of_mem_take hx
theorem wdA_nodup {z:Str} {c:Int} (hz:z.cps.size=8) (hl:∀ x∈z.cps.toList,x∈AZ.cps.toList) {n:Nat} (hn:n<=3):((List.range n).map (wdA z c)).Nodup:=nodup_map fun i j hij hj e=>by
 have h1:=(wdA_ok (c:=c) hz hl i).2
 have h2:=(wdA_ok (c:=c) hz hl j).2
 rw [e] at h1
 lia
noncomputable def wdB (w1 w2:Str) (ii s:Int) (k:Nat):Str:=w1++⟨#[chr ((ii + (k:Int) * s) % 26)]⟩++w2
theorem wdB_list (w1 w2:Str) (ii s:Int) (k:Nat):(wdB w1 w2 ii s k).cps.toList=w1.cps.toList++(chr ((ii + (k:Int) * s) % 26) :: w2.cps.toList):=by
 unfold wdB
 rw [A.list_app,A.list_app,List.append_assoc]
 rfl
theorem wdB_ok {w1 w2:Str} {ii s:Int} (hs:w1.cps.size + w2.cps.size<=7) (h1:∀ x∈w1.cps.toList,x∈AZ.cps.toList) (h2:∀ x∈w2.cps.toList,x∈AZ.cps.toList) (k:Nat):Sg (wdB w1 w2 ii s k):=by
 have t0:=Int.emod_nonneg (ii + (k:Int) * s) (show (26:Int)≠0 by decide)
 have t1:=Int.emod_lt_of_pos (ii + (k:Int) * s) (show (0:Int) < 26 by decide)
 have hz:(wdB w1 w2 ii s k).cps.size=w1.cps.size + w2.cps.size + 1:=by
  rw [← Array.length_toList,wdB_list,List.length_append,List.length_cons,Array.length_toList,Array.length_toList]
  lia
 refine ⟨by lia,by lia,fun x hx=>?_⟩
 rw [wdB_list] at hx
 rcases List.mem_append.mp hx with hx | hx
 ·exact h1 x hx
 ·rcases List.mem_cons.mp hx with rfl | hx
  ·exact (ix_az t0 t1).2
  ·exact h2 x hx
theorem wdB_nodup {w1 w2:Str} {ii s:Int} (s1:1<=s) (s5:s<=5) {n:Nat} (hn:n<=3):((List.range n).map (wdB w1 w2 ii s)).Nodup:=nodup_map fun i j hij hj e=>by
 have e:(wdB w1 w2 ii s i).cps.toList=(wdB w1 w2 ii s j).cps.toList:=by rw [e]
 rw [wdB_list,wdB_list] at e
 have e:=List.append_cancel_left e
 injection e with e _
 have b:=fun k:Nat=>Int.emod_nonneg (ii + (k:Int) * s) (show (26:Int)≠0 by decide)
 have d:=fun k:Nat=>Int.emod_lt_of_pos (ii + (k:Int) * s) (show (0:Int) < 26 by decide)
 have e:=chr_inj (b i) (d i) (b j) (d j) e
 have hi:i=0\/i=1:=by lia
 have hj:j=1\/j=2:=by lia
 rcases hi with rfl | rfl<;>rcases hj with rfl | rfl<;>lia
noncomputable def hW (f:Nat->Str):D->D
 | .int k=>.str (f k.toNat)
 | d=>d
theorem each_words {G:D->Sd->Prop} {f:Nat->Str} {n:Int} {ys:List Sd} (hG:∀ d y,G d y->y.2=hW f d) (h:Each G (rangeD 0 n) ys):ys.map (·.2)=((List.range n.toNat).map f).map D.str:=by
 rw [each_map (h:=hW f) hG h]
 unfold rangeD
 rw [List.map_map,List.map_map,Int.sub_zero]
 congr 1
 funext k
 show D.str (f (0 + (k:Int)).toNat)=_
 rw [show (0 + (k:Int)).toNat=k by lia]
 rfl
theorem words2 (c many:Int) (h0:1<=many) (h1:many<=3):Oo A.m__law_words [(.no,.int c),(.no,.int many)] (fun y=>∃ l,y=(.rt,sL l)/\(l.length:Int)=many/\l.Nodup/\∀ z∈l,Sg z) noX:=by
 unfold A.m__law_words
 refine oo_fn ?_
 simp! only [↓w_join]
 refine eo_each [some (.dp,.str AZ),some (.no,.int c)] (fun _ y=>∃ ch∈AZ.cps.toList,y.2=.str ⟨#[ch]⟩) ?_
 simp! only []
 refine ⟨rfl,fun d hd=>?_,fun ys hys=>?_⟩
 ·obtain ⟨j,j0,j1,rfl⟩:=mem_rng hd
  simp! only []
  refine (A.mixed_ok c j j0 (by lia)).use ?_
  intro v _
  have t0:=Int.emod_nonneg v (show (26:Int)≠0 by decide)
  have t1:=Int.emod_lt_of_pos v (show (0:Int) < 26 by decide)
  obtain ⟨ch,hch,hc⟩:=A.ix_strM AZ (v % 26) t0 t1
  simp! only [hc]
  exact ⟨⟨_,rfl⟩,ch,hch,rfl⟩
 obtain ⟨ps,g1,g2,g3⟩:=A.each_one (fun d y h=>h) hys
 have hpl:ps.length=8:=by rw [g2];rfl
 obtain ⟨z,hz,z0,z1⟩:=A.join_az g3 (by lia)
 rw [mkL_rt,g1]
 simp only [back,clr,at',List.map_cons,List.map_nil,List.set_cons_zero,List.set_cons_succ]
 have zs:z.cps.size<=100:=by lia
 have z8:z.cps.size=8:=by lia
 by_cases h3:c % 3=1
 ·have hd:fEq (.int (c % 3)) (.int 1)=some (.bl true):=by rw [h3];rfl
  simp! only [hz,hd]
  refine eo_each [some (.dp,.str z),some (.no,.int c)] (fun d y=>y.2=hW (wdA z c) d) ?_
  simp! only []
  refine ⟨rfl,fun d hd=>?_,fun ys hys=>?_⟩
  ·obtain ⟨j,j0,j1,rfl⟩:=mem_rng hd
   have s1:=B.sl_s (o:=.no) (z:=z) (lo:=none) (hi:=some (1 + (j + c / 3) % 8)) zs
   have s1':=B.sl_s (o:=.dp) (z:=z) (lo:=none) (hi:=some (1 + (j + c / 3) % 8)) zs
   simp! only [s1,s1']
   refine ⟨⟨_,rfl⟩,?_⟩
   show _=D.str (wdA z c j.toNat)
   unfold wdA
   rw [show ((j.toNat:Nat):Int)=j by lia]
  ·rw [mkL_rt,each_words (fun _ _ h=>h) hys]
   exact ⟨_,rfl,by rw [List.length_map,List.length_range];lia,wdA_nodup z8 z1 (by lia),fun w hw=>by
    obtain ⟨k,_,rfl⟩:=List.mem_map.mp hw
    exact (wdA_ok z8 z1 k).1⟩
 ·have hd:fEq (.int (c % 3)) (.int 1)=some (.bl false):=by rw [eq_ii];simp [h3]
  have a0:=Int.emod_nonneg (c / 3) (show (8:Int)≠0 by decide)
  have a1:=Int.emod_lt_of_pos (c / 3) (show (0:Int) < 8 by decide)
  have b0:=Int.emod_nonneg (c / 24) (show 1 + c / 3 % 8≠0 by lia)
  have b1:=Int.emod_lt_of_pos (c / 24) (show 0 < 1 + c / 3 % 8 by lia)
  simp! only [hz,hd,mod_i (a:=c / 24) (b:=1 + c / 3 % 8) (by lia)]
  generalize c / 24 % (1 + c / 3 % 8)=at_ at b0 b1
  obtain ⟨lg,hlg⟩:∃ lg,lg=1 + c / 3 % 8:=⟨_,rfl⟩
  rw [← hlg] at b1 ⊢
  have c0:=Int.emod_nonneg (c / 192) (show (5:Int)≠0 by decide)
  have c1:=Int.emod_lt_of_pos (c / 192) (show (0:Int) < 5 by decide)
  obtain ⟨ch,hch,hix⟩:=A.ix_strM z at_ b0 (by lia)
  obtain ⟨ii,hii⟩:=A.az_found ch (z1 ch hch)
  have e1:=sl_to (z:=z) (j:=at_) b0 (by lia)
  have e2:=sl_mid (z:=z) (i:=at_ + 1) (j:=lg) (by lia) (by lia) (by lia)
  have s1:=fun o=>B.sl_s (o:=o) (z:=z) (lo:=none) (hi:=some at_) zs
  have s2:=fun o=>B.sl_s (o:=o) (z:=z) (lo:=some (at_ + 1)) (hi:=some lg) zs
  generalize Txt.slice z none (some at_)=w1 at e1 s1
  generalize Txt.slice z (some (at_ + 1)) (some lg)=w2 at e2 s2
  have n1:(w1.cps.size:Int)=at_:=by rw [← Array.length_toList,e1,List.length_take,Array.length_toList];lia
  have n2:(w2.cps.size:Int)=lg - (at_ + 1):=by rw [← Array.length_toList,e2,List.length_take,List.length_drop,Array.length_toList];lia
  have v1:∀ x∈w1.cps.toList,x∈AZ.cps.toList:=fun x hx=>z1 x (by rw [e1] at hx;exact List.mem_of_mem_take hx)
  have v2:∀ x∈w2.cps.toList,x∈AZ.cps.toList:=fun x hx=>z1 x (by rw [e2] at hx;exact List.mem_of_mem_drop (List.mem_of_mem_take hx))
  refine po_for (fun E rest=>∃ (j:Nat) (l7 l8:Option Sd) (o2 o3 o4 o5:Own),E=[some (.no,.int c),some (.no,.int many),some (o2,.str AZ),some (o3,.str z),some (o4,.int lg),some (o5,.int at_),some (.rt,sL ((List.range j).map (wdB w1 w2 ii (1 + c / 192 % 5)))),l7,l8]/\(j:Int)<=many/\rest=rangeD j many) ?_ ?_ ?_
  ·simp! only []
   exact ⟨0,_,_,_,_,_,_,rfl,by lia,rfl⟩
  ·rintro E d ds ⟨j,l7,l8,o2,o3,o4,o5,rfl,j1,hr⟩
   obtain ⟨hj,rfl,rfl⟩:=range_out j1 hr
   have m1:=mul_l (o1:=.no) (o2:=.no) (a:=(j:Int)) (b:=1 + c / 192 % 5) (by lia) (by lia)
   have t0:=Int.emod_nonneg ((ii:Int) + j * (1 + c / 192 % 5)) (show (26:Int)≠0 by decide)
   have t1:=Int.emod_lt_of_pos ((ii:Int) + j * (1 + c / 192 % 5)) (show (0:Int) < 26 by decide)
   simp! only [↓w_idxS,hix,hii,m1,show isStrD (.str AZ)=true from rfl]
   have hx:=(ix_az t0 t1).1
   have hs1:((⟨#[chr (((ii:Int) + j * (1 + c / 192 % 5)) % 26)]⟩:Str).cps.size)=1:=rfl
   have a1:=add_ss (o1:=.no) (o2:=.no) (a:=w1) (b:=⟨#[chr (((ii:Int) + j * (1 + c / 192 % 5)) % 26)]⟩) (by rw [hs1];lia)
   have a2:=add_ss (o1:=.no) (o2:=.no) (a:=w1++⟨#[chr (((ii:Int) + j * (1 + c / 192 % 5)) % 26)]⟩) (b:=w2) (by rw [size_app,hs1];lia)
   have a1':=add_ss (o1:=.no) (o2:=sub o2) (a:=w1) (b:=⟨#[chr (((ii:Int) + j * (1 + c / 192 % 5)) % 26)]⟩) (by rw [hs1];lia)
   refine app_rt rfl ?_
   simp! only [s1,s2,hx,a1,a2,a1']
   refine ⟨_,rfl,by rw [List.length_map,List.length_map,List.length_range];lia,?_⟩
   rw [show ((List.range j).map (wdB w1 w2 ii (1 + c / 192 % 5))).map D.str++[D.str (w1++⟨#[chr (((ii:Int) + j * (1 + c / 192 % 5)) % 26)]⟩++w2)]=((List.range (j + 1)).map (wdB w1 w2 ii (1 + c / 192 % 5))).map D.str by rw [List.range_succ,List.map_append,List.map_append];rfl]
   exact ⟨j + 1,_,_,_,_,_,_,rfl,by lia,by rw [show ((j:Int) + 1)=((j + 1:Nat):Int) by lia]⟩
  ·rintro E ⟨j,l7,l8,o2,o3,o4,o5,rfl,j1,hr⟩
   have:=range_end j1 hr
   simp! only []
   exact ⟨_,rfl,by rw [List.length_map,List.length_range];lia,wdB_nodup (by lia) (by lia) (by lia),fun w hw=>by
    obtain ⟨k,_,rfl⟩:=List.mem_map.mp hw
    exact wdB_ok (by lia) v1 v2 k⟩
end W3
namespace Nk73
open PySem Q
noncomputable def m_read_by:Fn:=fn 8
  (sSeq (sIf (tOr (tE (cF2 (f2First fIsNon) (vV 1) (vE (cC .non)))) (tE (cF2 (pu2 fNotInQ) (vV 2) (vIxQ (vV 0) (vE (cC (.int 0))))))) (sRet (cC .non)) sPass)
  (sSeq (sAsg 4 (cH (vIxQ (vV 1) (vE (cC (.int 1))))))
  (sSeq (sAsg 5 (cH (vIxQ (vIxQ (vIxQ (vIxQ (vV 0) (vE (cC (.int 1)))) (vIxQ (vV 1) (vE (cC (.int 0))))) (vE (cC (.int 2)))) (vE (cIdx (vIxQ (vV 0) (vE (cC (.int 0)))) (vV 2))))))
  (sSeq (sAsg 6 (cH (vIxQ (vV 5) (vE (cIf (tE (cF2 (pu2 fInQ) (vV 3) (vV 4))) (cIdx (vV 4) (vV 3)) (cF1 (pu1 fLen) (vV 4)))))))
  (sSeq (sIf (tE (cF2 (f2First fIsNon) (vV 6) (vE (cC .non)))) (sRet (cC .non)) sPass)
  (sSeq (sAsg 7 (cF2 fAdd (vV 4) (vE (cTup .no [(cV 3)]))))
  (sRet (cTup .no [(cH (vIxQ (vV 6) (vE (cC (.int 0))))),(cF1 fTuple (vE (cLC .rt 1 [7] (itS (cH (vIxQ (vV 6) (vE (cC (.int 1)))))) (.n 0) tYes (cH (vIxQ (vV 1) (vV 0))))))]))))))))
noncomputable def m_names_in:Fn:=fn 1
  (sRet (cF1 (pu1 fLenSetI) (vE (cLC .rt 2 [] (itS (cV 0)) (.t [0,1]) tYes (cV 1)))))
noncomputable def m_walks_on:Fn:=fn 8
  (sSeq (sAsg 2 (cLst .dp []))
  (sSeq (sFor (itS (cV 1)) (.t [3,4]) (sSeq (sAsg 5 (cLR1 (vE (cF2 fAdd (vE (cCall m_names_in [(cV 3)])) (vE (cC (.int 1)))))))
  (sFor (itS (cH (vIxQ (vV 0) (vE (cC (.int 0)))))) (.n 6) (sSeq (sAsg 7 (cLC .dp 1 [3,6,0,4] (itS (cV 5)) (.n 0) tYes (cTup .dp [(cOwn (cF2 fAdd (vV 1) (vE (cLst .rt [(cTup .no [(cV 2),(cV 0)])])))),(cOwn (cCall m_read_by [(cV 3),(cV 4),(cV 2),(cV 0)]))])))
  (sExtP 2 (cSel1 7 (tE (cF2 (f2First fNotNon) (vIxQ (vV 0) (vE (cC (.int 1)))) (vE (cC .non))))))))))
  (sRet (cMv 2))))
noncomputable def m_shapes_of:Fn:=fn 4
  (sSeq (sIf (tNot (tE (cChain fLe fLe (vE (cC (.int 0))) (vV 1) (vE (cC (.int 4)))))) (sRz "TooGreat") sPass)
  (sSeq (sAsg 2 (cLst .dp [(cTup .dp [(cLst .dp []),(cTup .no [(cC (.int 0)),(cTup .no [])])])]))
  (sSeq (sFor (itR1 (vV 1)) (.n 3) (sAsg 2 (cCallW m_walks_on [(vV 0),(vV 2)])))
  (sRet (cSel2 2 0 (tEQ (vIxQ (vIxQ (vIxQ (vV 2) (vE (cC (.int 1)))) (vIxQ (vV 1) (vE (cC (.int 0))))) (vE (cC (.int 1))))))))))
noncomputable def m__law_cell_at:Fn:=fn 2
  (sSeq (sIf (tE (cF2 (pu2 fLt) (vV 1) (vE (cF1 (pu1 fLen) (vV 0))))) (sRet (cH (vIxQ (vV 0) (vV 1)))) sPass)
  (sRet (cC (.int 0))))
noncomputable def m__law_mixed:Fn:=fn 3
  (sSeq (sIf (tE (cF2 (pu2 fEq) (vE (cF2 (pu2 fMod) (vV 0) (vE (cC (.int 2))))) (vE (cC (.int 0))))) (sRet (cF2 (pu2 fDiv) (vV 0) (vE (cF2 (pu2 fShl) (vE (cC (.int 2))) (vE (cF2 fMulT (vE (cC (.int 8))) (vV 1))))))) sPass)
  (sSeq (sAsg 2 (cF2 (pu2 fMod) (vE (cF2 fMulT (vE (cF2 fAdd (vE (cF2 fAdd (vE (cF2 (pu2 fMod) (vV 0) (vE (cC (.int 2147483647))))) (vE (cF2 fMulT (vE (cC (.int 69621))) (vV 1))))) (vE (cC (.int 7919))))) (vE (cC (.int 48271))))) (vE (cC (.int 2147483647)))))
  (sSeq (sAsg 2 (cF2 (pu2 fMod) (vE (cF2 fMulT (vV 2) (vV 2))) (vE (cC (.int 2147483629)))))
  (sRet (cF2 (pu2 fMod) (vE (cF2 fAdd (vE (cF2 fMulT (vV 2) (vV 2))) (vE (cF2 fMulT (vE (cC (.int 16807))) (vV 1))))) (vE (cC (.int 2147483587))))))))
noncomputable def m__law_words:Fn:=fn 9
  (sSeq (sAsg 2 (cC (.str "abcdefghijklmnopqrstuvwxyz")))
  (sSeq (sAsg 3 (cJoin "" (vE (cLC .rt 1 [2,0] (itR1 (vE (cC (.int 8)))) (.n 0) tYes (cH (vIxQ (vV 1) (vE (cF2 (pu2 fMod) (vE (cCall m__law_mixed [(cV 2),(cV 0)])) (vE (cC (.int 26)))))))))))
  (sSeq (sIf (tE (cF2 (pu2 fEq) (vE (cF2 (pu2 fMod) (vV 0) (vE (cC (.int 3))))) (vE (cC (.int 1))))) (sRet (cLC .rt 1 [3,0] (itR1 (vV 1)) (.n 0) tYes (cSl (vV 1) none (some (vE (cF2 fAdd (vE (cC (.int 1))) (vE (cF2 (pu2 fMod) (vE (cF2 fAdd (vV 0) (vE (cF2 (pu2 fDiv) (vV 2) (vE (cC (.int 3))))))) (vE (cC (.int 8))))))))))) sPass)
  (sSeq (sAsg 4 (cF2 fAdd (vE (cC (.int 1))) (vE (cF2 (pu2 fMod) (vE (cF2 (pu2 fDiv) (vV 0) (vE (cC (.int 3))))) (vE (cC (.int 8)))))))
  (sSeq (sAsg 5 (cF2 (pu2 fMod) (vE (cF2 (pu2 fDiv) (vV 0) (vE (cC (.int 24))))) (vV 4)))
  (sSeq (sAsg 6 (cLst .rt []))
  (sSeq (sFor (itR1 (vV 1)) (.n 7) (sSeq (sAsg 8 (cF2 (pu2 fMod) (vE (cF2 fAdd (vE (cIdxS (vV 2) (vIxQ (vV 3) (vV 5)))) (vE (cF2 fMulT (vV 7) (vE (cF2 fAdd (vE (cC (.int 1))) (vE (cF2 (pu2 fMod) (vE (cF2 (pu2 fDiv) (vV 0) (vE (cC (.int 192))))) (vE (cC (.int 5))))))))))) (vE (cC (.int 26)))))
  (sMut1 gApp 6 (cF2 fAdd (vE (cF2 fAdd (vE (cSl (vV 3) none (some (vV 5)))) (vIxQ (vV 2) (vV 8)))) (vE (cSl (vV 3) (some (vE (cF2 fAdd (vV 5) (vE (cC (.int 1)))))) (some (vV 4))))))))
  (sRet (cMv 6)))))))))
noncomputable def m__law_whole:Fn:=fn 1
  (sRet (cAnd (vE (cF1 (pu1 (fIsi "int")) (vV 0))) (cNotQ (vE (cF1 (pu1 (fIsi "bool")) (vV 0))))))
noncomputable def m__law_case:Fn:=fn 8
  (sSeq (sAsg 4 (cF2 (pu2 fMod) (vV 0) (vE (cF2 fAdd (vE (cF1 (pu1 fLen) (vV 3))) (vE (cC (.int 1)))))))
  (sSeq (sIf (tE (cF2 (pu2 fEq) (vV 4) (vE (cF1 (pu1 fLen) (vV 3))))) (sRet (cC .non)) sPass)
  (sSeq (sAsg 5 (cLC .rt 1 [] (itR1 (vIxQ (vV 3) (vV 1))) (.n 0) tYes (cV 0)))
  (sSeq (sIf (tE (cF2 (pu2 fEq) (vV 2) (vIxQ (vV 3) (vV 1)))) (sMut1 gApp 5 (cV 2)) sPass)
  (sSeq (sIf (tE (cF2 (pu2 fGt) (vIxQ (vV 3) (vV 4)) (vE (cF1 (pu1 fLen) (vV 5))))) (sRet (cC .non)) sPass)
  (sSeq (sAsg 0 (cF2 (pu2 fDiv) (vV 0) (vE (cF2 fAdd (vE (cF1 (pu1 fLen) (vV 3))) (vE (cC (.int 1)))))))
  (sSeq (sAsg 6 (cLst .rt []))
  (sSeq (sFor (itR1 (vIxQ (vV 3) (vV 4))) (.n 7) (sSeq (sMut1 gApp 6 (cPop 5 (vE (cF2 (pu2 fMod) (vV 0) (vE (cF1 (pu1 fLen) (vV 5)))))))
  (sAsg 0 (cF2 (pu2 fDiv) (vV 0) (vE (cC (.int 4)))))))
  (sRet (cTup .no [(cV 4),(cF1 fTuple (vV 6))]))))))))))
noncomputable def m__law_plain:Fn:=fn 13
  (sSeq (sAsg 3 (cCall m__law_mixed [(cCall m__law_cell_at [(cV 0),(cV 1)]),(cC (.int 0))]))
  (sSeq (sAsg 4 (cF2 fAdd (vE (cC (.int 1))) (vE (cF2 (pu2 fMod) (vV 3) (vE (cC (.int 4)))))))
  (sSeq (sAsg 5 (cLst .rt [(cC (.int 0))]))
  (sSeq (sFor (itR2 (vE (cC (.int 1))) (vV 4)) (.n 6) (sMut1 gApp 5 (cH (vIxQ (vE (cLst .rt [(cC (.int 0)),(cC (.int 1)),(cC (.int 1)),(cC (.int 2)),(cC (.int 2)),(cC (.int 1)),(cC (.int 2)),(cC (.int 3))])) (vE (cF2 (pu2 fMod) (vE (cCall m__law_mixed [(cCall m__law_cell_at [(cV 0),(cF2 fAdd (vV 1) (vE (cC (.int 1))))]),(cV 6)])) (vE (cC (.int 8)))))))))
  (sSeq (sAsg 7 (cLst .rt []))
  (sSeq (sFor (itR1 (vV 4)) (.n 8) (sSeq (sAsg 9 (cCall m__law_cell_at [(cV 0),(cF2 fAdd (vE (cF2 fAdd (vV 1) (vE (cC (.int 2))))) (vV 8))]))
  (sSeq (sAsg 10 (cLst .rt []))
  (sSeq (sFor (itR1 (vE (cF1 (pu1 fLen) (vV 2)))) (.n 11) (sSeq (sAsg 12 (cLC .rt 1 [9,11] (itR1 (vE (cF2 fAdd (vIxQ (vV 5) (vV 8)) (vE (cC (.int 1)))))) (.n 0) tYes (cCall m__law_mixed [(cV 1),(cF2 fAdd (vE (cF2 fMulT (vE (cC (.int 14))) (vV 2))) (vE (cF2 fMulT (vE (cC (.int 2))) (vV 0))))])))
  (sMut1 gApp 10 (cLC .rt 1 [12,8,5] (itR1 (vE (cF1 (pu1 fLen) (vV 12)))) (.n 0) tYes (cCallB m__law_case [(vIxQ (vV 1) (vV 0)),(vV 2),(vV 0),(vV 3)])))))
  (sMut1 gApp 7 (cTup .no [(cH (vIxQ (vV 5) (vV 8))),(cF2 (pu2 fEq) (vE (cF2 (pu2 fMod) (vE (cCall m__law_mixed [(cV 9),(cC (.int 50))])) (vE (cC (.int 2))))) (vE (cC (.int 1)))),(cV 10)]))))))
  (sRet (cTup .no [(cF1 fList (vV 2)),(cV 7)]))))))))
noncomputable def m__law_lets:Fn:=fn 8
  (sSeq (sAsg 2 (cC (.int 0)))
  (sSeq (sAsg 3 (cLst .rt []))
  (sSeq (sFor (itS (cV 1)) (.t [4,5]) (sSeq (sIf (tE (cF2 (pu2 fNotInQ) (vV 4) (vIxQ (vV 0) (vE (cC (.int 0)))))) (sRet (cC (.bl false))) sPass)
  (sSeq (sAsg 6 (cH (vIxQ (vIxQ (vIxQ (vIxQ (vV 0) (vE (cC (.int 1)))) (vV 2)) (vE (cC (.int 2)))) (vE (cIdx (vIxQ (vV 0) (vE (cC (.int 0)))) (vV 4))))))
  (sSeq (sAsg 7 (cH (vIxQ (vV 6) (vE (cF1 (pu1 fLen) (vV 3))))))
  (sSeq (sIf (tE (cF2 (pu2 fInQ) (vV 5) (vV 3))) (sAsg 7 (cH (vIxQ (vV 6) (vE (cIdx (vV 3) (vV 5)))))) sPass)
  (sSeq (sIf (tE (cF2 (f2First fIsNon) (vV 7) (vE (cC .non)))) (sRet (cC (.bl false))) sPass)
  (sSeq (sAsg 3 (cLC .rt 1 [3,5] (itS (cH (vIxQ (vV 7) (vE (cC (.int 1)))))) (.n 0) tYes (cH (vIxQ (vE (cF2 fAdd (vV 1) (vE (cLst .rt [(cV 2)])))) (vV 0)))))
  (sAsg 2 (cH (vIxQ (vV 7) (vE (cC (.int 0)))))))))))))
  (sRet (cH (vIxQ (vIxQ (vIxQ (vV 0) (vE (cC (.int 1)))) (vV 2)) (vE (cC (.int 1)))))))))
noncomputable def m__law_shape:Fn:=fn 5
  (sSeq (sAsg 1 (cLst .rt []))
  (sSeq (sAsg 2 (cLst .rt []))
  (sSeq (sFor (itS (cV 0)) (.t [3,4]) (sSeq (sIf (tE (cF2 (pu2 fNotInQ) (vV 4) (vV 1))) (sMut1 gApp 1 (cV 4)) sPass)
  (sMut1 gApp 2 (cTup .no [(cV 3),(cIdx (vV 1) (vV 4))]))))
  (sRet (cMv 2)))))
noncomputable def m__law_is_shape:Fn:=fn 5
  (sSeq (sIf (tOr (tNot (tEQ (vE (cF1 (pu1 (fIsi "list")) (vV 0))))) (tE (cF2 (pu2 fNe) (vE (cF1 (pu1 fLen) (vV 0))) (vV 1)))) (sRet (cC (.bl false))) sPass)
  (sSeq (sAsg 3 (cF1 (pu1 fNeg) (vE (cC (.int 1)))))
  (sSeq (sFor (itS (cV 0)) (.n 4) (sSeq (sIf (tOr (tNot (tEQ (vE (cF1 (pu1 (fIsi "tuple")) (vV 4))))) (tOr (tE (cF2 (pu2 fNe) (vE (cF1 (pu1 fLen) (vV 4))) (vE (cC (.int 2))))) (tOr (tNot (tEQ (vE (cF1 (pu1 (fIsi "str")) (vIxQ (vV 4) (vE (cC (.int 0)))))))) (tE (cF2 (pu2 fNotInQ) (vIxQ (vV 4) (vE (cC (.int 0)))) (vV 2)))))) (sRet (cC (.bl false))) sPass)
  (sSeq (sIf (tOr (tNot (tEQ (vE (cCall m__law_whole [(cH (vIxQ (vV 4) (vE (cC (.int 1)))))])))) (tOr (tE (cF2 (pu2 fLt) (vIxQ (vV 4) (vE (cC (.int 1)))) (vE (cC (.int 0))))) (tE (cF2 (pu2 fGt) (vIxQ (vV 4) (vE (cC (.int 1)))) (vE (cF2 fAdd (vV 3) (vE (cC (.int 1))))))))) (sRet (cC (.bl false))) sPass)
  (sAsg 3 (cF2 (pu2 fMax) (vV 3) (vIxQ (vV 4) (vE (cC (.int 1)))))))))
  (sRet (cC (.bl true))))))
noncomputable def m__law_refused:Fn:=fn 4
  (sSeq (sAsg 2 (cC (.bl false)))
  (sSeq (sTry ["TooGreat"] 3 (sExpr (cCallT m_shapes_of [(cV 0),(cV 1)])) (sAsg 2 (cAnd (vE (cF1 (pu1 (fIsX [("TooGreat",true)])) (vV 3))) (cAnd (vE (cF1 (pu1 (fIsX [("TooGreat",true)])) (vV 3))) (cNotQ (vE (cF1 (pu1 (fIsX [("TooGreat",false)])) (vV 3))))))))
  (sRet (cMv 2))))
noncomputable def m__law_right:Fn:=fn 8
  (sSeq (sIf (tNot (tEQ (vE (cF1 (pu1 (fIsi "list")) (vV 0))))) (sRet (cC (.bl false))) sPass)
  (sSeq (sFor (itS (cV 0)) (.n 4) (sIf (tOr (tNot (tEQ (vE (cCall m__law_is_shape [(cV 4),(cV 2),(cH (vIxQ (vV 1) (vE (cC (.int 0)))))])))) (tNot (tEQ (vE (cCall m__law_lets [(cV 1),(cV 4)]))))) (sRet (cC (.bl false))) sPass))
  (sSeq (sFor (itZip (cSl (vV 0) none (some (vE (cF1 (pu1 fNeg) (vE (cC (.int 1))))))) (cSl (vV 0) (some (vE (cC (.int 1)))) none)) (.t [5,6]) (sIf (tNot (tE (cF2 (pu2 fLtL) (vV 5) (vV 6)))) (sRet (cC (.bl false))) sPass))
  (sSeq (sFor (itS (cV 3)) (.n 7) (sIf (tE (cF2 (pu2 fNe) (vE (cF2 (pu2 fInQ) (vE (cCall m__law_shape [(cV 7)])) (vV 0))) (vE (cCall m__law_lets [(cV 1),(cV 7)])))) (sRet (cC (.bl false))) sPass))
  (sRet (cC (.bl true)))))))
noncomputable def m_law:Fn:=fn 12
  (sSeq (sAsg 1 (cF1 fSorted (vE (cCall m__law_words [(cCall m__law_cell_at [(cV 0),(cC (.int 0))]),(cF2 fAdd (vE (cC (.int 1))) (vE (cF2 (pu2 fMod) (vE (cF2 (pu2 fDiv) (vE (cCall m__law_cell_at [(cV 0),(cC (.int 0))])) (vE (cC (.int 1000))))) (vE (cC (.int 3))))))]))))
  (sSeq (sAsg 2 (cCall m__law_plain [(cV 0),(cC (.int 1)),(cV 1)]))
  (sSeq (sAsg 3 (cCall m__law_plain [(cV 0),(cC (.int 1)),(cV 1)]))
  (sSeq (sAsg 4 (cCall m__law_cell_at [(cV 0),(cC (.int 7))]))
  (sSeq (sAsg 5 (cF2 (pu2 fMod) (vV 4) (vE (cC (.int 5)))))
  (sSeq (sAsg 6 (cLst .rt []))
  (sSeq (sFor (itS (cSl (vV 0) (some (vE (cC (.int 8)))) (some (vE (cC (.int 58)))))) (.n 7) (sSeq (sAsg 8 (cLst .rt [(cF2 (pu2 fMod) (vV 7) (vE (cF2 (pu2 fPow) (vE (cC (.int 10))) (vE (cC (.int 50)))))),(cF2 (pu2 fSub) (vE (cF1 (pu1 fNeg) (vE (cC (.int 1))))) (vE (cF2 (pu2 fMod) (vV 7) (vE (cF2 (pu2 fPow) (vE (cC (.int 10))) (vE (cC (.int 20)))))))),(cC (.int 0)),(cF2 (pu2 fMod) (vE (cF2 (pu2 fDiv) (vV 7) (vE (cC (.int 2))))) (vE (cF2 (pu2 fPow) (vE (cC (.int 10))) (vE (cC (.int 30)))))),(cC (.int 5))]))
  (sMut1 gApp 6 (cLC .rt 1 [1,7,8] (itR1 (vV 5)) (.n 0) tYes (cTup .no [(cH (vIxQ (vV 1) (vE (cF2 (pu2 fMod) (vE (cCall m__law_mixed [(cV 2),(cV 0)])) (vE (cF1 (pu1 fLen) (vV 1))))))),(cH (vIxQ (vV 3) (vE (cF2 (pu2 fMod) (vE (cCall m__law_mixed [(cV 2),(cF2 fAdd (vE (cC (.int 9))) (vV 0))])) (vE (cC (.int 5)))))))])))))
  (sSeq (sAsg 9 (cCall m_shapes_of [(cV 2),(cV 5)]))
  (sSeq (sIf (tOr (tNot (tEQ (vE (cCallB m__law_right [(vV 9),(vV 2),(vV 5),(vV 6)])))) (tE (cF2 (pu2 fNe) (vV 2) (vV 3)))) (sRet (cC (.bl false))) sPass)
  (sSeq (sIf (tOr (tNot (tEQ (vE (cCall m__law_refused [(cV 2),(cF2 (pu2 fSub) (vE (cF1 (pu1 fNeg) (vE (cC (.int 1))))) (vE (cF2 (pu2 fMod) (vV 4) (vE (cF2 (pu2 fPow) (vE (cC (.int 10))) (vE (cC (.int 9))))))))])))) (tNot (tEQ (vE (cCall m__law_refused [(cV 2),(cF2 fAdd (vE (cC (.int 5))) (vE (cF2 (pu2 fMod) (vE (cF2 (pu2 fDiv) (vV 4) (vE (cC (.int 5))))) (vE (cF2 (pu2 fPow) (vE (cC (.int 10))) (vE (cC (.int 9))))))))]))))) (sRet (cC (.bl false))) sPass)
  (sSeq (sAsg 10 (cLook (cLC .dp 1 [] (itS (cV 9)) (.n 0) tYes (cOwn (cF1 fList (vV 0))))))
  (sSeq (sEachQ 9 11 [] [] (cTup .no [(cC (.str "a")),(cC (.int 0))]))
  (sSeq (sPC 9 [])
  (sRet (cAnd (vE (cF2 (pu2 fEq) (vE (cCall m_shapes_of [(cV 2),(cV 5)])) (vV 10))) (cF2 (pu2 fEq) (vV 2) (vV 3)))))))))))))))))
end Nk73
noncomputable section
namespace Q
open PySem
section
variable {e:Option Sd} {E:En} {X:XP} {P:En->Sd->Prop} {N Cc:En->Prop} {R:Sd->Prop}
theorem w_tupP {cs:List Ex}:Eo (cTup .dp cs (e :: E)) P X=Eo (cArgs cs (e :: E)) (fun E xs=>xs.all tight=true/\P E (.dp,.tup (xs.map (·.2)))) X:=by
 unfold cTup
 rw [eo_bnd]
 congr 1
 funext E xs
 rw [if_pos rfl]
 by_cases h:xs.all tight=true
 ·rw [if_pos h,eo_ok]
  exact propext ⟨fun z=>⟨h,z⟩,fun z=>z.2⟩
 ·rw [if_neg h,eo_none]
  exact propext ⟨fun z=>z.elim,fun z=>absurd z.1 h⟩
theorem w_lstP {cs:List Ex}:Eo (cLst .dp cs (e :: E)) P X=Eo (cArgs cs (e :: E)) (fun E xs=>xs.all tight=true/\P E (.dp,.lst (xs.map (·.2)))) X:=by
 unfold cLst
 rw [eo_bnd]
 congr 1
 funext E xs
 rw [if_pos rfl]
 by_cases h:xs.all tight=true
 ·rw [if_pos h,eo_ok]
  exact propext ⟨fun z=>⟨h,z⟩,fun z=>z.2⟩
 ·rw [if_neg h,eo_none]
  exact propext ⟨fun z=>z.elim,fun z=>absurd z.1 h⟩
theorem w_callW {f:Fn} {cs:List Ex}:Eo (cCallW f cs (e :: E)) P X=Eo (cArgs cs (e :: E)) (fun E xs=>Oe f (letAll xs) E (fun E y=>y.1=.dp/\P E y) X) X:=by
 unfold cCallW
 rw [eo_bnd]
 congr 1
 funext E xs
 unfold Oe Oo
 cases f (letAll xs) with
 | none=>with_unfolding_all rfl
 | some r =>
  cases r with
  | exc E c=>with_unfolding_all rfl
  | ok E y =>
   dsimp only
   by_cases h:y.1=.dp
   ·rw [if_pos h,eo_ok]
    with_unfolding_all exact propext ⟨fun z=>⟨h,z⟩,fun z=>z.2⟩
   ·rw [if_neg h,eo_none]
    with_unfolding_all exact propext ⟨fun z=>z.elim,fun z=>absurd z.1 h⟩
theorem w_look {c:Ex}:Eo (cLook c (e :: E)) P X=Eo (c (e :: E)) (fun _ x=>x.1=.dp/\P (e :: E) x) X:=by
 unfold cLook
 rw [eo_bnd]
 congr 1
 funext E1 x
 by_cases h:x.1=.dp
 ·rw [if_pos h,eo_ok]
  exact propext ⟨fun z=>⟨h,z⟩,fun z=>z.2⟩
 ·rw [if_neg h,eo_none]
  exact propext ⟨fun z=>z.elim,fun z=>absurd z.1 h⟩
theorem sel1_is {j:Nat} {t:Ts} {ds res:List D} (h0:E[j]?=some (some (.dp,.lst ds))) (hs:selF (.n 0) t [none] ds=some res) (k:P (E.set j none) (.dp,.lst res)):Eo (cSel1 j t E) P X:=by
 unfold cSel1
 rw [h0]
 dsimp only
 rw [hs,eo_ok]
 exact k
theorem sel2_is {j p:Nat} {t:Ts} {ds res:List D} {d:D} (h0:E[j]?=some (some (.dp,.lst ds))) (h1:E[p]?=some (some (.no,d))) (hj:j≠p) (h2:ds.all isT2=true) (hs:selF (.t [0,1]) t [none,none,some (.no,d)] ds=some res) (k:P (E.set j none) (.dp,.lst res)):Eo (cSel2 j p t E) P X:=by
 unfold cSel2
 rw [h0,h1]
 dsimp only
 rw [if_pos ⟨hj,h2⟩,hs,eo_ok]
 exact k
theorem eo_inv {α:Type} {m:Option (Res α)} {E0:En} {a0:α} (h:Eo m (fun E a=>E=E0/\a=a0) noX):m=some (.ok E0 a0):=by
 cases m with
 | none=>rw [eo_none] at h;exact h.elim
 | some r =>
  cases r with
  | ok E a=>rw [eo_ok] at h;rw [h.1,h.2]
  | exc E c=>rw [eo_exc] at h;exact h.elim
theorem extP_is {i:Nat} {c:Ex} {xs:List D} (h0:E[i]?=some (some (.dp,.lst xs))) (h:Eo (c E) (fun E1 x=>∃ ys zs,E1[i]?=some (some (.dp,.lst ys))/\x=(.dp,.lst zs)/\ys.length + zs.length < big/\N (E1.set i (some (.dp,.lst (ys++zs))))) X):Po (sExtP i c E) N Cc R X:=by
 unfold sExtP
 rw [h0]
 show Po (if true=true then _ else _) N Cc R X
 rw [if_pos rfl,po_ofE]
 refine h.mono ?_
 rintro E1 x ⟨ys,zs,h1,rfl,hb,hN⟩
 rw [h1]
 dsimp only
 rwa [if_pos ⟨rfl,hb⟩,po_nx]
end
end Q
namespace Nk73
open Q PySem C V
theorem e_cell:m__law_cell_at=B.m__law_cell_at:=rfl
theorem e_mixed:m__law_mixed=A.m__law_mixed:=rfl
theorem e_words:m__law_words=A.m__law_words:=rfl
theorem e_read:m_read_by=C.m_read_by:=rfl
theorem e_namesin:m_names_in=V.m_names_in:=rfl
theorem e_whole:m__law_whole=B.m__law_whole:=rfl
theorem strict_of {r:List Str} (h:r.Pairwise leS) (hn:r.Nodup):r.Pairwise fun a b=>a.cps.toList < b.cps.toList:=by
 refine (h.and hn).imp ?_
 rintro a b ⟨h1,h2⟩
 rcases List.le_iff_lt_or_eq.mp (leS_iff.mp h1) with z | z
 ·exact z
 ·exact absurd (by cases a;cases Array.toList_inj.mp z;rfl) h2
theorem shape_is (w) (hw:w.length<=1000):Oo m__law_shape [(.no,lD w)] (fun y=>y=(.rt,lD (shW w))) noX:=by
 refine oo_fn ?_
 simp! only []
 refine po_for (fun E rest=>∃ (f1 f2:Sh) (l3 l4:Option Sd),E=[some (.no,lD w),some (.rt,iL (ddI (ns2 f1))),some (.rt,lD (shW f1)),l3,l4]/\w=f1++f2/\rest=rwD f2) ?_ ?_ ?_
 ·simp! only []
  exact ⟨[],w,_,_,rfl,rfl,rfl⟩
 ·rintro E d ds ⟨f1,f2,l3,l4,rfl,hf,hr⟩
  cases f2 with
  | nil=>cases hr
  | cons x f2 =>
   injection hr with e1 e2
   subst e1 e2
   have hlen:f1.length + (f2.length + 1)=w.length:=by rw [hf];simp
   have hnk:=nk_le f1
   have hn:ns2 (f1++[x])=ns2 f1++[x.2]:=by rw [ns2,List.map_append];rfl
   have hsn:=dd_snoc (ns2 f1) x.2
   have fin:∀ K,ddI (ns2 (f1++[x]))=K->fIndex (iL K) (.int x.2)=some (.int (idx K x.2)):=fun K hK=>by
    have hm:x.2∈K:=by rw [← hK];exact dd_in (List.mem_map.mpr ⟨x,by simp,rfl⟩)
    rw [F.idx_il (List.any_eq_true.mpr ⟨x.2,hm,beq_self_eq_true _⟩)]
    rfl
   have shl:(rwD (shW f1)).length<=1000:=by rw [List.length_map,shW_len];lia
   have esh:∀ K,ddI (ns2 (f1++[x]))=K->rwD (shW f1)++[.tup [.str x.1,.int (idx K x.2)]]=rwD (shW (f1++[x])):=fun K hK=>by rw [shW_snoc,← hn,hK]
   by_cases hm:x.2∈ddI (ns2 f1)
   ·rw [if_pos hm,← hn] at hsn
    have hni:fNotInQ (.int x.2) (iL (ddI (ns2 f1)))=some (.bl false):=by rw [F.nin_il,decide_eq_true hm];rfl
    simp! only [hni]
    refine app_rt rfl ?_
    simp! only [fin _ hsn]
    exact ⟨_,rfl,by lia,f1++[x],f2,_,_,by rw [esh _ hsn,hsn],by rw [hf];simp,rfl⟩
   ·rw [if_neg hm,← hn] at hsn
    have hni:fNotInQ (.int x.2) (iL (ddI (ns2 f1)))=some (.bl true):=by rw [F.nin_il,decide_eq_false hm];rfl
    have hap:(ddI (ns2 f1)).map D.int++[D.int x.2]=(ddI (ns2 f1)++[x.2]).map D.int:=by rw [List.map_append];rfl
    simp! only [hni]
    refine app_rt rfl ?_
    simp! only []
    refine ⟨_,rfl,by rw [List.length_map];unfold nk at hnk;lia,?_⟩
    rw [hap]
    simp! only []
    refine app_rt rfl ?_
    simp! only [fin _ hsn]
    exact ⟨_,rfl,by lia,f1++[x],f2,_,_,by rw [esh _ hsn,hsn],by rw [hf];simp,rfl⟩
 ·rintro E ⟨f1,f2,l3,l4,rfl,hf,hr⟩
  have:f2=[]:=by cases f2 with | nil=>rfl | cons=>cases hr
  subst this
  rw [List.append_nil] at hf
  subst hf
  simp! only []
theorem names_okL s (hl:s.length<=1000):Oo V.m_names_in [(.no,lD s)] (fun y=>∃ o,y=(o,.int (nk s))/\True) noX:=names_okG (.inr rfl) hl
theorem add_a {o1 o2} (h1:o1≠.dp) (h2:o2≠.dp) {u v} (h:u.length + v.length<=1000):fAdd (o1,lD u) (o2,lD v)=some (.rt,lD (u++v)):=by
 rw [add_ll h1 h2 (by rw [List.length_map,List.length_map];lia),← List.map_append]
section
open B J U
variable {kps:List Int} {ss:List Str} {rs:List D}
noncomputable def wk (ss:List Str) (rs:List D) (x:Sh):D:=.tup [lD x,stn (st ss rs x)]
theorem st_ok (h0:kps[0]?=some 0) (hP:Prs kps ss.length rs) (hk:∀ p∈kps,0<=p/\p<=3) (x:Sh):SnOk kps (st ss rs x):=(run_ch hP hk x (two_0 (kps':=kps) h0 h0).a).2
theorem sel_on (t:Ts) (ht:∀ d,t [some (.no,.tup [d,.non])]=some (.ok [some (.no,.tup [d,.non])] false)) (ht2:∀ d r ks,t [some (.no,.tup [d,.tup [r,ks]])]=some (.ok [some (.no,.tup [d,.tup [r,ks]])] true)):∀ Y:List Sh,selF (.n 0) t [none] (Y.map (wk ss rs))=some ((Y.filter (onB ss rs)).map (wk ss rs))
 | []=>rfl
 | y :: Y=>by
  have ih:=sel_on t ht ht2 Y
  rw [List.map_cons]
  unfold selF
  show (match t [some (.no,wk ss rs y)],selF _ _ _ _ with | some (.ok _ k),some r=>_ | _,_=>none)=_
  rw [ih,List.filter_cons]
  unfold wk onB
  cases he:st ss rs y with
  | none =>
   rw [show stn none=D.non from rfl,ht]
   rfl
  | some s =>
   rw [show stn (some s)=D.tup [.int s.1,iT s.2] from rfl,ht2]
   show some (_ :: _)=some (List.map _ (if true=true then _ else _))
   rw [if_pos rfl,List.map_cons,he]
   rfl
theorem own_row (x:Sh):ownT (.rt,lD x)=true:=by
 unfold ownT
 show (_ || (true && D.pures (rwD x)))=true
 have:D.pures (rwD x)=true:=by
  induction x with
  | nil=>rfl
  | cons q x ih=>show (true && D.pures (rwD x))=true;rw [ih];rfl
 rw [this]
 simp
theorem stn_pure (S:Sn):(stn S).pure=true:=by
 cases S with
 | none=>rfl
 | some s =>
  show (true && (D.pures (s.2.map D.int) && true))=true
  rw [pures_ints]
  rfl
theorem each_tight {g:D->D}:∀ {ds:List D} {ys:List Sd},Each (fun d y=>y=(Own.dp,g d)) ds ys->ys.all tight=true
 | [],[],_=>rfl
 | _ :: _,_ :: _,h=>by
  rw [List.all_cons,each_tight h.2,h.1]
  rfl
theorem sel_let (h0:kps[0]?=some 0) (hP:Prs kps ss.length rs) (hk:∀ p∈kps,0<=p/\p<=3) (t:Ts):∀ Y:List Sh,(∀ x∈Y,onB ss rs x=true)->(∀ s d0,SnOk kps (some s)->t [some (.no,d0),some (.no,.tup [.int s.1,iT s.2]),some (.no,mach ss rs)]=some (.ok [some (.no,d0),some (.no,.tup [.int s.1,iT s.2]),some (.no,mach ss rs)] (gdF rs s.1)))->selF (.t [0,1]) t [none,none,some (.no,mach ss rs)] (Y.map (wk ss rs))=some ((Y.filter (letB ss rs)).map lD)
 | [],_,_=>rfl
 | y :: Y,hY,ht=>by
  have ih:=sel_let h0 hP hk t Y (fun x hx=>hY x (List.mem_cons_of_mem _ hx)) ht
  rw [List.map_cons]
  unfold selF
  have ho:=hY y List.mem_cons_self
  have hS:=st_ok h0 hP hk y
  show (match t [some (.no,lD y),some (.no,stn (st ss rs y)),some (.no,mach ss rs)],selF _ _ _ _ with | some (.ok _ k),some r=>_ | _,_=>none)=_
  rw [ih,List.filter_cons]
  unfold onB at ho
  cases he:st ss rs y with
  | none=>rw [he] at ho;cases ho
  | some s =>
   rw [he] at hS
   have hl:letB ss rs y=gdF rs s.1:=by unfold letB;rw [show U.run ss rs S0 y=some s from he];rfl
   rw [show stn (some s)=D.tup [.int s.1,iT s.2] from rfl,ht s _ hS,hl]
   cases gdF rs s.1<;>rfl
theorem walks_ok (h0:kps[0]?=some 0) (hP:Prs kps ss.length rs) (hk:∀ p∈kps,0<=p/\p<=3) (hs:ss.length<=3) {W:List Sh} (hl:W.length<=162) (h9:∀ x∈W,x.length<=3) :
  Oo m_walks_on [(.no,mach ss rs),(.no,.lst (W.map (wk ss rs)))] (fun y=>y=(.dp,.lst ((W.flatMap fun x=>ss.flatMap (onP (onB ss rs) x)).map (wk ss rs)))) noX:=by
 unfold m_walks_on
 rw [e_read,e_namesin]
 refine oo_fn ?_
 simp! only []
 refine po_for (fun E rest=>∃ (f1 f2:List Sh) (d1:D) (l3 l4 l5 l6 l7:Option Sd),E=[some (.no,mach ss rs),some (.no,d1),some (.dp,.lst ((f1.flatMap fun x=>ss.flatMap (onP (onB ss rs) x)).map (wk ss rs))),l3,l4,l5,l6,l7]/\W=f1++f2/\rest=f2.map (wk ss rs)) ?_ ?_ ?_
 ·simp! only []
  exact ⟨[],W,_,_,_,_,_,_,rfl,rfl,rfl⟩
 ·rintro E d ds ⟨f1,f2,d1,l3,l4,l5,l6,l7,rfl,hf,hr⟩
  cases f2 with
  | nil=>cases hr
  | cons x f2 =>
   injection hr with e1 e2
   subst e1 e2
   have hx3:=h9 x (by rw [hf];simp)
   have hn:∀ {y:Sh},y.length<=3->∀ z,(onP (onB ss rs) y z).length<=4:=fun {y} hy z=>by
    have:=onP_len (p:=onB ss rs) y z
    have:=nk_le y
    lia
   have hfl:f1.length<=162:=by have:=congrArg List.length hf;simp at this;lia
   have hF:(f1.flatMap fun x=>ss.flatMap (onP (onB ss rs) x)).length<=12 * f1.length:=fm_le fun y hy=>by
    have:=fm_le (f:=onP (onB ss rs) y) (m:=4) (l:=ss) fun z _=>hn (h9 y (by rw [hf];simp [hy])) z
    lia
   have hnk:nk x<=3:=by have:=nk_le x;lia
   rw [show wk ss rs x=.tup [lD x,stn (st ss rs x)] from rfl]
   simp! only []
   refine (names_okL x (by lia)).use ?_
   intro _ _
   simp! only []
   rw [show ((nk x:Nat):Int) + 1=((nk x + 1:Nat):Int) by lia,rng_nat]
   refine po_for (fun E rest=>∃ (s1 s2:List Str) (o5:Own) (l6 l7:Option Sd),E=[some (.no,mach ss rs),some (.no,d1),some (.dp,.lst (((f1.flatMap fun x=>ss.flatMap (onP (onB ss rs) x))++s1.flatMap (onP (onB ss rs) x)).map (wk ss rs))),some (.no,lD x),some (.no,stn (st ss rs x)),some (o5,.lst ((List.range (nk x + 1)).map fun (k:Nat)=>D.int k)),l6,l7]/\ss=s1++s2/\rest=s2.map D.str) ?_ ?_ ?_
   ·simp! only [p0]
    exact ⟨[],ss,_,_,_,by rw [List.flatMap_nil,List.append_nil],rfl,rfl⟩
   ·rintro E d ds ⟨s1,s2,o5,l6,l7,rfl,he,hr⟩
    cases s2 with
    | nil=>cases hr
    | cons z s2 =>
     injection hr with e1 e2
     subst e1 e2
     have hsl:s1.length<=3:=by have:=congrArg List.length he;simp at this;lia
     have hO:(s1.flatMap (onP (onB ss rs) x)).length<=4 * s1.length:=fm_le fun z _=>hn hx3 z
     simp! only []
     refine eo_each [some (.no,lD x),some (.no,.str z),some (.no,mach ss rs),some (.no,stn (st ss rs x))] (fun d y=>y=(.dp,match d with | .int k=>wk ss rs (x++[(z,k)]) | _=>.non)) ?_
     simp! only []
     refine ⟨rfl,fun d hd=>?_,fun ys hy=>?_⟩
     ·obtain ⟨k,hk2,rfl⟩:=List.mem_map.mp hd
      have ad:fAdd (.no,lD x) (.no,.lst [.tup [.str z,.int k]])=some (.rt,lD (x++[(z,(k:Int))])):=add_a (v:=[(z,(k))]) (by decide) (by decide) (by simp;lia)
      have hrd:=(rdF_ok z (k:Int) hP hk (st_ok h0 hP hk x)).1
      simp! only [↓w_tupP,↓w_own,ad]
      refine ⟨own_row _,?_⟩
      refine (readN_ok hrd).via ?_
      rintro ⟨o,y⟩ hy
      cases (show y=_ from hy)
      rw [← st_snoc x (z,(k:Int))]
      have hpu:(stn (st ss rs (x++[(z,(k:Int))]))).pure=true:=stn_pure _
      refine ⟨by unfold ownT tight;simp [hpu],?_⟩
      unfold cArgs
      rw [eo_ok]
      exact ⟨rfl,⟨_,rfl⟩,rfl⟩
     have eY:(List.map ((fun d=>match d with | D.int k=>wk ss rs (x++[(z,k)]) | _=>.non)∘fun (k:Nat)=>D.int k) (List.range (nk x + 1)))=((List.range (nk x + 1)).map fun (k:Nat)=>x++[(z,(k:Int))]).map (wk ss rs):=by
      rw [List.map_map]
      rfl
     rw [mkL_dp (each_tight hy),each_map (h:=fun d=>match d with | .int k=>wk ss rs (x++[(z,k)]) | _=>.non) (fun _ _ h=>congrArg Prod.snd h) hy,List.map_map,eY]
     simp only [back,clr,at',List.map_cons,List.map_nil,List.set_cons_zero,List.set_cons_succ]
     simp! only []
     refine extP_is rfl ?_
     refine sel1_is rfl (sel_on _ (fun _=>rfl) (fun _ _ _=>rfl) _) ?_
     refine ⟨_,_,rfl,rfl,?_,s1++[z],s2,.no,some (.no,.str z),none,?_,by rw [he];simp,rfl⟩
     ·have:=hn hx3 z
      unfold onP at this
      rw [List.length_map,List.length_map,List.length_append]
      unfold big
      lia
     ·simp only [List.map_append,List.flatMap_append,List.flatMap_singleton,List.append_assoc]
      rfl
   ·rintro E ⟨s1,s2,o5,l6,l7,rfl,he,hr⟩
    have:s2=[]:=by cases s2 with | nil=>rfl | cons=>cases hr
    subst this
    rw [List.append_nil] at he
    subst he
    exact ⟨f1++[x],f2,d1,_,_,_,_,_,by rw [List.flatMap_append,List.flatMap_singleton],by rw [hf];simp,rfl⟩
 ·rintro E ⟨f1,f2,d1,l3,l4,l5,l6,l7,rfl,hf,hr⟩
  have:f2=[]:=by cases f2 with | nil=>rfl | cons=>cases hr
  subst this
  rw [List.append_nil] at hf
  subst hf
  simp! only []
theorem shapes_ok (h0:kps[0]?=some 0) (hP:Prs kps ss.length rs) (hk:∀ p∈kps,0<=p/\p<=3) (h3:ss.length<=3) (n:Nat) (hn:n<=4) :
  Oo m_shapes_of [(.no,mach ss rs),(.no,.int n)] (fun y=>y=(.dp,.lst ((lets ss rs n).map lD))) noX:=by
 have c1:fLe (.int 0) (.int n)=some (.bl true):=by rw [le_ii,decide_eq_true (by lia)]
 have c2:fLe (.int n) (.int 4)=some (.bl true):=by rw [le_ii,decide_eq_true (by lia)]
 unfold m_shapes_of
 refine oo_fn ?_
 simp! only [c1,c2,↓w_lstP,↓w_tupP]
 refine ⟨rfl,rfl,rfl,?_⟩
 refine po_for (fun E rest=>∃ (k:Nat) (l3:Option Sd),E=[some (.no,mach ss rs),some (.no,.int n),some (.dp,.lst ((walkP (onB ss rs) ss k).map (wk ss rs))),l3]/\k<=n/\rest=rangeD k n) ?_ ?_ ?_
 ·refine itR1_is ?_
  simp! only []
  exact ⟨n,rfl,by lia,by lia,0,none,rfl,by lia,rfl⟩
 ·rintro E d ds ⟨k,l3,rfl,hk1,hr⟩
  obtain ⟨hk2,rfl,rfl⟩:=range_out (by lia) hr
  simp! only [↓w_callW]
  refine (walks_ok h0 hP hk h3 ((walkP_short h3 k (by lia)).2 (by lia)) (fun x hx=>by rw [walkP_len hx];lia)).via ?_
  rintro _ rfl
  exact ⟨rfl,k + 1,_,rfl,by lia,rfl⟩
 ·rintro E ⟨k,l3,rfl,hk1,hr⟩
  have:(k:Int)=n:=range_end (by lia) hr
  have:k=n:=by lia
  subst this
  simp! only []
  refine sel2_is rfl rfl (by decide) ?_ (sel_let h0 hP hk _ _ (fun x hx=>?_) (fun s d0 hS=>?_)) ?_
  ·rw [List.all_map,List.all_eq_true]
   exact fun _ _=>rfl
  ·exact ((walkP_mem onB_pre rfl).mp hx).2.2.2
  ·obtain ⟨r0,r1,_⟩:=hS s.1 s.2 rfl
   obtain ⟨kp,st',eg⟩:=good_ix (kd:=iT s.2) hP r0 r1
   have hg:goodD rs (.tup [.int s.1,iT s.2])=gdF rs (rmO (some s)):=good_is hS
   rw [hg] at eg
   have t1:∀ a b c,fIxQ (.tup [a,b,c]) (.int 1)=some b:=fun _ _ _=>rfl
   refine eo_inv ?_
   simp! only [p1,p0,eg,t1]
   rfl
  ·rfl
end
end Nk73
noncomputable section
namespace Nk73
open Q PySem C V
theorem case_ok {kps:List Int} {here own:Int} (m c:Int) (hl1:1<=kps.length) (hl:kps.length<=4) (hk:∀ p∈kps,0<=p/\p<=3) (r0:0<=here) (r1:here < kps.length) (ho:kps[here.toNat]?=some own) (c0:0<=c) (c1:c<=own) :
  Oo m__law_case [(.no,.int m),(.no,.int here),(.no,.int c),(.no,iL kps)] (fun y=>Cs kps (bnd1 own c) y.2/\y.2.pure=true) noX:=by
 have hown:0<=own/\own<=3:=hk own (List.mem_of_getElem? ho)
 have e1:fIxQ (iL kps) (.int here)=some (.int own):=ix_l r0 (by rw [List.getElem?_map,ho];rfl)
 have a0:=Int.emod_nonneg m (show ((kps.length:Int) + 1)≠0 by lia)
 have a1:=Int.emod_lt_of_pos m (show (0:Int) < (kps.length:Int) + 1 by lia)
 have hm:fMod (.int m) (.int ((kps.length:Int) + 1))=some (.int (m % ((kps.length:Int) + 1))):=mod_i (by lia)
 have hd:fDiv (.int m) (.int ((kps.length:Int) + 1))=some (.int (m / ((kps.length:Int) + 1))):=div_i (by lia) (by lia)
 unfold m__law_case
 generalize hR:sSeq (sIf (tE (cF2 (pu2 fGt) _ _)) _ _) _=R
 refine oo_fn ?_
 generalize m % ((kps.length:Int) + 1)=to at a0 a1 hm
 by_cases ht:to=kps.length
 ·have et:fEq (.int to) (.int kps.length)=some (.bl true):=by rw [ht,eq_ii];simp
  simp! only [hm,et]
  exact ⟨.inl rfl,trivial⟩
 have et:fEq (.int to) (.int kps.length)=some (.bl false):=by rw [eq_ii,beq_false_of_ne ht]
 obtain ⟨n,en,hn,hn2⟩:=ixI kps (fun p=>0<=p/\p<=3) hk to a0 (by lia)
 have key:∀ (po:List Int) (l4:Own),po.Nodup->(∀ f∈po,0<=f/\f < bnd1 own c)->po.length<=4->Po (R [some (.no,.int m),some (.no,.int here),some (.no,.int c),some (.no,iL kps),some (.dp,.int to),some (.rt,iL po),none,none]) (fun _=>Cs kps (bnd1 own c) D.non/\True) (fun _=>False) (fun y=>Cs kps (bnd1 own c) y.2/\y.2.pure=true) noX:=by
  intro po l4 hnd hpo hpl
  subst hR
  by_cases hg:(po.length:Int) < n
  ·have eg:fGt (.int n) (.int po.length)=some (.bl true):=by rw [gt_ii,decide_eq_true hg]
   simp! only [en,eg]
   exact ⟨.inl rfl,trivial⟩
  have eg:fGt (.int n) (.int po.length)=some (.bl false):=by rw [gt_ii,decide_eq_false hg]
  simp! only [en,eg,hd]
  refine po_for (fun E rest=>∃ (j:Nat) (q:Int) (o0:Own) (fs pl:List Int) (l7:Option Sd),E=[some (o0,.int q),some (.no,.int here),some (.no,.int c),some (.no,iL kps),some (.dp,.int to),some (.rt,iL pl),some (.rt,iL fs),l7]/\(j:Int)<=n/\rest=rangeD j n/\(fs++pl).Perm po/\fs.length=j) ?_ ?_ ?_
  ·refine itR1_is ?_
   simp! only [en]
   exact ⟨_,rfl,by lia,by lia,0,_,_,[],po,_,rfl,by lia,rfl,List.Perm.refl _,rfl⟩
  ·rintro E d ds ⟨j,q,o0,fs,pl,l7,rfl,j1,hr,hpm,hfl⟩
   obtain ⟨hj,rfl,rfl⟩:=range_out j1 hr
   have hlen:=hpm.length_eq
   rw [List.length_append] at hlen
   have hpos:0 < pl.length:=by lia
   have b0:=Int.emod_nonneg q (show (pl.length:Int)≠0 by lia)
   have b1:=Int.emod_lt_of_pos q (show (0:Int) < pl.length by lia)
   have hmq:fMod (.int q) (.int pl.length)=some (.int (q % pl.length)):=mod_i (by lia)
   have hdq:fDiv (.int q) (.int 4)=some (.int (q / 4)):=div_i (by decide) (by decide)
   generalize q % (pl.length:Int)=i at b0 b1 hmq
   have hi:i.toNat < pl.length:=by lia
   simp! only []
   refine app_rt rfl ?_
   refine pop_is rfl ?_
   simp! only [hmq]
   refine ⟨.rt,_,i,.int (pl[i.toNat]),rfl,by decide,rfl,b0,by lia,by rw [List.getElem?_map,List.getElem?_eq_getElem hi];rfl,rfl,?_⟩
   simp! only []
   refine ⟨_,rfl,by rw [List.length_map];lia,?_⟩
   simp! only [hdq]
   have pm:(fs++[pl[i.toNat]]++pl.eraseIdx i.toNat).Perm (fs++pl):=by
    rw [List.append_assoc]
    exact List.Perm.append_left fs (erase_perm hi)
   refine ⟨j + 1,q / 4,.dp,fs++[pl[i.toNat]],pl.eraseIdx i.toNat,some (.no,.int j),?_,by lia,rfl,pm.trans hpm,by rw [List.length_append,hfl];rfl⟩
   simp only [iL,List.map_append,List.map_cons,List.map_nil,erase_map]
  ·rintro E ⟨j,q,o0,fs,pl,l7,rfl,j1,hr,hpm,hfl⟩
   have hjn:=range_end j1 hr
   simp! only [Q.tup_l (o:=.rt) (xs:=fs.map D.int) (by decide)]
   have hsub:∀ f∈fs,f∈po:=fun f hf=>hpm.mem_iff.mp (List.mem_append_left _ hf)
   refine ⟨.inr ⟨to,fs,rfl,a0,by lia,fun f hf=>hpo f (hsub f hf),(List.nodup_append.mp (hpm.nodup_iff.mpr hnd)).1,?_⟩,?_⟩
   ·rw [List.getD_eq_getElem?_getD,hn2]
    show (fs.length:Int)=n
    lia
   ·show (true && (D.pures (fs.map D.int) && true))=true
    rw [B.pures_ints]
    rfl
 simp! only [hm,et]
 refine eo_each [] (fun d y=>y.2=d) ?_
 refine itR1_is ?_
 simp! only [e1]
 refine ⟨_,rfl,by lia,by lia,fun d hd=>?_,fun ys hy=>?_⟩
 ·obtain ⟨i,i0,i1,rfl⟩:=mem_rng hd
  simp! only []
  exact ⟨⟨_,rfl⟩,trivial⟩
 rw [mkL_rt,each_map (h:=fun d=>d) (fun _ _ h=>h) hy,List.map_id']
 simp only [back,clr,at',List.map_nil]
 have erg:rangeD 0 own=((List.range own.toNat).map fun (k:Nat)=>(k:Int)).map D.int:=B.rng_iL own
 rw [erg]
 have hb0:∀ f∈(List.range own.toNat).map (fun (k:Nat)=>(k:Int)),0<=f/\f < own:=fun f hf=>by
  obtain ⟨j,hj,rfl⟩:=List.mem_map.mp hf
  have:=List.mem_range.mp hj
  lia
 by_cases hc:c=own
 ·have ec:fEq (.int c) (.int own)=some (.bl true):=by rw [hc,eq_ii];simp
  simp! only [e1,ec]
  refine app_rt rfl ?_
  simp! only []
  refine ⟨_,rfl,by simp;lia,?_⟩
  have hb:bnd1 own c=own + 1:=by unfold bnd1;rw [if_pos hc]
  have ea:((List.range own.toNat).map fun (k:Nat)=>(k:Int)).map D.int++[.int c]=(((List.range own.toNat).map fun (k:Nat)=>(k:Int))++[c]).map D.int:=by rw [List.map_append];rfl
  rw [ea]
  refine key _ .no (List.nodup_append.mpr ⟨B.rng_nodup _,List.nodup_cons.mpr ⟨List.not_mem_nil,List.nodup_nil⟩,fun x hx y hy e=>?_⟩) (fun f hf=>?_) (by rw [List.length_append,List.length_map,List.length_range];show own.toNat + 1<=4;lia)
  ·rw [List.mem_singleton.mp hy] at e
   have:=hb0 x hx
   lia
  ·rw [hb]
   rcases List.mem_append.mp hf with h | h
   ·have:=hb0 f h;lia
   ·rw [List.mem_singleton.mp h];lia
 ·have ec:fEq (.int c) (.int own)=some (.bl false):=by rw [eq_ii,beq_false_of_ne hc]
  have hb:bnd1 own c=own:=by unfold bnd1;rw [if_neg hc];lia
  simp! only [e1,ec]
  exact key _ .no (B.rng_nodup _) (fun f hf=>by rw [hb];exact hb0 f hf) (by rw [List.length_map,List.length_range];lia)
end Nk73
noncomputable section
namespace Nk73
open Q PySem C V
theorem each_get {G:D->Sd->Prop}:∀ {ds:List D} {ys:List Sd},Each G ds ys->ys.length=ds.length/\∀ (k:Nat) d,ds[k]?=some d->∃ y,ys[k]?=some y/\G d y
 | [],[],_=>⟨rfl,fun k d h=>by simp at h⟩
 | d :: ds,y :: ys,h=>by
  obtain ⟨e,g⟩:=each_get h.2
  refine ⟨by rw [List.length_cons,List.length_cons,e],fun k d' hk=>?_⟩
  cases k with
  | zero=>cases Option.some.inj hk;exact ⟨y,rfl,h.1⟩
  | succ k=>exact g k d' hk
inductive KpI (ns:List Int) (ss:List Str) (v size:Int):En->List D->Prop
 | mk {k:Nat} {ks:List Int} {l6:Option Sd}:1<=k->(k:Int)<=size->ks.length=k->ks[0]?=some 0->(∀ p∈ks,0<=p/\p<=3)->KpI ns ss v size [some (.no,iL ns),some (.no,.int 1),some (.no,sL ss),some (.dp,.int v),some (.dp,.int size),some (.rt,iL ks),l6,none,none,none,none,none,none] (rangeD k size)
inductive RoI (ns:List Int) (ss:List Str) (v size:Int) (kps:List Int) (l6:Option Sd):En->List D->Prop
 | mk {r:Nat} {rs:List D} {o5:Own} {l8 l9 l10 l11 l12:Option Sd}:sub o5=.no->(r:Int)<=size->rs.length=r->(∀ i:Nat,i < rs.length->∃ d,rs[i]?=some d/\Pr kps ss.length (kps.getD i 0) d)->RoI ns ss v size kps l6 [some (.no,iL ns),some (.no,.int 1),some (.no,sL ss),some (.dp,.int v),some (.dp,.int size),some (o5,iL kps),l6,some (.rt,.lst rs),l8,l9,l10,l11,l12] (rangeD r size)
inductive StI (ns:List Int) (ss:List Str) (v size:Int) (kps:List Int) (l6:Option Sd) (rs:List D) (r:Nat) (own cell:Int):En->List D->Prop
 | mk {s:Nat} {st:List D} {o5 o9:Own} {l11 l12:Option Sd}:sub o5=.no->(s:Int)<=ss.length->st.length=s->(∀ c∈st,∃ cs:List D,c=.lst cs/\(cs.length:Int)=own + 1/\∀ k:Nat,k < cs.length->∃ z,cs[k]?=some z/\Cs kps (bnd1 own k) z)->StI ns ss v size kps l6 rs r own cell [some (.no,iL ns),some (.no,.int 1),some (.no,sL ss),some (.dp,.int v),some (.dp,.int size),some (o5,iL kps),l6,some (.rt,.lst rs),some (.no,.int r),some (o9,.int cell),some (.rt,.lst st),l11,l12] (rangeD s ss.length)
inductive CeI (E1:En) (s:Nat) (own cell:Int):En->En->List D->List Sd->Prop
 | mk {q:Option Sd} {o:Own} {cells:List Int} {acc:List Sd}:(cells.length:Int)<=own + 1->acc.map (·.2)=cells.map D.int->CeI E1 s own cell E1 [q,some (o,.int cell),some (.no,.int s)] (rangeD cells.length (own + 1)) acc
theorem plain_ok (ns:List Int) (hn:ns.length<=63) {ss:List Str} (hs1:1<=ss.length) (hs3:ss.length<=3):Oo m__law_plain [(.no,iL ns),(.no,.int 1),(.no,sL ss)] (fun y=>∃ rs,y=(.no,mach ss rs)/\∃ kps:List Int,1<=kps.length/\kps.length<=4/\kps[0]?=some 0/\(∀ p∈kps,0<=p/\p<=3)/\Prs kps ss.length rs) noX:=by
 unfold m__law_plain
 rw [e_cell,e_mixed]
 refine oo_fn ?_
 simp! only []
 refine (B.cell_ok ns 1 (by lia)).use ?_
 intro _ _
 simp! only []
 refine (A.mixed_ok _ 0 (by decide) (by decide)).use ?_
 intro v _
 have q0:=Int.emod_nonneg v (show (4:Int)≠0 by decide)
 have q1:=Int.emod_lt_of_pos v (show (0:Int) < 4 by decide)
 have hm4:fMod (.int v) (.int 4)=some (.int (v % 4)):=mod_i (by decide)
 simp! only [hm4]
 generalize v % 4=t at q0 q1
 obtain ⟨size,hsz⟩:∃ size:Int,1 + t=size:=⟨_,rfl⟩
 rw [hsz]
 have z0:1<=size:=by lia
 have z1:size<=4:=by lia
 refine po_for (KpI ns ss v size) ?_ ?_ ?_
 ·simp! only []
  exact .mk (k:=1) (ks:=[0]) (Nat.le_refl _) z0 rfl rfl fun p hp=>by rw [List.mem_singleton.mp hp];decide
 ·intro E d ds hh
  generalize hds:d :: ds=dd at hh
  cases hh with
  | @mk k ks l6 k1 k2 k3 k4 k5 =>
  obtain ⟨hk,rfl,rfl⟩:=range_out k2 hds
  simp! only []
  refine app_rt rfl ?_
  simp! only []
  refine (B.cell_ok ns 2 (by lia)).use ?_
  intro _ _
  simp! only []
  refine (A.mixed_ok _ k (by lia) (by lia)).use ?_
  intro u _
  have hm8:fMod (.int u) (.int 8)=some (.int (u % 8)):=mod_i (by decide)
  obtain ⟨n,en,n0,n1⟩:∃ n,fIxQ (.lst [.int 0,.int 1,.int 1,.int 2,.int 2,.int 1,.int 2,.int 3]) (.int (u % 8))=some (.int n)/\0<=n/\n<=3:=by
   have q0:=Int.emod_nonneg u (show (8:Int)≠0 by decide)
   have q1:=Int.emod_lt_of_pos u (show (0:Int) < 8 by decide)
   generalize u % 8=t at q0 q1
   have:t=0\/t=1\/t=2\/t=3\/t=4\/t=5\/t=6\/t=7:=by lia
   rcases this with rfl | rfl | rfl | rfl | rfl | rfl | rfl | rfl<;>exact ⟨_,rfl,by decide,by decide⟩
  simp! only [hm8,en]
  refine ⟨_,rfl,by rw [List.length_map];lia,?_⟩
  rw [show ks.map D.int++[D.int n]=(ks++[n]).map D.int by rw [List.map_append];rfl,show (k:Int) + 1=((k + 1:Nat):Int) by lia]
  refine .mk (by lia) (by lia) (by rw [List.length_append,k3];rfl) ?_ fun p hp=>?_
  ·rw [List.getElem?_append_left (by lia)];exact k4
  ·rcases List.mem_append.mp hp with h | h
   ·exact k5 p h
   ·rw [List.mem_singleton.mp h];exact ⟨n0,n1⟩
 intro E hh
 generalize hds:([]:List D)=dd at hh
 cases hh with
 | @mk k kps l6 k1 k2 k3 k4 hk =>
 have hks:=range_end k2 hds
 have hkl:(kps.length:Int)=size:=by lia
 simp! only []
 refine po_for (RoI ns ss v size kps l6) ?_ ?_ ?_
 ·simp! only []
  exact .mk (r:=0) rfl (by lia) rfl fun i hi=>nomatch hi
 ·intro E d ds hh
  generalize hds:d :: ds=dd at hh
  cases hh with
  | @mk r rs o5 l8 l9 l10 l11 l12 o5n r1 hrl hrs =>
  obtain ⟨hrk,rfl,rfl⟩:=range_out r1 hds
  obtain ⟨own,eo,⟨ow0,ow1⟩,how⟩:=ixI kps _ hk r (by lia) (by lia)
  simp! only []
  rw [show (1:Int) + 2 + r=((3 + r:Nat):Int) by lia]
  refine (B.cell_ok ns (3 + r) (by lia)).use ?_
  intro o9 _
  generalize B.cellAt ns (3 + r)=cell
  simp! only []
  refine po_for (StI ns ss v size kps l6 rs r own cell) ?_ ?_ ?_
  ·simp! only []
   exact .mk (s:=0) o5n (by lia) rfl fun c hc=>nomatch hc
  ·intro E d ds hh
   generalize hds:d :: ds=dd at hh
   cases hh with
   | @mk s st o5 o9 l11 l12 o5n s1 hsl hst =>
   obtain ⟨hsk,rfl,rfl⟩:=range_out s1 hds
   simp! only []
   refine eo_lc (CeI [some (.no,iL ns),some (.no,.int 1),some (.no,sL ss),some (.dp,.int v),some (.dp,.int size),some (o5,iL kps),l6,some (.rt,.lst rs),some (.no,.int r),some (o9,.int cell),some (.rt,.lst st),some (.no,.int s),l12] s own cell) ?_ ?_ ?_
   ·refine itR1_is ?_
    simp! only [eo,o5n]
    exact ⟨_,rfl,by lia,by lia,.mk (cells:=[]) (by simp;lia) rfl⟩
   ·intro E1 B d ds acc hh
    generalize hds:d :: ds=dd at hh
    cases hh with
    | @mk q o cells _ c1 c2 =>
    obtain ⟨hc,rfl,rfl⟩:=range_out c1 hds
    simp! only []
    refine (A.mixed_ok _ _ (by lia) (by lia)).use ?_
    intro i _
    rw [show (cells.length:Int) + 1=((cells++[i]).length:Int) by simp]
    exact .mk (by simp;lia) (by rw [List.map_append,List.map_append,c2];rfl)
   intro E1 B acc hh
   generalize hds:([]:List D)=dd at hh
   cases hh with
   | @mk q o cells _ c1 c2 =>
   have hcl:=range_end c1 hds
   rw [mkL_rt,c2]
   simp only [lcOut,back,clr,at',List.drop_succ_cons,List.drop_zero,List.map_cons,List.map_nil,List.set_cons_zero,List.set_cons_succ]
   simp! only []
   refine app_rt rfl ?_
   refine eo_each [some (.rt,iL cells),some (.no,.int r),some (o5,iL kps)] (fun d y=>∀ i,d=.int i->Cs kps (bnd1 own i) y.2) ?_
   refine itR1_is ?_
   simp! only []
   refine ⟨_,rfl,by lia,by lia,rfl,fun d hd=>?_,fun ys hy=>?_⟩
   ·obtain ⟨c,c0,c1,rfl⟩:=mem_rng hd
    obtain ⟨m,em,_⟩:=ixI cells (fun _=>True) (fun _ _=>trivial) c c0 c1
    simp! only [em]
    refine (case_ok m c (by lia) (by lia) hk (by lia) (by lia) how c0 (by lia)).via ?_
    intro y hy
    refine ⟨hy.2,⟨_,rfl⟩,fun i e=>?_⟩
    cases e
    exact hy.1
   obtain ⟨f1,f2⟩:=each_get hy
   have hrl2:=len_rng (k:=0) (n:=(cells.length:Int)) (by lia)
   rw [mkL_rt]
   simp only [back,clr,at',List.map_cons,List.map_nil,List.set_cons_zero,List.set_cons_succ]
   refine ⟨_,rfl,by lia,?_⟩
   rw [show (s:Int) + 1=((s + 1:Nat):Int) by lia]
   refine .mk o5n (by lia) (by rw [List.length_append,hsl];rfl) fun c hc=>?_
   rcases List.mem_append.mp hc with z | z
   ·exact hst c z
   ·rw [List.mem_singleton.mp z]
    refine ⟨_,rfl,by rw [List.length_map];lia,fun k hk=>?_⟩
    rw [List.length_map] at hk
    obtain ⟨y,e1,e2⟩:=f2 k (.int k) (by unfold rangeD;rw [List.getElem?_map,List.getElem?_range (by lia)];simp)
    exact ⟨y.2,by rw [List.getElem?_map,e1];rfl,e2 k rfl⟩
  ·intro E hh
   generalize hds:([]:List D)=dd at hh
   cases hh with
   | @mk s st o5 o9 l11 l12 o5n s1 hsl hst =>
   have hse:=range_end s1 hds
   refine app_rt rfl ?_
   simp! only [eo,o5n]
   refine (A.mixed_ok _ 50 (by decide) (by decide)).use ?_
   intro u _
   simp! only [eo,o5n,eq_ii]
   refine ⟨_,rfl,by lia,?_⟩
   rw [show (r:Int) + 1=((r + 1:Nat):Int) by lia]
   refine .mk o5n (by lia) (by rw [List.length_append,hrl];rfl) fun i hi=>?_
   rw [List.length_append,List.length_singleton] at hi
   by_cases h2:i < rs.length
   ·obtain ⟨z,z1,z2⟩:=hrs i h2
    exact ⟨z,by rw [List.getElem?_append_left h2];exact z1,z2⟩
   ·have:i=rs.length:=by lia
    subst this
    have e:kps.getD rs.length 0=own:=by
     rw [List.getD_eq_getElem?_getD,hrl]
     have:=how
     rw [Int.toNat_natCast] at this
     rw [this]
     rfl
    rw [e]
    exact ⟨_,List.getElem?_concat_length,_,st,rfl,by lia,hst⟩
 ·intro E hh
  generalize hds:([]:List D)=dd at hh
  cases hh with
  | @mk r rs o5 l8 l9 l10 l11 l12 o5n r1 hrl hrs =>
  have hre:=range_end r1 hds
  simp! only [list_l (o:=.no) (xs:=ss.map D.str) (by decide)]
  exact ⟨rs,rfl,kps,by lia,by lia,k4,hk,by lia,fun i hi=>hrs i (by lia)⟩
end Nk73
noncomputable section
namespace Nk73
open Q PySem C V
open B J U
section
variable {kps:List Int} {ss:List Str} {rs:List D}
theorem dead {f1 f2:Sh} {x:Str×Int} (h:st ss rs (f1++[x])=none):letB ss rs (f1++x :: f2)=false:=by
 have:∀ f2:Sh,U.run ss rs none f2=none:=fun f2=>by
  induction f2 with
  | nil=>rfl
  | cons q f2 ih=>exact ih
 unfold letB
 have e:U.run ss rs S0 (f1++x :: f2)=U.run ss rs (st ss rs (f1++[x])) f2:=by
  unfold st U.run
  rw [← List.foldl_append,List.append_assoc]
  rfl
 rw [e,h,this]
 rfl
inductive LeI (ss:List Str) (rs:List D) (w:Sh):En->List D->Prop
 | mk {f1 f2:Sh} {s:Int×List Int} {o2:Own} {l4 l5 l6 l7:Option Sd}:w=f1++f2->st ss rs f1=some s->LeI ss rs w [some (.no,mach ss rs),some (.no,lD w),some (o2,.int s.1),some (.rt,iL s.2),l4,l5,l6,l7] (rwD f2)
theorem lets_ok (h0:kps[0]?=some 0) (hP:Prs kps ss.length rs) (hk:∀ p∈kps,0<=p/\p<=3) (w:Sh):Oo m__law_lets [(.no,mach ss rs),(.no,lD w)] (fun y=>∃ o',y=(o',.bl (letB ss rs w))/\True) noX:=by
 have t1:∀ a b c:D,fIxQ (.tup [a,b,c]) (.int 1)=some b:=fun _ _ _=>rfl
 unfold m__law_lets
 generalize hR:sSeq (sIf (tE (cF2 (f2First fIsNon) (vV 7) _)) _ _) _=R
 refine oo_fn ?_
 simp! only []
 refine po_for (LeI ss rs w) ?_ ?_ ?_
 ·simp! only []
  exact .mk (f1:=[]) (s:=(0,[])) rfl rfl
 ·intro E d ds hh
  generalize hds:d :: ds=dd at hh
  cases hh with
  | @mk f1 f2 s o2 l4 l5 l6 l7 hw hs =>
  cases f2 with
  | nil=>cases hds
  | cons x f2 =>
  injection hds with e1 e2
  subst e1 e2
  have hS:=st_ok h0 hP hk f1
  rw [hs] at hS
  obtain ⟨r0,r1,hl⟩:=hS s.1 s.2 rfl
  have l3:=sn_len hk hS
  have l3:s.2.length<=3:=l3
  cases hz:(ss.any fun z=>z == x.1) with
  | false =>
   have hd:=dead (f2:=f2) (show st ss rs (f1++[x])=none by rw [st_snoc,rdF_out hz])
   simp! only [p0,nin_s,hz]
   exact ⟨_,by rw [hw,hd],trivial⟩
  | true =>
   obtain ⟨r,er,gd,st',rfl,hc⟩:=hP.2 s.1.toNat (by lia)
   rw [← hl] at er hc
   have hi:fIxQ (.lst rs) (.int s.1)=some (.tup [.int s.2.length,.bl gd,.lst st']):=ix_l r0 er
   obtain ⟨cs,g1,g2,g3,g4⟩:=cas_at x.2 (ss:=ss) hc hz
   have hx:fIxQ (.lst st') (.int (ss.findIdx fun w=>w == x.1:Nat))=some (.lst cs):=ix_l (by lia) (by rw [Int.toNat_natCast];exact g1)
   have hy:fIxQ (.lst cs) (.int (s.2.findIdx fun w=>w == x.2:Nat))=some (caseAt ss st' s.2 x.1 x.2):=ix_l (by lia) (by rw [Int.toNat_natCast];exact g3)
   obtain ⟨cl,ecl⟩:∃ cl,fIxQ (.lst cs) (.int s.2.length)=some cl:=⟨cs[s.2.length]'(by lia),ix_l (by lia) (by rw [Int.toNat_natCast];exact List.getElem?_eq_getElem _)⟩
   have hst:stn (st ss rs (f1++[x]))=caseD s.2 x.2 (caseAt ss st' s.2 x.1 x.2):=by
    rw [st_snoc,hs]
    have:=rd_fn (rdF_ok x.1 x.2 hP hk hS).1 (.inr ⟨s.1,s.2,st',_,_,rfl,r0,er,hc,by lia,rfl⟩)
    rw [this]
    unfold readD
    rw [if_pos hz]
   generalize caseAt ss st' s.2 x.1 x.2=c at hy g4 hst
   have key:Po (R [some (.no,mach ss rs),some (.no,lD w),some (o2,.int s.1),some (.rt,iL s.2),some (.no,.str x.1),some (.no,.int x.2),some (.no,.lst cs),some (.no,c)]) (fun E=>LeI ss rs w E (rwD f2)) (fun E=>LeI ss rs w E (rwD f2)) (fun y=>∃ o':Own,y=(o',.bl (letB ss rs w))/\True) noX:=by
    subst hR
    have hw2:w=(f1++[x])++f2:=by rw [hw];simp
    rcases g4 with rfl | ⟨to,fs,rfl,t0',t1',hfs,_⟩
    ·have hd:=dead (f2:=f2) (stn_inj (b:=none) hst)
     simp! only []
     exact ⟨_,by rw [hw,hd],trivial⟩
    ·have hb:=bnd1_le (own:=s.2.length) (k:=(s.2.findIdx fun w=>w == x.2:Nat))
     have hadd:fAdd (.no,.lst (s.2.map D.int)) (.no,.lst [.int x.2])=some (.rt,.lst ((s.2++[x.2]).map D.int)):=by
      rw [List.map_append]
      exact add_ll (by decide) (by decide) (by rw [List.length_map];show s.2.length + 1 < _;lia)
     have hadr:fAdd (.rt,.lst (s.2.map D.int)) (.no,.lst [.int x.2])=some (.rt,.lst ((s.2++[x.2]).map D.int)):=by
      rw [List.map_append]
      exact add_ll (by decide) (by decide) (by rw [List.length_map];show s.2.length + 1 < _;lia)
     simp! only [p1]
     refine eo_each [some (.rt,iL s.2),some (.no,.int x.2)] (fun f y=>y.2=match f with | .int i=>.int (C.nameAt s.2 x.2 i) | _=>.non) ?_
     simp! only [p1]
     refine ⟨rfl,fun f hf=>?_,fun ys hys=>?_⟩
     ·obtain ⟨i,hi',rfl⟩:=List.mem_map.mp hf
      have:=hfs i hi'
      have en:fIxQ (.lst ((s.2++[x.2]).map D.int)) (.int i)=some (.int (C.nameAt s.2 x.2 i)):=ix_l this.1 (by
       unfold C.nameAt
       rw [List.getElem?_map,List.getD_eq_getElem?_getD,List.getElem?_eq_getElem (by rw [List.length_append];show i.toNat < s.2.length + 1;lia)]
       rfl)
      simp! only [hadd,hadr,en]
      exact ⟨⟨_,rfl⟩,trivial⟩
     ·rw [mkL_rt,each_map (h:=fun f=>match f with | .int i=>.int (C.nameAt s.2 x.2 i) | _=>.non) (fun d y h=>h) hys,List.map_map,show (_∘D.int)=D.int∘C.nameAt s.2 x.2 from rfl,← List.map_map]
      simp only [back,clr,at',List.map_cons,List.map_nil,List.set_cons_zero,List.set_cons_succ]
      simp! only [p0]
      rw [caseD_is] at hst
      have hs2:st ss rs (f1++[x])=some (to,fs.map (C.nameAt s.2 x.2)):=stn_inj hst
      exact .mk (s:=(to,fs.map (C.nameAt s.2 x.2))) hw2 hs2
   cases hp:(s.2.any fun w=>w == x.2) with
   | true =>
    simp! only [p0,p1,nin_s,hz,hi,t2,idx_s hz,hx,ecl,in_i,hp,F.idx_il hp,hy]
    exact key
   | false =>
    rw [fi_no hp,ecl] at hy
    cases Option.some.inj hy
    simp! only [p0,p1,nin_s,hz,hi,t2,idx_s hz,hx,ecl,in_i,hp]
    exact key
 ·intro E hh
  generalize hds:([]:List D)=dd at hh
  cases hh with
  | @mk f1 f2 s o2 l4 l5 l6 l7 hw hs =>
  cases f2 with
  | cons=>cases hds
  | nil =>
  rw [List.append_nil] at hw
  subst hw
  have hS:=st_ok h0 hP hk w
  rw [hs] at hS
  obtain ⟨r0,r1,hl⟩:=hS s.1 s.2 rfl
  obtain ⟨kp,st',eg⟩:=good_ix (kd:=iT s.2) hP r0 r1
  have hg:goodD rs (.tup [.int s.1,iT s.2])=gdF rs (rmO (some s)):=good_is hS
  have hl:letB ss rs w=gdF rs (rmO (some s)):=by unfold letB;rw [show U.run ss rs S0 w=some s from hs]
  rw [hg,← hl] at eg
  simp! only [p1,eg,t1]
  exact ⟨_,rfl,trivial⟩
end
end Nk73
noncomputable section
namespace Nk73
open Q PySem C V
open B J U
section
variable {kps:List Int} {ss:List Str} {rs:List D}
theorem sh_part {f1 f2:Sh} (h:shW (f1++f2)=f1++f2):shW f1=f1:=by
 refine rev_ind (P:=fun f2=>shW (f1++f2)=f1++f2->shW f1=f1) (fun h=>by rwa [List.append_nil] at h) (fun f x ih h=>ih ?_) f2 h
 rw [← List.append_assoc] at h
 exact (sh_init h).1
theorem nk_next {f:Sh} {q:Str×Int} (h:shW (f++[q])=f++[q]):((nk (f++[q]):Nat):Int) - 1=if q.2 > (nk f:Int) - 1 then q.2 else (nk f:Int) - 1:=by
 obtain ⟨h1,h2,h3⟩:=sh_init h
 have e:ddI (ns2 f)=(List.range (nk f)).map fun (k:Nat)=>(k:Int):=by
  have:=dd_sh f
  rw [h1] at this
  exact this
 have hn:ns2 (f++[q])=ns2 f++[q.2]:=by rw [ns2,List.map_append];rfl
 have hs:=dd_snoc (ns2 f) q.2
 unfold nk
 rw [hn,hs]
 have hm:q.2∈ddI (ns2 f)↔q.2 < (nk f:Int):=by
  rw [e,List.mem_map]
  constructor
  ·rintro ⟨k,hk,e⟩
   have:=List.mem_range.mp hk
   lia
  ·intro hh
   exact ⟨q.2.toNat,List.mem_range.mpr (by lia),by lia⟩
 by_cases h4:q.2∈ddI (ns2 f)
 ·rw [if_pos h4]
  have:=hm.mp h4
  unfold nk at this
  rw [if_neg (by lia)]
 ·rw [if_neg h4]
  have h5:¬ q.2 < (nk f:Int):=fun z=>h4 (hm.mpr z)
  unfold nk at h5 h3
  rw [List.length_append,List.length_singleton,if_pos (by lia)]
  lia
theorem isshape_ok {x:Sh} {n:Int} (hn:(x.length:Int)=n) (h:shW x=x) (hs:∀ q∈x,q.1∈ss):Oo m__law_is_shape [(.no,lD x),(.no,.int n),(.no,sL ss)] (fun y=>∃ o',y=(o',.bl true)/\True) noX:=by
 have i1:fIsi "list" (lD x)=some (.bl true):=rfl
 have e1:fNe (.int x.length) (.int n)=some (.bl false):=by rw [hn];exact ne_self rfl
 have hxl:(rwD x).length=x.length:=List.length_map _
 unfold m__law_is_shape
 rw [e_whole]
 refine oo_fn ?_
 simp! only [i1,hxl,e1,B.neg1]
 refine po_for (fun E rest=>∃ (f1 f2:Sh) (o3:Own) (l4:Option Sd),E=[some (.no,lD x),some (.no,.int n),some (.no,sL ss),some (o3,.int ((nk f1:Int) - 1)),l4]/\x=f1++f2/\rest=rwD f2) ?_ ?_ ?_
 ·simp! only []
  exact ⟨[],x,_,_,rfl,rfl,rfl⟩
 ·rintro E d ds ⟨f1,f2,o3,l4,rfl,hf,hr⟩
  cases f2 with
  | nil=>cases hr
  | cons q f2 =>
   injection hr with a1 a2
   subst a1 a2
   have hq:shW (f1++[q])=f1++[q]:=sh_part (f2:=f2) (by rw [List.append_assoc];rw [← show x=f1++([q]++f2) from hf];exact h)
   obtain ⟨_,h2,h3⟩:=sh_init hq
   have hin:(ss.any fun w=>w == q.1)=true:=List.any_eq_true.mpr ⟨q.1,hs q (by rw [hf];simp),beq_self_eq_true _⟩
   have i2:fIsi "tuple" (.tup [.str q.1,.int q.2])=some (.bl true):=rfl
   have i3:fIsi "str" (.str q.1)=some (.bl true):=rfl
   have e2:fNe (.int ((0 + 1 + 1:Nat):Int)) (.int 2)=some (.bl false):=rfl
   have e3:fNe (.int 2) (.int 2)=some (.bl false):=rfl
   have lt0:fLt (.int q.2) (.int 0)=some (.bl false):=by rw [lt_ii,decide_eq_false (by lia)]
   have gt0:fGt (.int q.2) (.int ((nk f1:Int) - 1 + 1))=some (.bl false):=by rw [gt_ii,decide_eq_false (by lia)]
   simp! only [i2,e2,e3,i3,p0,nin_s,hin,p1]
   refine (whole_int q.2).use ?_
   intro _ _
   simp! only [p1,lt0,gt0,max_i,← nk_next hq]
   exact ⟨f1++[q],f2,_,_,rfl,by rw [hf];simp,rfl⟩
 ·rintro E ⟨f1,f2,o3,l4,rfl,hf,hr⟩
  simp! only []
  exact ⟨_,rfl,trivial⟩
theorem lt_rows {a b:Sh} (h:Lo a b):fLtL (lD a) (lD b)=some (.bl true):=by
 unfold fLtL
 rw [if_pos ⟨key_rw a,key_rw b⟩,show Tl.ltL (lD a) (lD b)=Tl.ltDs (rwD a) (rwD b) from rfl,h]
 rfl
theorem zip_up:∀ (L:List Sh),L.Pairwise Lo->∀ d∈zipD (L.dropLast.map lD) (L.tail.map lD),∃ a b,d=.tup [lD a,lD b]/\Lo a b
 | [],_,d,h=>by cases h
 | [a],_,d,h=>by cases h
 | a :: b :: L,hp,d,h=>by
  rw [List.dropLast_cons_cons,List.tail_cons,List.map_cons] at h
  rw [List.map_cons] at h
  rcases List.mem_cons.mp h with rfl | h
  ·exact ⟨a,b,rfl,(List.pairwise_cons.mp hp).1 b List.mem_cons_self⟩
  ·exact zip_up (b :: L) (List.pairwise_cons.mp hp).2 d h
theorem right_ok (h0:kps[0]?=some 0) (hP:Prs kps ss.length rs) (hk:∀ p∈kps,0<=p/\p<=3) (h3:ss.length<=3) (hs:ss.Pairwise fun a b=>a.cps.toList < b.cps.toList) (n:Nat) (hn:n<=4) {rows:List Sh} (hl:∀ w∈rows,w.length=n/\∀ q∈w,q.1∈ss) :
  Oo m__law_right [(.no,.lst ((lets ss rs n).map lD)),(.no,mach ss rs),(.no,.int n),(.no,.lst (rows.map lD))] (fun y=>∃ o',y=(o',.bl true)/\True) noX:=by
 have i1:fIsi "list" (.lst ((lets ss rs n).map lD))=some (.bl true):=rfl
 have hmem:∀ x∈lets ss rs n,x.length=n/\shW x=x/\(∀ q∈x,q.1∈ss)/\letB ss rs x=true:=fun x hx=>by
  obtain ⟨a,b⟩:=List.mem_filter.mp hx
  obtain ⟨a1,a2,a3,_⟩:=(walkP_mem onB_pre rfl).mp a
  exact ⟨a1,a2,a3,b⟩
 have hrise:(lets ss rs n).Pairwise Lo:=(walkP_rise hs n).filter _
 have hlen:(lets ss rs n).length<=2000:=Nat.le_trans (List.length_filter_le _ _) (walkP_short h3 n hn).1
 have hmm:∀ {w:Sh},w.length=n->(∀ q∈w,q.1∈ss)->decide (shW w∈lets ss rs n)=letB ss rs w:=fun a b=>lets_mem h0 hP hk a b
 generalize lets ss rs n=L at *
 unfold m__law_right
 refine oo_fn ?_
 simp! only [i1]
 refine po_for (fun E rest=>∃ (f2:List Sh) (l4 l5 l6 l7:Option Sd),E=[some (.no,.lst (L.map lD)),some (.no,mach ss rs),some (.no,.int n),some (.no,.lst (rows.map lD)),l4,l5,l6,l7]/\(∀ x∈f2,x∈L)/\rest=f2.map lD) ?_ ?_ ?_
 ·simp! only []
  exact ⟨L,_,_,_,_,rfl,fun _ h=>h,rfl⟩
 ·rintro E d ds ⟨f2,l4,l5,l6,l7,rfl,hf,hr⟩
  cases f2 with
  | nil=>cases hr
  | cons x f2 =>
   injection hr with a1 a2
   subst a1 a2
   obtain ⟨b1,b2,b3,b4⟩:=hmem x (hf x List.mem_cons_self)
   simp! only [p0]
   refine (isshape_ok (by rw [b1]) b2 b3).use ?_
   intro _ _
   simp! only []
   refine (lets_ok h0 hP hk x).use ?_
   intro _ _
   rw [b4]
   simp! only []
   exact ⟨f2,_,_,_,_,rfl,fun y hy=>hf y (List.mem_cons_of_mem _ hy),rfl⟩
 rintro E ⟨f2,l4,l5,l6,l7,rfl,hf,hr⟩
 have c1:fSl (.no,.lst (L.map lD)) none (some (-1))=some (.rt,.lst (L.dropLast.map lD)):=by
  rw [sl_ll (by decide)]
  unfold cutD
  rw [List.dropLast_eq_take,List.map_take,List.length_map]
  show some (Own.rt,D.lst (List.take (((-1:Int) + L.length).toNat - 0) (List.drop 0 _)))=_
  rw [List.drop_zero,show ((-1:Int) + L.length).toNat - 0=L.length - 1 by lia]
 have c2:fSl (.no,.lst (L.map lD)) (some 1) none=some (.rt,.lst (L.tail.map lD)):=by
  rw [sl_ll (by decide)]
  unfold cutD
  rw [List.length_map]
  show some (Own.rt,D.lst (List.take (L.length - min 1 L.length) (List.drop (min 1 L.length) (L.map lD))))=_
  cases L with
  | nil=>rfl
  | cons a L =>
   rw [List.length_cons,show min 1 (L.length + 1)=1 by lia,List.map_cons,List.drop_succ_cons,List.drop_zero,List.tail_cons,List.take_of_length_le (by rw [List.length_map];lia)]
 simp! only []
 refine po_for (fun E rest=>∃ (l4 l5 l6 l7:Option Sd),E=[some (.no,.lst (L.map lD)),some (.no,mach ss rs),some (.no,.int n),some (.no,.lst (rows.map lD)),l4,l5,l6,l7]/\∀ d∈rest,∃ a b,d=.tup [lD a,lD b]/\Lo a b) ?_ ?_ ?_
 ·have hdl:(L.dropLast.map lD).length<=big:=by rw [List.length_map,List.length_dropLast];unfold big;lia
  simp! only [B.neg1,c1,c2]
  show Wo (if _ then some (zipD _ _) else none) _ _
  rw [if_pos hdl,wo_some]
  exact ⟨_,_,_,_,rfl,zip_up L hrise⟩
 ·rintro E d ds ⟨l4,l5,l6,l7,rfl,hr⟩
  obtain ⟨a,b,rfl,hab⟩:=hr d List.mem_cons_self
  simp! only [lt_rows hab]
  exact ⟨_,_,_,_,rfl,fun d hd=>hr d (List.mem_cons_of_mem _ hd)⟩
 rintro E ⟨l4,l5,l6,l7,rfl,hr⟩
 simp! only []
 refine po_for (fun E rest=>∃ (f2:List Sh) (l4 l5 l6 l7:Option Sd),E=[some (.no,.lst (L.map lD)),some (.no,mach ss rs),some (.no,.int n),some (.no,.lst (rows.map lD)),l4,l5,l6,l7]/\(∀ x∈f2,x∈rows)/\rest=f2.map lD) ?_ ?_ ?_
 ·simp! only []
  exact ⟨rows,_,_,_,_,rfl,fun _ h=>h,rfl⟩
 ·rintro E d ds ⟨f2,l4,l5,l6,l7,rfl,hf,hr⟩
  cases f2 with
  | nil=>cases hr
  | cons x f2 =>
   injection hr with a1 a2
   subst a1 a2
   obtain ⟨b1,b2⟩:=hl x (hf x List.mem_cons_self)
   have hq:=hmm b1 b2
   have b3:∀ k:Bool,fNe (.bl k) (.bl k)=some (.bl false):=fun k=>by cases k<;>rfl
   simp! only []
   refine (shape_is x (by lia)).via ?_
   rintro _ rfl
   simp! only [in_ls,hq]
   refine (lets_ok h0 hP hk x).use ?_
   intro _ _
   simp! only [b3]
   exact ⟨f2,_,_,_,_,rfl,fun y hy=>hf y (List.mem_cons_of_mem _ hy),rfl⟩
 ·rintro E ⟨f2,l4,l5,l6,l7,rfl,hf,hr⟩
  simp! only []
  exact ⟨_,rfl,trivial⟩
end
theorem great_ok {m:D} (n:Int) (hn:n < 0\/4 < n):Oo m_shapes_of [(.no,m),(.no,.int n)] (fun _=>False) (fun c=>c="TooGreat"):=by
 unfold m_shapes_of
 refine oo_fn ?_
 by_cases h:0<=n
 ·have c1:fLe (.int 0) (.int n)=some (.bl true):=by rw [le_ii,decide_eq_true h]
  have c2:fLe (.int n) (.int 4)=some (.bl false):=by rw [le_ii,decide_eq_false (by lia)]
  simp! only [c1,c2]
 ·have c1:fLe (.int 0) (.int n)=some (.bl false):=by rw [le_ii,decide_eq_false h]
  simp! only [c1]
theorem refused_ok {m:D} (n:Int) (hn:n < 0\/4 < n):Oo m__law_refused [(.no,m),(.no,.int n)] (fun y=>∃ o',y=(o',.bl true)/\True) noX:=by
 have a1:fIsX [("TooGreat",true)] (.obj "TooGreat" [])=some (.bl true):=isx_is (by decide)
 have a2:fIsX [("TooGreat",false)] (.obj "TooGreat" [])=some (.bl false):=isx_is (by decide)
 unfold m__law_refused
 refine oo_fn ?_
 simp! only []
 refine (great_ok n hn).ox (fun y h=>h.elim) (fun c hc=>?_)
 subst hc
 refine ⟨by simp,?_⟩
 simp! only [a1,a2]
 exact ⟨_,rfl,trivial⟩
end Nk73
noncomputable section
namespace Nk73
open Q PySem C V
open B J U
theorem each_q {a b:D} (hp:(D.tup [a,b]).pure=true) {r:Nat}:∀ (n k:Nat) (ds:List D) (E:En),(∀ j,k<=j->j < k + n->∃ es,ds[j]?=some (.lst es)/\es.length < big)->∃ ds' E',eachQ r [] (cTup .no [cC a,cC b]) n k (.lst ds) E=some (E',.lst ds')/\(E'=E\/E'=E.set r none)
 | 0,k,ds,E,_=>⟨ds,E,rfl,.inl rfl⟩
 | n + 1,k,ds,E,h=>by
  obtain ⟨es,e1,e2⟩:=h k (Nat.le_refl _) (by lia)
  have hk:=(List.getElem?_eq_some_iff.mp e1).1
  obtain ⟨ds',E',f1,f2⟩:=each_q hp (r:=r) n (k + 1) (ds.set k (.lst (es++[.tup [a,b]]))) (E.set r none) fun j j0 j1=>by
   obtain ⟨es',g1,g2⟩:=h j (by lia) (by lia)
   exact ⟨es',by rw [List.getElem?_set_ne (by lia)];exact g1,g2⟩
  refine ⟨ds',E',?_,.inr ?_⟩
  ·unfold eachQ
   rw [show D.at [k] (.lst ds)=some (.lst es) by show (match ds[k]? with | some d=>D.at [] d | none=>none)=_;rw [e1];rfl]
   dsimp only
   rw [if_pos e2]
   show (if (D.tup [a,b]).pure=true then eachQ r [] _ n (k + 1) (D.put (.lst (es++[.tup [a,b]])) [k] (.lst ds)) (E.set r none) else none)=_
   rw [if_pos hp,show D.put (.lst (es++[.tup [a,b]])) [k] (.lst ds)=.lst (ds.set k (.lst (es++[.tup [a,b]]))) by show (match ds[k]? with | some d=>D.lst (ds.set k (D.put _ [] d)) | none=>_)=_;rw [e1];rfl]
   exact f1
  ·rcases f2 with h | h
   ·exact h
   ·rw [h,List.set_set]
theorem each0_is {E:En} {i r:Nat} {L:List Sh} {a b:D} {N Cc:En->Prop} {R:Sd->Prop} {X:XP} (hp:(D.tup [a,b]).pure=true) (h0:E[i]?=some (some (.dp,.lst (L.map lD)))) (hr:r < E.length) (hl:∀ x∈L,x.length < big) (k:∀ E' ds',E'=E.set i none\/E'=(E.set i none).set r none->N (E'.set i (some (.dp,.lst ds')))):Po (sEachQ i r [] [] (cTup .no [cC a,cC b]) E) N Cc R X:=by
 obtain ⟨ds',E',f1,f2⟩:=each_q hp (r:=r) (L.map lD).length 0 (L.map lD) (E.set i none) fun j _ hj=>by
  rw [List.length_map] at hj
  refine ⟨rwD (L[j]'(by lia)),by rw [List.getElem?_map,List.getElem?_eq_getElem (by lia)];rfl,?_⟩
  rw [List.length_map]
  exact hl _ (List.getElem_mem _)
 unfold sEachQ
 rw [h0]
 dsimp only
 show Po (if r < E.length then (match eachQ r [] _ (L.map lD).length 0 (.lst (L.map lD)) (E.set i none) with | some (E1,d1)=>some (.nx (E1.set i (some (.dp,D.put d1 [] (.lst (L.map lD)))))) | _=>none) else none) N Cc R X
 rw [if_pos hr,f1]
 dsimp only
 rw [po_nx]
 exact k E' ds' f2
theorem pc_is {E:En} {i:Nat} {ds:List D} {N Cc:En->Prop} {R:Sd->Prop} {X:XP} (h0:E[i]?=some (some (.dp,.lst ds))) (k:N (E.set i (some (.dp,.lst [])))):Po (sPC i [] E) N Cc R X:=by
 unfold sPC
 rw [h0]
 dsimp only
 show Po (some (.nx (E.set i (some (.dp,.lst []))))) N Cc R X
 rw [po_nx]
 exact k
theorem each_row {ss:List Str}:∀ {ds:List D} {ys:List Sd},Each (fun _ y=>∃ q:Str×Int,y=(.no,.tup [.str q.1,.int q.2])/\q.1∈ss) ds ys->∃ w:Sh,ys.map (·.2)=rwD w/\w.length=ds.length/\∀ q∈w,q.1∈ss
 | [],[],_=>⟨[],rfl,rfl,fun _ h=>nomatch h⟩
 | _ :: _,_ :: _,h=>by
  obtain ⟨w,e1,e2,e3⟩:=each_row h.2
  obtain ⟨q,rfl,hq⟩:=h.1
  refine ⟨q :: w,by rw [List.map_cons,e1];rfl,by rw [List.length_cons,List.length_cons,e2],fun p hp=>?_⟩
  rcases List.mem_cons.mp hp with rfl | hp
  ·exact hq
  ·exact e3 p hp
theorem cut_ii (ns:List Int) (lo hi:Option Int):∃ cells:List Int,fSl (.no,iL ns) lo hi=some (.rt,iL cells)/\cells.length<=ns.length:=by
 refine ⟨(ns.drop (sIxD ns.length 0 lo)).take (sIxD ns.length ns.length hi - sIxD ns.length 0 lo),?_,?_⟩
 ·rw [sl_ll (by decide)]
  unfold cutD
  rw [List.length_map,← List.map_drop,← List.map_take]
 ·rw [List.length_take,List.length_drop]
  lia
inductive RwI (ns:List Int) (ss:List Str) (p:D) (cell:Int) (n:Nat) (o4:Own):En->List D->Prop
 | mk {rows:List Sh} {c2:List Int} {l7 l8:Option Sd}:rows.length + c2.length<=63->(∀ w∈rows,w.length=n/\∀ q∈w,q.1∈ss)->RwI ns ss p cell n o4 [some (.no,iL ns),some (.no,sL ss),some (.no,p),some (.no,p),some (o4,.int cell),some (.dp,.int n),some (.rt,.lst (rows.map lD)),l7,l8,none,none,none] (c2.map D.int)
theorem law_ok (ns:List Int) (hn:ns.length<=63):Oo m_law [(.no,iL ns)] (fun y=>y.2=.bl true) noX:=by
 unfold m_law
 rw [e_cell,e_mixed,e_words]
 generalize hR:sSeq (sAsg 9 _) _=R
 refine oo_fn ?_
 simp! only []
 refine (cell_ok ns 0 (by lia)).use ?_
 intro _ _
 simp! only []
 refine (cell_ok ns 0 (by lia)).use ?_
 intro _ _
 have hd:fDiv (.int (cellAt ns 0)) (.int 1000)=some (.int (cellAt ns 0 / 1000)):=div_i (by decide) (by decide)
 have hm3:fMod (.int (cellAt ns 0 / 1000)) (.int 3)=some (.int (cellAt ns 0 / 1000 % 3)):=mod_i (by decide)
 have q0:=Int.emod_nonneg (cellAt ns 0 / 1000) (show (3:Int)≠0 by decide)
 have q1:=Int.emod_lt_of_pos (cellAt ns 0 / 1000) (show (0:Int) < 3 by decide)
 simp! only [hd,hm3]
 refine (W3.words2 _ _ (by lia) (by lia)).use ?_
 rintro ss0 ⟨hl0,hnd0,hg0⟩
 have hsrt:=srt_strs (o:=.no) (ss:=ss0) (by lia)
 simp! only [hsrt]
 have hl:(sortS ss0).length=ss0.length:=C.sortS_len ss0
 have hrise:=strict_of sortS_pw ((sortS_perm ss0).nodup_iff.mpr hnd0)
 generalize sortS ss0=ss at hl hrise
 have hs1:1<=ss.length:=by lia
 have hs3:ss.length<=3:=by lia
 obtain ⟨yy,⟨rs,rfl,kps,k1,k4,h0,hk,hP⟩,heq⟩:=(plain_ok ns hn hs1 hs3).eq
 have hpl:Oo m__law_plain [(.no,iL ns),(.no,.int 1),(.no,sL ss)] (fun y=>y=(.no,mach ss rs)) noX:=by rw [heq]
 refine hpl.via ?_
 rintro _ rfl
 simp! only []
 refine hpl.via ?_
 rintro _ rfl
 simp! only []
 refine (cell_ok ns 7 (by lia)).use ?_
 intro o4 _
 generalize cellAt ns 7=cell
 have hm5:fMod (.int cell) (.int 5)=some (.int (cell % 5)):=mod_i (by decide)
 have r0:=Int.emod_nonneg cell (show (5:Int)≠0 by decide)
 have r1:=Int.emod_lt_of_pos cell (show (0:Int) < 5 by decide)
 obtain ⟨cells,ec,hcl⟩:=cut_ii ns (some 8) (some 58)
 simp! only [hm5]
 obtain ⟨n,hnn⟩:=Int.eq_ofNat_of_zero_le r0
 rw [hnn] at r1 ⊢
 have hn4:n<=4:=by lia
 refine po_for (RwI ns ss (mach ss rs) cell n o4) ?_ ?_ ?_
 ·simp! only [ec]
  exact .mk (rows:=[]) (by simp;lia) fun _ h=>nomatch h
 ·intro E d ds hh
  generalize hds:d :: ds=dd at hh
  cases hh with
  | @mk rows c2 l7 l8 h1 h2 =>
  cases c2 with
  | nil=>cases hds
  | cons one c2 =>
  injection hds with a1 a2
  subst a1 a2
  rw [List.length_cons] at h1
  have p50:fPow (.int 10) (.int 50)=some (.int (10 ^ 50)):=rfl
  have p20:fPow (.int 10) (.int 20)=some (.int (10 ^ 20)):=rfl
  have p30:fPow (.int 10) (.int 30)=some (.int (10 ^ 30)):=rfl
  have m50:fMod (.int one) (.int (10 ^ 50))=some (.int (one % 10 ^ 50)):=mod_i (by decide)
  have m20:fMod (.int one) (.int (10 ^ 20))=some (.int (one % 10 ^ 20)):=mod_i (by decide)
  have m30:fMod (.int (one / 2)) (.int (10 ^ 30))=some (.int (one / 2 % 10 ^ 30)):=mod_i (by decide)
  have d2:fDiv (.int one) (.int 2)=some (.int (one / 2)):=div_i (by decide) (by decide)
  simp! only [p50,p20,p30,m50,m20,m30,d2,B.neg1]
  obtain ⟨nm,hnm,hnl⟩:∃ nm:List Int,[D.int (one % 10 ^ 50),.int (-1 - one % 10 ^ 20),.int 0,.int (one / 2 % 10 ^ 30),.int 5]=nm.map D.int/\nm.length=5:=⟨[one % 10 ^ 50,-1 - one % 10 ^ 20,0,one / 2 % 10 ^ 30,5],rfl,rfl⟩
  rw [hnm]
  refine app_rt rfl ?_
  refine eo_each [some (.no,sL ss),some (.no,.int one),some (.rt,iL nm)] (fun _ y=>∃ q:Str×Int,y=(.no,.tup [.str q.1,.int q.2])/\q.1∈ss) ?_
  refine itR1_is ?_
  simp! only []
  refine ⟨_,rfl,by lia,by lia,rfl,fun d hd=>?_,fun ys hy=>?_⟩
  ·obtain ⟨j,j0,j1,rfl⟩:=mem_rng hd
   simp! only []
   refine (A.mixed_ok _ _ j0 (by lia)).use ?_
   intro u _
   have b0:=Int.emod_nonneg u (show (ss.length:Int)≠0 by lia)
   have b1:=Int.emod_lt_of_pos u (show (0:Int) < ss.length by lia)
   have hmu:fMod (.int u) (.int ss.length)=some (.int (u % ss.length)):=mod_i (by lia)
   obtain ⟨z,hz,ez⟩:∃ z∈ss,fIxQ (sL ss) (.int (u % ss.length))=some (.str z):=⟨ss[(u % ss.length).toNat]'(by lia),List.getElem_mem _,ix_l b0 (by rw [List.getElem?_map,List.getElem?_eq_getElem (by lia)];rfl)⟩
   simp! only [hmu,ez]
   refine (A.mixed_ok _ _ (by lia) (by lia)).use ?_
   intro t _
   have hmt:fMod (.int t) (.int 5)=some (.int (t % 5)):=mod_i (by decide)
   obtain ⟨x,ex,_⟩:=ixI nm (fun _=>True) (fun _ _=>trivial) (t % 5) (Int.emod_nonneg t (by decide)) (by have:=Int.emod_lt_of_pos t (show (0:Int) < 5 by decide);lia)
   simp! only [hmt,ex]
   exact ⟨⟨_,rfl⟩,(z,x),rfl,hz⟩
  obtain ⟨w,e1,e2,e3⟩:=each_row hy
  rw [mkL_rt,e1]
  simp only [back,clr,at',List.map_cons,List.map_nil,List.set_cons_zero,List.set_cons_succ]
  refine ⟨_,rfl,by rw [List.length_map];lia,?_⟩
  rw [show rows.map lD++[D.lst (rwD w)]=(rows++[w]).map lD by rw [List.map_append];rfl]
  refine .mk (by rw [List.length_append,List.length_singleton];lia) fun x hx=>?_
  rcases List.mem_append.mp hx with h | h
  ·exact h2 x h
  ·rw [List.mem_singleton.mp h]
   exact ⟨by have:=len_rng (k:=0) (n:=(n:Int)) (by lia);lia,e3⟩
 intro E hh
 generalize hds:([]:List D)=dd at hh
 cases hh with
 | @mk rows c2 l7 l8 h1 h2 =>
 subst hR
 have hfl:(mach ss rs).flat 40=true:=plain_flat hP.ps
 have ne1:=ne_self hfl
 have eq1:=C.eq_self hfl
 have p9:fPow (.int 10) (.int 9)=some (.int (10 ^ 9)):=rfl
 have m9:∀ x:Int,fMod (.int x) (.int (10 ^ 9))=some (.int (x % 10 ^ 9)):=fun x=>mod_i (by decide)
 have d5:fDiv (.int cell) (.int 5)=some (.int (cell / 5)):=div_i (by decide) (by decide)
 have s0:=Int.emod_nonneg cell (show (10 ^ 9:Int)≠0 by decide)
 have s1:=Int.emod_nonneg (cell / 5) (show (10 ^ 9:Int)≠0 by decide)
 have hlen:∀ x∈lets ss rs n,x.length < big:=fun x hx=>by
  rw [walkP_len (List.mem_filter.mp hx).1]
  unfold big
  lia
 simp! only []
 refine (shapes_ok h0 hP hk hs3 n hn4).via ?_
 rintro _ rfl
 simp! only []
 refine (right_ok h0 hP hk hs3 hrise n hn4 h2).use ?_
 intro _ _
 simp! only [ne1,B.neg1,p9,m9]
 refine (refused_ok _ (.inl (by lia))).use ?_
 intro _ _
 simp! only [p9,m9,d5]
 refine (refused_ok _ (.inr (by lia))).use ?_
 intro _ _
 simp! only [↓w_look]
 refine eo_each [] (fun d y=>y=(.dp,d)) ?_
 simp! only []
 refine ⟨fun d hd=>?_,fun ys hy=>?_⟩
 ·obtain ⟨x,hx,rfl⟩:=List.mem_map.mp hd
  simp! only [↓w_own,list_l (o:=.no) (xs:=rwD x) (by decide)]
  exact ⟨own_row x,⟨_,rfl⟩,trivial⟩
 rw [mkL_dp (each_tight (g:=fun d=>d) hy),each_map (h:=fun d=>d) (fun _ _ h=>congrArg Prod.snd h) hy,List.map_id']
 refine ⟨rfl,?_⟩
 have eqL:fEq (.lst ((lets ss rs n).map lD)) (.lst ((lets ss rs n).map lD))=some (.bl true):=C.eq_self (show D.flats 39 _=true from flats_of fun d hd=>by obtain ⟨x,_,rfl⟩:=List.mem_map.mp hd;exact flat_rw (n:=37) x)
 simp! only []
 refine each0_is rfl rfl (Nat.lt_succ_self 11) hlen ?_
 have fin:∀ l11:Option Sd,∀ ds',Po ((sSeq (sPC 9 []) (sRet (cAnd (vE (cF2 (pu2 fEq) (vE (cCall m_shapes_of [(cV 2),(cV 5)])) (vV 10))) (cF2 (pu2 fEq) (vV 2) (vV 3))))) [some (.no,iL ns),some (.no,sL ss),some (.no,mach ss rs),some (.no,mach ss rs),some (o4,.int cell),some (.no,.int n),some (.rt,.lst (rows.map lD)),l7,l8,some (.dp,.lst ds'),some (.dp,.lst ((lets ss rs n).map lD)),l11]) (fun _=>False) (fun _=>False) (fun y=>y.2=.bl true) noX:=by
  intro l11 ds'
  rw [w_seq]
  refine pc_is rfl ?_
  simp! only []
  refine (shapes_ok h0 hP hk hs3 n hn4).via ?_
  rintro _ rfl
  simp! only [eqL,eq1]
 rintro E' ds' (rfl | rfl)
 ·exact fin _ ds'
 ·exact fin _ ds'
theorem law_true (ns:List Int) (hl:ns.length<=63) (hb:∀ i∈ns,Builtin.Int.intBits i<=1048576):∃ E o,m_law [(.no,.lst (ns.map D.int))]=some (.ok E (o,.bl true)):=by
 obtain ⟨E,⟨o,d⟩,h,hd⟩:=(law_ok ns hl).out
 have hd:d=.bl true:=hd
 subst hd
 exact ⟨E,o,h⟩
end Nk73
namespace Nk73
open PySem L2 L3 Q
noncomputable def top (i:Nat):Stmt:=PySem.Challenge.pw_freshrooms_k73_shapes_let_by.main.body.getD i (.Pass ⟨0,0,0,0⟩)
noncomputable abbrev s_read_by:Stmt:=top 5
noncomputable abbrev s_names_in:Stmt:=top 8
noncomputable abbrev s_walks_on:Stmt:=top 10
noncomputable abbrev s_shapes_of:Stmt:=top 9
noncomputable abbrev s__law_cell_at:Stmt:=top 12
noncomputable abbrev s__law_mixed:Stmt:=top 13
noncomputable abbrev s__law_words:Stmt:=top 14
noncomputable abbrev s__law_whole:Stmt:=top 15
noncomputable abbrev s__law_case:Stmt:=top 16
noncomputable abbrev s__law_plain:Stmt:=top 17
noncomputable abbrev s__law_lets:Stmt:=top 18
noncomputable abbrev s__law_shape:Stmt:=top 19
noncomputable abbrev s__law_is_shape:Stmt:=top 20
noncomputable abbrev s__law_refused:Stmt:=top 21
noncomputable abbrev s__law_right:Stmt:=top 22
noncomputable abbrev s_law:Stmt:=top 23
theorem sc_read_by:FnScope ["plain","standing","sign","name","names","cases","case","held"] ["plain","standing","sign","name"] (defScope s_read_by):=mkS
theorem sc_names_in:FnScope ["shape"] ["shape"] (defScope s_names_in):=mkS
theorem sc_walks_on:FnScope ["plain","walks","onward","shape","standing","names","sign","later"] ["plain","walks"] (defScope s_walks_on):=mkS
theorem sc_shapes_of:FnScope ["plain","many","walks","size"] ["plain","many"] (defScope s_shapes_of):=mkS
theorem sc__law_cell_at:FnScope ["_law_script","_law_k"] ["_law_script","_law_k"] (defScope s__law_cell_at):=mkS
theorem sc__law_mixed:FnScope ["_law_cell","_law_k","_law_number"] ["_law_cell","_law_k"] (defScope s__law_mixed):=mkS
theorem sc__law_words:FnScope ["_law_cell","_law_many","_law_letters","_law_word","_law_long","_law_at","_law_some","_law_k","_law_turn"] ["_law_cell","_law_many"] (defScope s__law_words):=mkS
theorem sc__law_whole:FnScope ["_law_found"] ["_law_found"] (defScope s__law_whole):=mkS
theorem sc__law_case:FnScope ["_law_m","_law_here","_law_c","_law_keepers","_law_to","_law_some","_law_fills","_law_k"] ["_law_m","_law_here","_law_c","_law_keepers"] (defScope s__law_case):=mkS
theorem sc__law_plain:FnScope ["_law_script","_law_start","_law_signs","_law_head","_law_many","_law_keepers","_law_k","_law_rooms","_law_here","_law_cell","_law_steps","_law_s","_law_cells"] ["_law_script","_law_start","_law_signs"] (defScope s__law_plain):=mkS
theorem sc__law_lets:FnScope ["_law_plain_here","_law_row","_law_room","_law_names","_law_sign","_law_name","_law_cases","_law_case_here"] ["_law_plain_here","_law_row"] (defScope s__law_lets):=mkS
theorem sc__law_shape:FnScope ["_law_row","_law_known","_law_found","_law_sign","_law_name"] ["_law_row"] (defScope s__law_shape):=mkS
theorem sc__law_is_shape:FnScope ["_law_found","_law_many","_law_signs","_law_most","_law_one"] ["_law_found","_law_many","_law_signs"] (defScope s__law_is_shape):=mkS
theorem sc__law_refused:FnScope ["_law_plain_here","_law_many","_law_refused_here","e"] ["_law_plain_here","_law_many"] (defScope s__law_refused):=mkS
theorem sc__law_right:FnScope ["_law_found","_law_plain_here","_law_many","_law_rows","_law_shape_here","_law_one","_law_other","_law_row"] ["_law_found","_law_plain_here","_law_many","_law_rows"] (defScope s__law_right):=mkS
theorem sc_law:FnScope ["_law_script","_law_signs","_law_plain_here","_law_kept_plain","_law_cell","_law_many","_law_rows","_law_one","_law_names","_law_found","_law_copies","_law_shape_here"] ["_law_script"] (defScope s_law):=mkS
structure Txt (K:PySem.W.Frag) (mg:Str->Option Value) (x_TooGreat x_NoFit x_RoomError:Addr):Prop where
 b_ValueError:mg "ValueError"=none
 b_bool:mg "bool"=none
 b_int:mg "int"=none
 b_isinstance:mg "isinstance"=none
 b_len:mg "len"=none
 b_list:mg "list"=none
 b_max:mg "max"=none
 b_range:mg "range"=none
 b_set:mg "set"=none
 b_sorted:mg "sorted"=none
 b_str:mg "str"=none
 b_tuple:mg "tuple"=none
 b_zip:mg "zip"=none
 c_MOST_SIGNS:Cst mg "MOST_SIGNS" (V.int (4))
 n_TooGreat:PySem.W.nsIn K mainGlobals "TooGreat"=some (some (.ref x_TooGreat))
 m_TooGreat:mg "TooGreat"=some (.ref x_TooGreat)
 e_TooGreat:ECls K mg "TooGreat" x_TooGreat
 n_NoFit:PySem.W.nsIn K mainGlobals "NoFit"=some (some (.ref x_NoFit))
 m_NoFit:mg "NoFit"=some (.ref x_NoFit)
 n_RoomError:PySem.W.nsIn K mainGlobals "RoomError"=some (some (.ref x_RoomError))
 m_RoomError:mg "RoomError"=some (.ref x_RoomError)
 h_TooGreat_TooGreat:PySem.W.exmOne K (.ref x_TooGreat) (.ref x_TooGreat)=some true
 i_TooGreat_NoFit:PySem.W.kitOne K (.ref x_TooGreat) (.ref x_NoFit)=some false
 i_TooGreat_ValueError:PySem.W.kitOne K (.ref x_TooGreat) (.type "ValueError")=some true
 i_TooGreat_RoomError:PySem.W.kitOne K (.ref x_TooGreat) (.ref x_RoomError)=some true
section
variable (P:Program) (w:PySem.World) (K:PySem.W.Frag) (mg:Str->Option Value) (base:Heap)
noncomputable abbrev T_read_by:=DefE P w K mg base 1 "read_by" ["plain","standing","sign","name"] (spF K mg 4 m_read_by)
noncomputable abbrev T_names_in:=DefE P w K mg base 1 "names_in" ["shape"] (spF K mg 1 m_names_in)
noncomputable abbrev T_walks_on:=DefE P w K mg base 2 "walks_on" ["plain","walks"] (spF K mg 2 m_walks_on)
noncomputable abbrev T_shapes_of:=DefE P w K mg base 3 "shapes_of" ["plain","many"] (spF K mg 2 m_shapes_of)
noncomputable abbrev T__law_cell_at:=DefE P w K mg base 1 "_law_cell_at" ["_law_script","_law_k"] (spF K mg 2 m__law_cell_at)
noncomputable abbrev T__law_mixed:=DefE P w K mg base 1 "_law_mixed" ["_law_cell","_law_k"] (spF K mg 2 m__law_mixed)
noncomputable abbrev T__law_words:=DefE P w K mg base 2 "_law_words" ["_law_cell","_law_many"] (spF K mg 2 m__law_words)
noncomputable abbrev T__law_whole:=DefE P w K mg base 1 "_law_whole" ["_law_found"] (spF K mg 1 m__law_whole)
noncomputable abbrev T__law_case:=DefE P w K mg base 1 "_law_case" ["_law_m","_law_here","_law_c","_law_keepers"] (spF K mg 4 m__law_case)
noncomputable abbrev T__law_plain:=DefE P w K mg base 2 "_law_plain" ["_law_script","_law_start","_law_signs"] (spF K mg 3 m__law_plain)
noncomputable abbrev T__law_lets:=DefE P w K mg base 1 "_law_lets" ["_law_plain_here","_law_row"] (spF K mg 2 m__law_lets)
noncomputable abbrev T__law_shape:=DefE P w K mg base 1 "_law_shape" ["_law_row"] (spF K mg 1 m__law_shape)
noncomputable abbrev T__law_is_shape:=DefE P w K mg base 2 "_law_is_shape" ["_law_found","_law_many","_law_signs"] (spF K mg 3 m__law_is_shape)
noncomputable abbrev T__law_refused:=DefE P w K mg base 4 "_law_refused" ["_law_plain_here","_law_many"] (spF K mg 2 m__law_refused)
noncomputable abbrev T__law_right:=DefE P w K mg base 3 "_law_right" ["_law_found","_law_plain_here","_law_many","_law_rows"] (spF K mg 4 m__law_right)
end
section
variable {x_TooGreat x_NoFit x_RoomError:Addr}
variable {P:Program} {w:PySem.World} {K:PySem.W.Frag} {mg:Str->Option Value} {base:Heap} {f:Addr} {fd:FuncData}
theorem ok_read_by (T:Txt K mg x_TooGreat x_NoFit x_RoomError)  (F:Fun K "read_by" "read_by" s_read_by f fd):FnOk P w K mg base (CXE P w) 1 f fd ["plain","standing","sign","name"] (spF K mg 4 m_read_by) :=
 Fun_okE F sc_read_by (spF_len rfl) fun cdv A outer s H vs Q E hr h=>have nd:=sc_read_by.nd;fn_use rfl
  (q_seq (q_if (QW.pt (q_tOr (q_tCmp op_isN ad_isN (vv 1) kn (nomark _) bl_isN) (q_tOr1 (q_tCmp (opNotInQ hr.units) ad_notin (vv 2) (kx (vv 0) ki) (by rfl) bl_notin)))) (q_one (q_ret kN)) q_nil) (q_seq (qA nd (q_cH (kx (vv 1) ki))) (q_seq (qA nd (q_cH (kx (kx (kx (kx (vv 0) ki) (kx (vv 1) ki)) ki) (q_vE (q_index hr.units (kx (vv 0) ki) (vv 2)))))) (q_seq (qA nd (q_cH (kx (vv 5) (q_vE (q_cIf (q_tCmp (opInQ hr.units) ad_in (vv 3) (vv 4) (by rfl) bl_in) (q_index hr.units (vv 4) (vv 3)) (qL (vv 4) T.b_len)))))) (q_seq (q_if (q_tCmp op_isN ad_isN (vv 6) kn (nomark _) bl_isN) (q_one (q_ret kN)) q_nil) (q_seq (qA nd (oA (vv 4) (q_vE (q_tup (o:=.no) (q_a1 (cv 3) q_a0))))) (q_one (q_ret (q_tup (o:=.no) (q_a1 (q_cH (kx (vv 6) ki)) (q_a1 (qT (q_vE (qM .rt 1 [7] 8 ["fill","held"] (q_itS (q_cH (kx (vv 6) ki))) (fun _ _ _ _ _=>(q_cH (kx (vv 1) (vv 0)))))) T.b_tuple) q_a0))))))))))) h
theorem ok_names_in (T:Txt K mg x_TooGreat x_NoFit x_RoomError)  (F:Fun K "names_in" "names_in" s_names_in f fd):FnOk P w K mg base (CXE P w) 1 f fd ["shape"] (spF K mg 1 m_names_in) :=
 Fun_okE F sc_names_in (spF_len rfl) fun cdv A outer s H vs Q E hr h=>fn_use rfl
  (q_one (q_ret (q_lensetI rfl rfl (q_vE (qm .rt 2 [] 1 ["sign","name"] (q_itS (cv 0)) (fun hN _ _ _ _ _=>(q_gT (is:=[0,1]) (pg_seq K (t:=gNs [0,1]) (n:=2) (pgs_cons (pg_name (i:=0) hN rfl (by first | exact Or.inl rfl | exact Or.inr rfl)) (pgs_cons (pg_name (i:=1) hN rfl (by first | exact Or.inl rfl | exact Or.inr rfl)) pgs_nil))))) (fun _ _ _ _ _=>q_ts0) (fun _ _ _ _ _=>(cv 1)))) T.b_len T.b_set))) h
theorem ok_walks_on (T:Txt K mg x_TooGreat x_NoFit x_RoomError) (D_names_in:T_names_in P w K mg base) (D_read_by:T_read_by P w K mg base) (F:Fun K "walks_on" "walks_on" s_walks_on f fd):FnOk P w K mg base (CXE P w) 2 f fd ["plain","walks"] (spF K mg 2 m_walks_on) :=
 Fun_okE F sc_walks_on (spF_len rfl) fun cdv A outer s H vs Q E hr h=>have nd:=sc_walks_on.nd;fn_use rfl
  (q_seq (qA nd (q_lst (o:=.dp) q_a0)) (q_seq (qF (q_itS (cv 1)) (q_gT (is:=[3,4]) (pg_seq K (t:=gNs [3,4]) (n:=2) (pgs_cons (gn nd) (pgs_cons (gn nd) pgs_nil)))) (q_seq (qA nd (q_lr1 (q_vE (oA (q_vE (qC D_names_in hr (q_a1 (cv 3) q_a0))) ki)) T.b_range T.b_list)) (q_one (qF (q_itS (q_cH (kx (vv 0) ki))) (gN nd) (q_seq (q_setLC (i:=7) (o:=.dp) (k:=1) (R:=[3,6,0,4]) ["name","shape","sign","plain","standing"] nd rfl (by first | exact Or.inl rfl | exact Or.inr rfl) (q_itS (cv 5)) (fun _ _ _ _ _=>(q_gN (pg_name (i:=0) (show (["name","shape","sign","plain","standing"]:List Str).Nodup by decide +kernel) rfl (by first | exact Or.inl rfl | exact Or.inr rfl)))) (fun _ _ _ _ _=>q_ts0) (fun _ _ _ _ _=>(q_tup (o:=.dp) (q_a1 (q_own (oA (vv 1) (q_vE (q_lst (o:=.rt) (q_a1 (q_tup (o:=.no) (q_a1 (cv 2) (q_a1 (cv 0) q_a0))) q_a0))))) (q_a1 (q_own (qC D_read_by hr (q_a1 (cv 3) (q_a1 (cv 4) (q_a1 (cv 2) (q_a1 (cv 0) q_a0)))))) q_a0)))) goes_wish ⟨_,_,rfl,rfl⟩ (by decide) (show ∀ j∈([3,6,0,4]:List Nat) ,j < 8 by decide)) (q_one (q_extP (i:=2) (q_sel1 (j:=7) ["walk"] (pv 7) (fun _ _ _ _ _=>(pg_name (i:=0) (show (["walk"]:List Str).Nodup by decide +kernel) rfl (by first | exact Or.inl rfl | exact Or.inr rfl))) (fun _ _ _ _ _=>(q_ts1 (q_tCmp op_notN ad_notN (kx (vv 0) ki) kn (nomark _) bl_notN))) (fun _ _ _ _ _=>(pv 0)) goes_wish ⟨_,_,rfl,rfl⟩)))))))) (q_one (q_ret (q_mv (pv 2)))))) h
theorem ok_shapes_of (T:Txt K mg x_TooGreat x_NoFit x_RoomError) (D_walks_on:T_walks_on P w K mg base) (F:Fun K "shapes_of" "shapes_of" s_shapes_of f fd):FnOk P w K mg base (CXE P w) 3 f fd ["plain","many"] (spF K mg 2 m_shapes_of) :=
 Fun_okE F sc_shapes_of (spF_len rfl) fun cdv A outer s H vs Q E hr h=>have nd:=sc_shapes_of.nd;fn_use rfl
  (q_seq (q_if (q_tNot (q_tChain op_le (ad_c2 (g:=fun a b=>decide (a<=b))) op_le (ad_c2 (g:=fun a b=>decide (a<=b))) ki (vv 1) (q_vE (q_C (pe_cst T.c_MOST_SIGNS) (fun _=>rep_int))) bl_c2)) (q_one (q_raise T.e_TooGreat T.m_TooGreat goes_wish pe_str)) q_nil) (q_seq (qA nd (q_lst (o:=.dp) (q_a1 (q_tup (o:=.dp) (q_a1 (q_lst (o:=.dp) q_a0) (q_a1 (q_tup (o:=.no) (q_a1 kI (q_a1 (q_tup (o:=.no) q_a0) q_a0))) q_a0))) q_a0))) (q_seq (qF (q_itR1 (vv 1) rfl T.b_range) (gN nd) (q_one (qA nd (q_callW D_walks_on (hr.mono (by decide)) goes_wish (q_av1 (vv 0) (q_av1 (vv 2) q_av0)))))) (q_one (q_ret (q_sel2 (j:=2) (p:=0) ["shape","standing","plain"] (pv 2) (fun _ _ _ _ _=>(pg_seq K (t:=gNs [0,1]) (n:=2) (pgs_cons (pg_name (i:=0) (show (["shape","standing","plain"]:List Str).Nodup by decide +kernel) rfl (by first | exact Or.inl rfl | exact Or.inr rfl)) (pgs_cons (pg_name (i:=1) (show (["shape","standing","plain"]:List Str).Nodup by decide +kernel) rfl (by first | exact Or.inl rfl | exact Or.inr rfl)) pgs_nil)))) (fun _ _ _ _ _=>(q_ts1 (q_truth (kx (kx (kx (vv 2) ki) (kx (vv 1) ki)) ki)))) (fun _ _ _ _ _=>(pv 0)) goes_wish ⟨_,_,rfl,rfl⟩)))))) h
theorem ok__law_cell_at (T:Txt K mg x_TooGreat x_NoFit x_RoomError)  (F:Fun K "_law_cell_at" "_law_cell_at" s__law_cell_at f fd):FnOk P w K mg base (CXE P w) 1 f fd ["_law_script","_law_k"] (spF K mg 2 m__law_cell_at) :=
 Fun_okE F sc__law_cell_at (spF_len rfl) fun cdv A outer s H vs Q E hr h=>fn_use rfl
  (q_seq (q_if (q_tCmp op_lt (ad_c2 (g:=fun a b=>decide (a < b))) (vv 1) (q_vE (qL (vv 0) T.b_len)) (nomark _) bl_c2) (q_one (q_ret (q_cH (kx (vv 0) (vv 1))))) q_nil) (q_one (q_ret kI))) h
theorem ok__law_mixed (T:Txt K mg x_TooGreat x_NoFit x_RoomError)  (F:Fun K "_law_mixed" "_law_mixed" s__law_mixed f fd):FnOk P w K mg base (CXE P w) 1 f fd ["_law_cell","_law_k"] (spF K mg 2 m__law_mixed) :=
 Fun_okE F sc__law_mixed (spF_len rfl) fun cdv A outer s H vs Q E hr h=>have nd:=sc__law_mixed.nd;fn_use rfl
  (q_seq (q_if (q_tCmp (opEqQ hr.units) ad_eq (q_vE (oM (vv 0) ki)) ki (nomark _) bl_eq) (q_one (q_ret (q_op op_fdivB ad_div (vv 0) (q_vE (q_op op_shl ad_shl ki (q_vE (oX ki (vv 1)))))))) q_nil) (q_seq (qA nd (oM (q_vE (oX (q_vE (oA (q_vE (oA (q_vE (oM (vv 0) ki)) (q_vE (oX ki (vv 1))))) ki)) ki)) ki)) (q_seq (qA nd (oM (q_vE (oX (vv 2) (vv 2))) ki)) (q_one (q_ret (oM (q_vE (oA (q_vE (oX (vv 2) (vv 2))) (q_vE (oX ki (vv 1))))) ki)))))) h
theorem ok__law_words (T:Txt K mg x_TooGreat x_NoFit x_RoomError) (D__law_mixed:T__law_mixed P w K mg base) (F:Fun K "_law_words" "_law_words" s__law_words f fd):FnOk P w K mg base (CXE P w) 2 f fd ["_law_cell","_law_many"] (spF K mg 2 m__law_words) :=
 Fun_okE F sc__law_words (spF_len rfl) fun cdv A outer s H vs Q E hr h=>have nd:=sc__law_words.nd;fn_use rfl
  (q_seq (qA nd kS) (q_seq (qA nd (q_join pe_str (q_vE (qM .rt 1 [2,0] 9 ["_law_j","_law_letters","_law_cell"] (q_itR1 ki rfl T.b_range) (fun _ _ _ _ _=>(q_cH (kx (vv 1) (q_vE (oM (q_vE (qC D__law_mixed hr (q_a1 (cv 2) (q_a1 (cv 0) q_a0)))) ki))))))))) (q_seq (q_if (q_tCmp (opEqQ hr.units) ad_eq (q_vE (oM (vv 0) ki)) ki (nomark _) bl_eq) (q_one (q_ret (qM .rt 1 [3,0] 9 ["_law_k","_law_word","_law_cell"] (q_itR1 (vv 1) rfl T.b_range) (fun _ _ _ _ _=>(q_sl (vv 1) q_poN (q_poS (q_vE (oA ki (q_vE (oM (q_vE (oA (vv 0) (q_vE (q_op op_fdivB ad_div (vv 2) ki)))) ki)))))))))) q_nil) (q_seq (qA nd (oA ki (q_vE (oM (q_vE (q_op op_fdivB ad_div (vv 0) ki)) ki)))) (q_seq (qA nd (oM (q_vE (q_op op_fdivB ad_div (vv 0) ki)) (vv 4))) (q_seq (qA nd (q_lst (o:=.rt) q_a0)) (q_seq (qF (q_itR1 (vv 1) rfl T.b_range) (gN nd) (q_seq (qA nd (oM (q_vE (oA (q_vE (q_idxS (vv 2) (kx (vv 3) (vv 5)))) (q_vE (oX (vv 7) (q_vE (oA ki (q_vE (oM (q_vE (q_op op_fdivB ad_div (vv 0) ki)) ki)))))))) ki)) (q_one (qP (oA (q_vE (oA (q_vE (q_sl (vv 3) q_poN (q_poS (vv 5)))) (kx (vv 2) (vv 8)))) (q_vE (q_sl (vv 3) (q_poS (q_vE (oA (vv 5) ki))) (q_poS (vv 4))))))))) (q_one (q_ret (q_mv (pv 6))))))))))) h
theorem ok__law_whole (T:Txt K mg x_TooGreat x_NoFit x_RoomError)  (F:Fun K "_law_whole" "_law_whole" s__law_whole f fd):FnOk P w K mg base (CXE P w) 1 f fd ["_law_found"] (spF K mg 1 m__law_whole) :=
 Fun_okE F sc__law_whole (spF_len rfl) fun cdv A outer s H vs Q E hr h=>fn_use rfl
  (q_one (q_ret (q_and (q_vE (q_isi (vv 0) T.b_isinstance T.b_int bt_int rfl)) (q_one' (q_not (q_vE (q_isi (vv 0) T.b_isinstance T.b_bool bt_bool rfl))))))) h
theorem ok__law_case (T:Txt K mg x_TooGreat x_NoFit x_RoomError)  (F:Fun K "_law_case" "_law_case" s__law_case f fd):FnOk P w K mg base (CXE P w) 1 f fd ["_law_m","_law_here","_law_c","_law_keepers"] (spF K mg 4 m__law_case) :=
 Fun_okE F sc__law_case (spF_len rfl) fun cdv A outer s H vs Q E hr h=>have nd:=sc__law_case.nd;fn_use rfl
  (q_seq (qA nd (oM (vv 0) (q_vE (oA (q_vE (qL (vv 3) T.b_len)) ki)))) (q_seq (q_if (q_tCmp (opEqQ hr.units) ad_eq (vv 4) (q_vE (qL (vv 3) T.b_len)) (nomark _) bl_eq) (q_one (q_ret kN)) q_nil) (q_seq (q_setLC (i:=5) (o:=.rt) (k:=1) (R:=[]) ["_law_i"] nd rfl (by first | exact Or.inl rfl | exact Or.inr rfl) (q_itR1 (kx (vv 3) (vv 1)) rfl T.b_range) (fun _ _ _ _ _=>(q_gN (pg_name (i:=0) (show (["_law_i"]:List Str).Nodup by decide +kernel) rfl (by first | exact Or.inl rfl | exact Or.inr rfl)))) (fun _ _ _ _ _=>q_ts0) (fun _ _ _ _ _=>(cv 0)) goes_wish ⟨_,_,rfl,rfl⟩ (by decide) (show ∀ j∈([]:List Nat) ,j < 8 by decide)) (q_seq (q_if (q_tCmp (opEqQ hr.units) ad_eq (vv 2) (kx (vv 3) (vv 1)) (nomark _) bl_eq) (q_one (qP (cv 2))) q_nil) (q_seq (q_if (q_tCmp op_gt (ad_c2 (g:=fun a b=>decide (b < a))) (kx (vv 3) (vv 4)) (q_vE (qL (vv 5) T.b_len)) (nomark _) bl_c2) (q_one (q_ret kN)) q_nil) (q_seq (qA nd (q_op op_fdivB ad_div (vv 0) (q_vE (oA (q_vE (qL (vv 3) T.b_len)) ki)))) (q_seq (qA nd (q_lst (o:=.rt) q_a0)) (q_seq (qF (q_itR1 (kx (vv 3) (vv 4)) rfl T.b_range) (gN nd) (q_seq (qP (q_pop (i:=5) (pe_bmK K PySem.F.plainAttrs_list PySem.F.slot_list_pop PySem.F.type_list_pop mt_popAt (pv 5) (pa_cons (q_vE (oM (vv 0) (q_vE (qL (vv 5) T.b_len)))) pa_nil)))) (q_one (qA nd (q_op op_fdivB ad_div (vv 0) ki))))) (q_one (q_ret (q_tup (o:=.no) (q_a1 (cv 4) (q_a1 (qT (vv 6) T.b_tuple) q_a0))))))))))))) h
theorem ok__law_plain (T:Txt K mg x_TooGreat x_NoFit x_RoomError) (D__law_mixed:T__law_mixed P w K mg base) (D__law_cell_at:T__law_cell_at P w K mg base) (D__law_case:T__law_case P w K mg base) (F:Fun K "_law_plain" "_law_plain" s__law_plain f fd):FnOk P w K mg base (CXE P w) 2 f fd ["_law_script","_law_start","_law_signs"] (spF K mg 3 m__law_plain) :=
 Fun_okE F sc__law_plain (spF_len rfl) fun cdv A outer s H vs Q E hr h=>have nd:=sc__law_plain.nd;fn_use rfl
  (q_seq (qA nd (qC D__law_mixed hr (q_a1 (qC D__law_cell_at hr (q_a1 (cv 0) (q_a1 (cv 1) q_a0))) (q_a1 kI q_a0)))) (q_seq (qA nd (oA ki (q_vE (oM (vv 3) ki)))) (q_seq (qA nd (q_lst (o:=.rt) (q_a1 kI q_a0))) (q_seq (qF (q_itR2 ki (vv 4) rfl T.b_range) (gN nd) (q_one (qP (q_cH (kx (q_vE (q_lst (o:=.rt) (q_a1 kI (q_a1 kI (q_a1 kI (q_a1 kI (q_a1 kI (q_a1 kI (q_a1 kI (q_a1 kI q_a0)))))))))) (q_vE (oM (q_vE (qC D__law_mixed hr (q_a1 (qC D__law_cell_at hr (q_a1 (cv 0) (q_a1 (oA (vv 1) ki) q_a0))) (q_a1 (cv 6) q_a0)))) ki))))))) (q_seq (qA nd (q_lst (o:=.rt) q_a0)) (q_seq (qF (q_itR1 (vv 4) rfl T.b_range) (gN nd) (q_seq (qA nd (qC D__law_cell_at hr (q_a1 (cv 0) (q_a1 (oA (q_vE (oA (vv 1) ki)) (vv 8)) q_a0)))) (q_seq (qA nd (q_lst (o:=.rt) q_a0)) (q_seq (qF (q_itR1 (q_vE (qL (vv 2) T.b_len)) rfl T.b_range) (gN nd) (q_seq (qA nd (qM .rt 1 [9,11] 13 ["_law_c","_law_cell","_law_s"] (q_itR1 (q_vE (oA (kx (vv 5) (vv 8)) ki)) rfl T.b_range) (fun _ _ _ _ _=>(qC D__law_mixed hr (q_a1 (cv 1) (q_a1 (oA (q_vE (oX ki (vv 2))) (q_vE (oX ki (vv 0)))) q_a0)))))) (q_one (qP (qM .rt 1 [12,8,5] 13 ["_law_c","_law_cells","_law_here","_law_keepers"] (q_itR1 (q_vE (qL (vv 12) T.b_len)) rfl T.b_range) (fun _ _ _ _ _=>(q_callB D__law_case (hr.mono (by decide)) goes_wish (q_av1 (kx (vv 1) (vv 0)) (q_av1 (vv 2) (q_av1 (vv 0) (q_av1 (vv 3) q_av0))))))))))) (q_one (qP (q_tup (o:=.no) (q_a1 (q_cH (kx (vv 5) (vv 8))) (q_a1 (q_cmp (opEqQ hr.units) ad_eq (q_vE (oM (q_vE (qC D__law_mixed hr (q_a1 (cv 9) (q_a1 kI q_a0)))) ki)) ki (nomark _)) (q_a1 (cv 10) q_a0)))))))))) (q_one (q_ret (q_tup (o:=.no) (q_a1 (q_y1 (callList K) ad_list (vv 2) T.b_list bt_list) (q_a1 (cv 7) q_a0))))))))))) h
theorem ok__law_lets (T:Txt K mg x_TooGreat x_NoFit x_RoomError)  (F:Fun K "_law_lets" "_law_lets" s__law_lets f fd):FnOk P w K mg base (CXE P w) 1 f fd ["_law_plain_here","_law_row"] (spF K mg 2 m__law_lets) :=
 Fun_okE F sc__law_lets (spF_len rfl) fun cdv A outer s H vs Q E hr h=>have nd:=sc__law_lets.nd;fn_use rfl
  (q_seq (qA nd kI) (q_seq (qA nd (q_lst (o:=.rt) q_a0)) (q_seq (qF (q_itS (cv 1)) (q_gT (is:=[4,5]) (pg_seq K (t:=gNs [4,5]) (n:=2) (pgs_cons (gn nd) (pgs_cons (gn nd) pgs_nil)))) (q_seq (q_if (q_tCmp (opNotInQ hr.units) ad_notin (vv 4) (kx (vv 0) ki) (by rfl) bl_notin) (q_one (q_ret (q_C pe_bl (fun _=>rep_bl)))) q_nil) (q_seq (qA nd (q_cH (kx (kx (kx (kx (vv 0) ki) (vv 2)) ki) (q_vE (q_index hr.units (kx (vv 0) ki) (vv 4)))))) (q_seq (qA nd (q_cH (kx (vv 6) (q_vE (qL (vv 3) T.b_len))))) (q_seq (q_if (q_tCmp (opInQ hr.units) ad_in (vv 5) (vv 3) (by rfl) bl_in) (q_one (qA nd (q_cH (kx (vv 6) (q_vE (q_index hr.units (vv 3) (vv 5))))))) q_nil) (q_seq (q_if (q_tCmp op_isN ad_isN (vv 7) kn (nomark _) bl_isN) (q_one (q_ret (q_C pe_bl (fun _=>rep_bl)))) q_nil) (q_seq (qA nd (qM .rt 1 [3,5] 8 ["_law_fill","_law_names","_law_name"] (q_itS (q_cH (kx (vv 7) ki))) (fun _ _ _ _ _=>(q_cH (kx (q_vE (oA (vv 1) (q_vE (q_lst (o:=.rt) (q_a1 (cv 2) q_a0))))) (vv 0)))))) (q_one (qA nd (q_cH (kx (vv 7) ki))))))))))) (q_one (q_ret (q_cH (kx (kx (kx (vv 0) ki) (vv 2)) ki))))))) h
theorem ok__law_shape (T:Txt K mg x_TooGreat x_NoFit x_RoomError)  (F:Fun K "_law_shape" "_law_shape" s__law_shape f fd):FnOk P w K mg base (CXE P w) 1 f fd ["_law_row"] (spF K mg 1 m__law_shape) :=
 Fun_okE F sc__law_shape (spF_len rfl) fun cdv A outer s H vs Q E hr h=>have nd:=sc__law_shape.nd;fn_use rfl
  (q_seq (qA nd (q_lst (o:=.rt) q_a0)) (q_seq (qA nd (q_lst (o:=.rt) q_a0)) (q_seq (qF (q_itS (cv 0)) (q_gT (is:=[3,4]) (pg_seq K (t:=gNs [3,4]) (n:=2) (pgs_cons (gn nd) (pgs_cons (gn nd) pgs_nil)))) (q_seq (q_if (q_tCmp (opNotInQ hr.units) ad_notin (vv 4) (vv 1) (by rfl) bl_notin) (q_one (qP (cv 4))) q_nil) (q_one (qP (q_tup (o:=.no) (q_a1 (cv 3) (q_a1 (q_index hr.units (vv 1) (vv 4)) q_a0))))))) (q_one (q_ret (q_mv (pv 2))))))) h
theorem ok__law_is_shape (T:Txt K mg x_TooGreat x_NoFit x_RoomError) (D__law_whole:T__law_whole P w K mg base) (F:Fun K "_law_is_shape" "_law_is_shape" s__law_is_shape f fd):FnOk P w K mg base (CXE P w) 2 f fd ["_law_found","_law_many","_law_signs"] (spF K mg 3 m__law_is_shape) :=
 Fun_okE F sc__law_is_shape (spF_len rfl) fun cdv A outer s H vs Q E hr h=>have nd:=sc__law_is_shape.nd;fn_use rfl
  (q_seq (q_if (QW.pt (q_tOr (q_tNot (q_truth (q_vE (q_isi (vv 0) T.b_isinstance T.b_list bt_list rfl)))) (q_tOr1 (q_tCmp (opNeQ hr.units) ad_ne (q_vE (qL (vv 0) T.b_len)) (vv 1) (nomark _) bl_ne)))) (q_one (q_ret (q_C pe_bl (fun _=>rep_bl)))) q_nil) (q_seq (qA nd (q_un un_neg ad_neg ki)) (q_seq (qF (q_itS (cv 0)) (gN nd) (q_seq (q_if (QW.pt (q_tOr (q_tNot (q_truth (q_vE (q_isi (vv 4) T.b_isinstance T.b_tuple bt_tuple rfl)))) (q_tOr (q_tCmp (opNeQ hr.units) ad_ne (q_vE (qL (vv 4) T.b_len)) ki (nomark _) bl_ne) (q_tOr (q_tNot (q_truth (q_vE (q_isi (kx (vv 4) ki) T.b_isinstance T.b_str bt_str rfl)))) (q_tOr1 (q_tCmp (opNotInQ hr.units) ad_notin (kx (vv 4) ki) (vv 2) (by rfl) bl_notin)))))) (q_one (q_ret (q_C pe_bl (fun _=>rep_bl)))) q_nil) (q_seq (q_if (QW.pt (q_tOr (q_tNot (q_truth (q_vE (qC D__law_whole hr (q_a1 (q_cH (kx (vv 4) ki)) q_a0))))) (q_tOr (q_tCmp op_lt (ad_c2 (g:=fun a b=>decide (a < b))) (kx (vv 4) ki) ki (nomark _) bl_c2) (q_tOr1 (q_tCmp op_gt (ad_c2 (g:=fun a b=>decide (b < a))) (kx (vv 4) ki) (q_vE (oA (vv 3) ki)) (nomark _) bl_c2))))) (q_one (q_ret (q_C pe_bl (fun _=>rep_bl)))) q_nil) (q_one (qA nd (q_b2 (call_max2 rfl) (ad_ii fun _ _=>rfl) (vv 3) (kx (vv 4) ki) T.b_max bt_max)))))) (q_one (q_ret (q_C pe_bl (fun _=>rep_bl))))))) h
theorem ok__law_refused (T:Txt K mg x_TooGreat x_NoFit x_RoomError) (D_shapes_of:T_shapes_of P w K mg base) (F:Fun K "_law_refused" "_law_refused" s__law_refused f fd):FnOk P w K mg base (CXE P w) 4 f fd ["_law_plain_here","_law_many"] (spF K mg 2 m__law_refused) :=
 Fun_okE F sc__law_refused (spF_len rfl) fun cdv A outer s H vs Q E hr h=>have nd:=sc__law_refused.nd;fn_use rfl
  (q_seq (qA nd (q_C pe_bl (fun _=>rep_bl))) (q_seq (q_tryE (i:=3) (cs:=["TooGreat"]) nd rfl rfl ⟨_,_,rfl,rfl⟩ T.m_TooGreat rfl (caught_cons T.e_TooGreat T.n_TooGreat T.h_TooGreat_TooGreat caught_nil) (q_callT D_shapes_of (hr.mono (by decide)) (q_a1 (cv 0) (q_a1 (cv 1) q_a0))) (fun x_x=>(q_one (qA nd (q_and (q_vE (q_isX (vv 3) T.b_isinstance (pe_own T.m_RoomError) rfl (isx_own T.n_TooGreat T.i_TooGreat_RoomError isx_nil))) (q_and (q_vE (q_isX (vv 3) T.b_isinstance (pe_bltn (v:=.ty "ValueError") rfl T.b_ValueError bt_ValueError rfl) rfl (isx_ty T.n_TooGreat T.i_TooGreat_ValueError isx_nil))) (q_one' (q_not (q_vE (q_isX (vv 3) T.b_isinstance (pe_own T.m_NoFit) rfl (isx_own T.n_TooGreat T.i_TooGreat_NoFit isx_nil))))))))))) (q_one (q_ret (q_mv (pv 2)))))) h
theorem ok__law_right (T:Txt K mg x_TooGreat x_NoFit x_RoomError) (D__law_lets:T__law_lets P w K mg base) (D__law_is_shape:T__law_is_shape P w K mg base) (D__law_shape:T__law_shape P w K mg base) (F:Fun K "_law_right" "_law_right" s__law_right f fd):FnOk P w K mg base (CXE P w) 3 f fd ["_law_found","_law_plain_here","_law_many","_law_rows"] (spF K mg 4 m__law_right) :=
 Fun_okE F sc__law_right (spF_len rfl) fun cdv A outer s H vs Q E hr h=>have nd:=sc__law_right.nd;fn_use rfl
  (q_seq (q_if (q_tNot (q_truth (q_vE (q_isi (vv 0) T.b_isinstance T.b_list bt_list rfl)))) (q_one (q_ret (q_C pe_bl (fun _=>rep_bl)))) q_nil) (q_seq (qF (q_itS (cv 0)) (gN nd) (q_one (q_if (QW.pt (q_tOr (q_tNot (q_truth (q_vE (qC D__law_is_shape hr (q_a1 (cv 4) (q_a1 (cv 2) (q_a1 (q_cH (kx (vv 1) ki)) q_a0))))))) (q_tOr1 (q_tNot (q_truth (q_vE (qC D__law_lets hr (q_a1 (cv 1) (q_a1 (cv 4) q_a0))))))))) (q_one (q_ret (q_C pe_bl (fun _=>rep_bl)))) q_nil))) (q_seq (qF (q_itZip (q_sl (vv 0) q_poN (q_poS (q_vE (q_un un_neg ad_neg ki)))) (q_sl (vv 0) (q_poS ki) q_poN) rfl T.b_zip) (q_gT (is:=[5,6]) (pg_seq K (t:=gNs [5,6]) (n:=2) (pgs_cons (gn nd) (pgs_cons (gn nd) pgs_nil)))) (q_one (q_if (q_tNot (q_tCmp (opLtL hr.units) ad_ltL (vv 5) (vv 6) (nomark _) bl_ltL)) (q_one (q_ret (q_C pe_bl (fun _=>rep_bl)))) q_nil))) (q_seq (qF (q_itS (cv 3)) (gN nd) (q_one (q_if (q_tCmp (opNeQ hr.units) ad_ne (q_vE (q_cmp (opInQ hr.units) ad_in (q_vE (qC D__law_shape hr (q_a1 (cv 7) q_a0))) (vv 0) (by rfl))) (q_vE (qC D__law_lets hr (q_a1 (cv 1) (q_a1 (cv 7) q_a0)))) (nomark _) bl_ne) (q_one (q_ret (q_C pe_bl (fun _=>rep_bl)))) q_nil))) (q_one (q_ret (q_C pe_bl (fun _=>rep_bl)))))))) h
theorem ok_law (T:Txt K mg x_TooGreat x_NoFit x_RoomError) (D__law_plain:T__law_plain P w K mg base) (D__law_cell_at:T__law_cell_at P w K mg base) (D_shapes_of:T_shapes_of P w K mg base) (D__law_words:T__law_words P w K mg base) (D__law_right:T__law_right P w K mg base) (D__law_refused:T__law_refused P w K mg base) (D__law_mixed:T__law_mixed P w K mg base) (F:Fun K "law" "law" s_law f fd):FnOk P w K mg base (CXE P w) 5 f fd ["_law_script"] (spF K mg 1 m_law) :=
 Fun_okE F sc_law (spF_len rfl) fun cdv A outer s H vs Q E hr h=>have nd:=sc_law.nd;fn_use rfl
  (q_seq (qA nd (q_b1 (call_sorted rfl) ad_sorted (q_vE (qC D__law_words hr (q_a1 (qC D__law_cell_at hr (q_a1 (cv 0) (q_a1 kI q_a0))) (q_a1 (oA ki (q_vE (oM (q_vE (q_op op_fdivB ad_div (q_vE (qC D__law_cell_at hr (q_a1 (cv 0) (q_a1 kI q_a0)))) ki)) ki))) q_a0)))) T.b_sorted bt_sorted)) (q_seq (qA nd (qC D__law_plain hr (q_a1 (cv 0) (q_a1 kI (q_a1 (cv 1) q_a0))))) (q_seq (qA nd (qC D__law_plain hr (q_a1 (cv 0) (q_a1 kI (q_a1 (cv 1) q_a0))))) (q_seq (qA nd (qC D__law_cell_at hr (q_a1 (cv 0) (q_a1 kI q_a0)))) (q_seq (qA nd (oM (vv 4) ki)) (q_seq (qA nd (q_lst (o:=.rt) q_a0)) (q_seq (qF (q_itS (q_sl (vv 0) (q_poS ki) (q_poS ki))) (gN nd) (q_seq (qA nd (q_lst (o:=.rt) (q_a1 (oM (vv 7) (q_vE (q_op op_pow ad_pow ki ki))) (q_a1 (q_op op_sub ad_sub (q_vE (q_un un_neg ad_neg ki)) (q_vE (oM (vv 7) (q_vE (q_op op_pow ad_pow ki ki))))) (q_a1 kI (q_a1 (oM (q_vE (q_op op_fdivB ad_div (vv 7) ki)) (q_vE (q_op op_pow ad_pow ki ki))) (q_a1 kI q_a0))))))) (q_one (qP (qM .rt 1 [1,7,8] 12 ["_law_j","_law_signs","_law_one","_law_names"] (q_itR1 (vv 5) rfl T.b_range) (fun _ _ _ _ _=>(q_tup (o:=.no) (q_a1 (q_cH (kx (vv 1) (q_vE (oM (q_vE (qC D__law_mixed hr (q_a1 (cv 2) (q_a1 (cv 0) q_a0)))) (q_vE (qL (vv 1) T.b_len)))))) (q_a1 (q_cH (kx (vv 3) (q_vE (oM (q_vE (qC D__law_mixed hr (q_a1 (cv 2) (q_a1 (oA ki (vv 0)) q_a0)))) ki)))) q_a0))))))))) (q_seq (qA nd (qC D_shapes_of hr (q_a1 (cv 2) (q_a1 (cv 5) q_a0)))) (q_seq (q_if (QW.pt (q_tOr (q_tNot (q_truth (q_vE (q_callB D__law_right (hr.mono (by decide)) goes_wish (q_av1 (vv 9) (q_av1 (vv 2) (q_av1 (vv 5) (q_av1 (vv 6) q_av0)))))))) (q_tOr1 (q_tCmp (opNeQ hr.units) ad_ne (vv 2) (vv 3) (nomark _) bl_ne)))) (q_one (q_ret (q_C pe_bl (fun _=>rep_bl)))) q_nil) (q_seq (q_if (QW.pt (q_tOr (q_tNot (q_truth (q_vE (qC D__law_refused hr (q_a1 (cv 2) (q_a1 (q_op op_sub ad_sub (q_vE (q_un un_neg ad_neg ki)) (q_vE (oM (vv 4) (q_vE (q_op op_pow ad_pow ki ki))))) q_a0)))))) (q_tOr1 (q_tNot (q_truth (q_vE (qC D__law_refused hr (q_a1 (cv 2) (q_a1 (oA ki (q_vE (oM (q_vE (q_op op_fdivB ad_div (vv 4) ki)) (q_vE (q_op op_pow ad_pow ki ki))))) q_a0))))))))) (q_one (q_ret (q_C pe_bl (fun _=>rep_bl)))) q_nil) (q_seq (q_setLook (i:=10) (o:=.dp) (k:=1) (R:=[]) ["_law_shape_here"] nd rfl (by first | exact Or.inl rfl | exact Or.inr rfl) (q_itS (cv 9)) (fun _ _ _ _ _=>(q_gN (pg_name (i:=0) (show (["_law_shape_here"]:List Str).Nodup by decide +kernel) rfl (by first | exact Or.inl rfl | exact Or.inr rfl)))) (fun _ _ _ _ _=>q_ts0) (fun _ _ _ _ _=>(q_own (q_y1 (callList K) ad_list (vv 0) T.b_list bt_list))) goes_wish ⟨_,_,rfl,rfl⟩ (by decide) (show ∀ j∈([]:List Nat) ,j < 12 by decide)) (q_seq (q_eachQ (i:=9) (r:=11) (p:=[]) (q':=[]) (own_X ⟨_,_,rfl,rfl⟩) rfl (pth_nil K (pv 9)) (gn nd) (pth_nil K (pv 11)) (q_tup (o:=.no) (q_a1 kS (q_a1 kI q_a0))) rfl mt_append) (q_seq (q_pc (i:=9) (p:=[]) (pth_nil K (pv 9)) rfl mt_clear) (q_one (q_ret (q_and (q_vE (q_cmp (opEqQ hr.units) ad_eq (q_vE (qC D_shapes_of hr (q_a1 (cv 2) (q_a1 (cv 5) q_a0)))) (vv 10) (nomark _))) (q_one' (q_cmp (opEqQ hr.units) ad_eq (vv 2) (vv 3) (nomark _))))))))))))))))))) h
end
end Nk73
namespace Nk73
open PySem L2 L3 Q
theorem all_mk {l:PySem.W.OpenLaw} {w:PySem.World} {K:PySem.W.Frag} {h:Heap} {mg:Str->Option Value} {fa:Addr} (X:K.In h) (G:h.Ns mainGlobals mg) (hfa:mg "law"=some (.ref fa)) {u_MOST_SIGNS:Value} {x_TooGreat x_NoFit x_RoomError:Addr}
  (g0:Gf K "read_by" s_read_by)
  (g1:Gf K "names_in" s_names_in)
  (g2:Gf K "walks_on" s_walks_on)
  (g3:Gf K "shapes_of" s_shapes_of)
  (g4:Gf K "_law_cell_at" s__law_cell_at)
  (g5:Gf K "_law_mixed" s__law_mixed)
  (g6:Gf K "_law_words" s__law_words)
  (g7:Gf K "_law_whole" s__law_whole)
  (g8:Gf K "_law_case" s__law_case)
  (g9:Gf K "_law_plain" s__law_plain)
  (g10:Gf K "_law_lets" s__law_lets)
  (g11:Gf K "_law_shape" s__law_shape)
  (g12:Gf K "_law_is_shape" s__law_is_shape)
  (g13:Gf K "_law_refused" s__law_refused)
  (g14:Gf K "_law_right" s__law_right)
  (g15:Gf K "law" s_law)
  (q_MOST_SIGNS:PySem.W.nsIn K mainGlobals "MOST_SIGNS"=some (some u_MOST_SIGNS)) (r_MOST_SIGNS:RelV (V.int (4)) u_MOST_SIGNS)
  (z_ValueError:PySem.W.nsIn K mainGlobals "ValueError"=some none)
  (z_bool:PySem.W.nsIn K mainGlobals "bool"=some none)
  (z_int:PySem.W.nsIn K mainGlobals "int"=some none)
  (z_isinstance:PySem.W.nsIn K mainGlobals "isinstance"=some none)
  (z_len:PySem.W.nsIn K mainGlobals "len"=some none)
  (z_list:PySem.W.nsIn K mainGlobals "list"=some none)
  (z_max:PySem.W.nsIn K mainGlobals "max"=some none)
  (z_range:PySem.W.nsIn K mainGlobals "range"=some none)
  (z_set:PySem.W.nsIn K mainGlobals "set"=some none)
  (z_sorted:PySem.W.nsIn K mainGlobals "sorted"=some none)
  (z_str:PySem.W.nsIn K mainGlobals "str"=some none)
  (z_tuple:PySem.W.nsIn K mainGlobals "tuple"=some none)
  (z_zip:PySem.W.nsIn K mainGlobals "zip"=some none)
  (n_TooGreat:PySem.W.nsIn K mainGlobals "TooGreat"=some (some (.ref x_TooGreat)))
  (ec_TooGreat:PySem.W.excIn K x_TooGreat bmV "ValueError.__new__"=true) (ga_TooGreat:PySem.W.findIn K (.ref x_TooGreat) "__getattribute__"=some (some (.builtin "BaseException.__getattribute__"))) (gt_TooGreat:PySem.W.findIn K (.ref x_TooGreat) "__getattr__"=some none) (fa_TooGreat:PySem.W.findIn K (.ref x_TooGreat) "__class__"=some (some (.builtin "object.__class__"))) (fg_TooGreat:PySem.W.specialIn K (.builtin "object.__class__") "__get__"=some (some (.builtin "getset_descriptor.__get__"))) (ft_TooGreat:PySem.W.takesIn K (.builtin "object.__class__")=some true) (ob_TooGreat:PySem.W.mroIn K x_TooGreat (.type "object")=some true) (bx_TooGreat:PySem.W.mroIn K x_TooGreat (.type "BaseException")=some true) (cl_TooGreat:PySem.W.isClsIn K x_TooGreat=true)
  (n_NoFit:PySem.W.nsIn K mainGlobals "NoFit"=some (some (.ref x_NoFit)))
  (n_RoomError:PySem.W.nsIn K mainGlobals "RoomError"=some (some (.ref x_RoomError)))
  (h_TooGreat_TooGreat:PySem.W.exmOne K (.ref x_TooGreat) (.ref x_TooGreat)=some true)
  (i_TooGreat_NoFit:PySem.W.kitOne K (.ref x_TooGreat) (.ref x_NoFit)=some false)
  (i_TooGreat_ValueError:PySem.W.kitOne K (.ref x_TooGreat) (.type "ValueError")=some true)
  (i_TooGreat_RoomError:PySem.W.kitOne K (.ref x_TooGreat) (.ref x_RoomError)=some true)
  : ∃ fd:FuncData,(∀ (s:Shared) (v:Value),BindsTo s fd ⟨[v],[]⟩ [("_law_script",v)])/\∀ base:Heap,K.In base->base.Ns mainGlobals mg->FnOk l.prog w K mg base (CXE l.prog w) 5 fa fd ["_law_script"] (spF K mg 1 m_law):=by
 have T:Txt K mg x_TooGreat x_NoFit x_RoomError:=⟨PySem.W.mg_none_of X G z_ValueError,PySem.W.mg_none_of X G z_bool,PySem.W.mg_none_of X G z_int,PySem.W.mg_none_of X G z_isinstance,PySem.W.mg_none_of X G z_len,PySem.W.mg_none_of X G z_list,PySem.W.mg_none_of X G z_max,PySem.W.mg_none_of X G z_range,PySem.W.mg_none_of X G z_set,PySem.W.mg_none_of X G z_sorted,PySem.W.mg_none_of X G z_str,PySem.W.mg_none_of X G z_tuple,PySem.W.mg_none_of X G z_zip,⟨_,PySem.W.mg_of X G q_MOST_SIGNS,r_MOST_SIGNS⟩,n_TooGreat,PySem.W.mg_of X G n_TooGreat,⟨PySem.W.mg_of X G n_TooGreat,ec_TooGreat,xcls_mk ga_TooGreat gt_TooGreat fa_TooGreat fg_TooGreat ft_TooGreat ob_TooGreat bx_TooGreat cl_TooGreat⟩,n_NoFit,PySem.W.mg_of X G n_NoFit,n_RoomError,PySem.W.mg_of X G n_RoomError,h_TooGreat_TooGreat,i_TooGreat_NoFit,i_TooGreat_ValueError,i_TooGreat_RoomError⟩
 refine g15.law X G hfa fun {base _ _} F=>?_
 have D_read_by:T_read_by l.prog w K mg base:=g0.d X G (ok_read_by T )
 have D_names_in:T_names_in l.prog w K mg base:=g1.d X G (ok_names_in T )
 have D_walks_on:T_walks_on l.prog w K mg base:=g2.d X G (ok_walks_on T D_names_in D_read_by)
 have D_shapes_of:T_shapes_of l.prog w K mg base:=g3.d X G (ok_shapes_of T D_walks_on)
 have D__law_cell_at:T__law_cell_at l.prog w K mg base:=g4.d X G (ok__law_cell_at T )
 have D__law_mixed:T__law_mixed l.prog w K mg base:=g5.d X G (ok__law_mixed T )
 have D__law_words:T__law_words l.prog w K mg base:=g6.d X G (ok__law_words T D__law_mixed)
 have D__law_whole:T__law_whole l.prog w K mg base:=g7.d X G (ok__law_whole T )
 have D__law_case:T__law_case l.prog w K mg base:=g8.d X G (ok__law_case T )
 have D__law_plain:T__law_plain l.prog w K mg base:=g9.d X G (ok__law_plain T D__law_mixed D__law_cell_at D__law_case)
 have D__law_lets:T__law_lets l.prog w K mg base:=g10.d X G (ok__law_lets T )
 have D__law_shape:T__law_shape l.prog w K mg base:=g11.d X G (ok__law_shape T )
 have D__law_is_shape:T__law_is_shape l.prog w K mg base:=g12.d X G (ok__law_is_shape T D__law_whole)
 have D__law_refused:T__law_refused l.prog w K mg base:=g13.d X G (ok__law_refused T D_shapes_of)
 have D__law_right:T__law_right l.prog w K mg base:=g14.d X G (ok__law_right T D__law_lets D__law_is_shape D__law_shape)
 exact ok_law T D__law_plain D__law_cell_at D_shapes_of D__law_words D__law_right D__law_refused D__law_mixed F
end Nk73
theorem PySem.W.Fast.tw14111238149045774190:True:=trivial
theorem PySem.W.Fast.tw6016190833628898933:True:=trivial
theorem PySem.W.Fast.tw5298992042907481006:True:=trivial
theorem PySem.W.Fast.tw17544275889247522841:True:=trivial
theorem PySem.W.Fast.tw1203039428834454245:True:=trivial
theorem PySem.W.Fast.tw17671420946854182876:True:=trivial
theorem PySem.W.Fast.tw6301678246330154086:True:=trivial
theorem PySem.W.Fast.tw15454483859203487019:True:=trivial
theorem PySem.W.Fast.tw16623992084368354249:True:=trivial
theorem PySem.W.Fast.tw17012806412434288499:True:=trivial
theorem PySem.W.Fast.tw16929068569527426775:True:=trivial
theorem PySem.W.Fast.tw5577530396378862546:True:=trivial
theorem PySem.W.Fast.tw16347336498773931798:True:=trivial
theorem PySem.W.Fast.tw17103814971207817666:True:=trivial
theorem PySem.W.Fast.tw8549186702056880081:True:=trivial
theorem PySem.W.Fast.tw9339216340416118828:True:=trivial
theorem PySem.W.Fast.tw6398828256613621628:True:=trivial
theorem PySem.W.Fast.tw11283846508898064891:True:=trivial
theorem PySem.W.Fast.tw4348885018386029087:True:=trivial
theorem PySem.W.Fast.tw3786796600129643018:True:=trivial
theorem PySem.W.Fast.tw13205812538988349598:True:=trivial
theorem PySem.W.Fast.tw913933001496039174:True:=trivial
theorem PySem.W.Fast.tw4750009649988872848:True:=trivial
theorem PySem.W.Fast.tw12928264276455647835:True:=trivial
theorem PySem.W.Fast.tw1374887814016970566:True:=trivial
theorem PySem.W.Fast.tw18440091784522250715:True:=trivial
theorem PySem.W.Fast.tw15615333605678172837:True:=trivial
theorem PySem.W.Fast.tw13403960582254017221:True:=trivial
theorem PySem.W.Fast.tw277028968430718655:True:=trivial
theorem PySem.W.Fast.tw16955917099363618056:True:=trivial
theorem PySem.W.Fast.tw3172835032212878097:True:=trivial
theorem PySem.W.Fast.tw12478744237306115590:True:=trivial
theorem PySem.W.Fast.tw13459539421533214708:True:=trivial
theorem PySem.W.Fast.tw14038280096212529698:True:=trivial
theorem PySem.W.Fast.tw4718813945144424116:True:=trivial
theorem PySem.W.Fast.tw13482702984232965719:True:=trivial
theorem PySem.W.Fast.tw17131433106282042609:True:=trivial
theorem PySem.W.Fast.tw7320010057055543347:True:=trivial
theorem PySem.W.Fast.tw568742894012648716:True:=trivial
theorem PySem.W.Fast.tw18005649302093575748:True:=trivial
theorem PySem.W.Fast.tw5383619812156058739:True:=trivial
theorem PySem.W.Fast.tw12308380747580280354:True:=trivial
theorem PySem.W.Fast.tw3774273132814880159:True:=trivial
theorem PySem.W.Fast.tw6453357903873513991:True:=trivial
theorem PySem.W.Fast.tw2867356352605342017:True:=trivial
theorem PySem.W.Fast.tw7085904875532754328:True:=trivial
theorem PySem.W.Fast.tw16289953017814360435:True:=trivial
theorem PySem.W.Fast.tw11628790260197135148:True:=trivial
theorem PySem.W.Fast.tw11848633883607645778:True:=trivial
theorem PySem.W.Fast.tw3794026520625164938:True:=trivial
theorem PySem.W.Fast.tw1420788505202149687:True:=trivial
theorem PySem.W.Fast.tw6631362128147328213:True:=trivial
theorem PySem.W.Fast.tw8110680836796288983:True:=trivial
theorem PySem.W.Fast.tw3529980644758591916:True:=trivial
theorem PySem.W.Fast.tw16455927642424726346:True:=trivial
theorem PySem.W.Fast.tw14884968583304999514:True:=trivial
theorem PySem.W.Fast.tw9529698968030329711:True:=trivial
theorem PySem.W.Fast.tw6815872006339105402:True:=trivial
open PySem PySem.W PyProof.Rows
set_option maxRecDepth 100000 in
set_option maxHeartbeats 0 in
theorem PySem.Challenge.cw_freshrooms_k73_shapes_let_by_holds : PySem.Challenge.rw_freshrooms_k73_shapes_let_by.Holds := by
 w_on;o_law;k_head;(case hw=>w_witness2)
 k_fill
 refine Q.walkQ (l:=PySem.Challenge.rw_freshrooms_k73_shapes_let_by) (n:=63) (k:=5) (x:="_law_script") (f:=Nk73.m_law) rfl (by decide) rfl ⟨rfl,by decide,by decide,rfl⟩ (fun w h Y=>PySem.W.kIn_of Y) ?F Nk73.law_true
 case F =>
  intro w mg fa h KX G hmg
  refine' Nk73.all_mk KX G hmg ?_ ?_ ?_ ?_ ?_ ?_ ?_ ?_ ?_ ?_ ?_ ?_ ?_ ?_ ?_ ?_ ?q_MOST_SIGNS ?r_MOST_SIGNS ?z_ValueError ?z_bool ?z_int ?z_isinstance ?z_len ?z_list ?z_max ?z_range ?z_set ?z_sorted ?z_str ?z_tuple ?z_zip ?n_TooGreat ?ec_TooGreat ?ga_TooGreat ?gt_TooGreat ?fa_TooGreat ?fg_TooGreat ?ft_TooGreat ?ob_TooGreat ?bx_TooGreat ?cl_TooGreat ?n_NoFit ?n_RoomError ?h_TooGreat_TooGreat ?i_TooGreat_NoFit ?i_TooGreat_ValueError ?i_TooGreat_RoomError
  all_goals try (refine' Q.Gf.mk ?a ?b ?c ?d;(case a=>k_is);(case b=>k_is);(case c=>k_is);(case d=>k_is))
  (case q_MOST_SIGNS=>k_is)
  (case r_MOST_SIGNS=>exact ⟨_,rfl⟩)
  (case z_ValueError=>k_is)
  (case z_bool=>k_is)
  (case z_int=>k_is)
  (case z_isinstance=>k_is)
  (case z_len=>k_is)
  (case z_list=>k_is)
  (case z_max=>k_is)
  (case z_range=>k_is)
  (case z_set=>k_is)
  (case z_sorted=>k_is)
  (case z_str=>k_is)
  (case z_tuple=>k_is)
  (case z_zip=>k_is)
  (case n_TooGreat=>k_is)
  (case ec_TooGreat=>k_exc)
  (case ga_TooGreat=>k_is)
  (case gt_TooGreat=>k_is)
  (case fa_TooGreat=>k_is)
  (case fg_TooGreat=>k_is)
  (case ft_TooGreat=>k_is)
  (case ob_TooGreat=>k_is)
  (case bx_TooGreat=>k_is)
  (case cl_TooGreat=>k_is)
  (case n_NoFit=>k_is)
  (case n_RoomError=>k_is)
  (case h_TooGreat_TooGreat=>kts_exm)
  (case i_TooGreat_NoFit=>kit_is)
  (case i_TooGreat_ValueError=>kit_is)
  (case i_TooGreat_RoomError=>kit_is)
